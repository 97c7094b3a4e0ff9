/- A part. -/
import Derived.Test.YtmgbbnfgfmfgaaaGreatQ22bPwC
import Derived.Test.YtmgbbnfgfmfgaaaGreatQ22bPwD
import Derived.Test.YtmgbbnfgfmfgaaaGreatSrt
import Derived.Test.YtmgbbnfgfmfgaaaGreatQ22bSh
import Derived.Test.YtmgbbnfgfmfgaaaGreatProg
set_option linter.unusedVariables false
set_option linter.unusedSimpArgs false
set_option linter.unusedSectionVars false
namespace Go.Proofs.YtmgbbnfgfmfgaaaGreat.Ok
open Go Go.Pw Go.Sh Go.Proofs
set_option maxRecDepth 100000
set_option maxHeartbeats 4000000
abbrev _root_.Go.Sh.g7.Pc(x:g7):List PV:=[.I x.Kind,.I x.A,.I x.B,.I x.C]
abbrev _root_.Go.Sh.g7.Pv(x:g7):PV:=.agg x.Pc
abbrev _root_.Go.Sh.b8.Pc(x:b8):List PV:=[.I x.Serial,.I x.Slot,.I x.Prog,.bool x.Started,.bool x.Alive,.bool x.Stuck,.L iF x.Fields]
abbrev _root_.Go.Sh.b8.Pv(x:b8):PV:=.agg x.Pc
abbrev _root_.Go.Sh.k8.Pc(x:k8):List PV:=[.I x.Target,.bool x.Intact,.I x.Call]
abbrev _root_.Go.Sh.k8.Pv(x:k8):PV:=.agg x.Pc
abbrev _root_.Go.Sh.g8.Pc(x:g8):List PV:=[.I x.Key,.I x.Val]
abbrev _root_.Go.Sh.g8.Pv(x:g8):PV:=.agg x.Pc
abbrev _root_.Go.Sh.g6.Pc(x:g6):List PV:=[.I x.Kind,.I x.At,.I x.Prog]
abbrev _root_.Go.Sh.g6.Pv(x:g6):PV:=.agg x.Pc
abbrev _root_.Go.Sh.n0.Pc(x:n0):List PV:=[.I x.Serial,.I x.Strong,.I x.Weak,.I x.Prog,.bool x.Started,.L iF x.Fields]
abbrev _root_.Go.Sh.n0.Pv(x:n0):PV:=.agg x.Pc
abbrev _root_.Go.Sh.c8.Pc(x:c8):List PV:=[.I x.State,.I x.Gen,.I x.Val.Serial,.I x.Val.Strong,.I x.Val.Weak,.I x.Val.Prog,.bool x.Val.Started,.L iF x.Val.Fields]
abbrev _root_.Go.Sh.c8.Pv(x:c8):PV:=.agg x.Pc
abbrev _root_.Go.Sh.g5.Pc(x:g5):List PV:=[.I x.State,.I x.Key,.I x.Val]
abbrev _root_.Go.Sh.g5.Pv(x:g5):PV:=.agg x.Pc
abbrev _root_.Go.Sh.l5.Pc(x:l5):List PV:=[tG x.part,.I x.least,.I x.most,.I x.e]
abbrev _root_.Go.Sh.l5.Pv(x:l5):PV:=.agg x.Pc
abbrev _root_.Go.Sh.l4.Pc(x:l4):List PV:=[.L c8.Pv x.b7,.I x.Last]
abbrev _root_.Go.Sh.l4.Pv(x:l4):PV:=.agg x.Pc
abbrev _root_.Go.Sh.b6.Pc(x:b6):List PV:=[.L c8.Pv x.S.b7,.I x.S.Last,.I x.Serial]
abbrev _root_.Go.Sh.b6.Pv(x:b6):PV:=.agg x.Pc
abbrev _root_.Go.Sh.j5.Pc(x:j5):List PV:=[.L g6.Pv x.L,.I x.Cap]
abbrev _root_.Go.Sh.j5.Pv(x:j5):PV:=.agg x.Pc
abbrev _root_.Go.Sh.b9.Pc(x:b9):List PV:=[.L c8.Pv x.S.S.b7,.I x.S.S.Last,.I x.S.Serial,.L iF x.Roots,.L k8.Pv x.b7,.L g5.Pv x.T,.L g6.Pv x.Q.L,.I x.Q.Cap]
abbrev _root_.Go.Sh.b9.Pv(x:b9):PV:=.agg x.Pc
abbrev _root_.Go.Sh.s7.Pc(x:s7):List PV:=[.L c8.Pv x.X.S.S.b7,.I x.X.S.S.Last,.I x.X.S.Serial,.L iF x.X.Roots,.L k8.Pv x.X.b7,.L g5.Pv x.X.T,.L g6.Pv x.X.Q.L,.I x.X.Q.Cap,.L (Ls g7.Pv) x.Progs]
abbrev _root_.Go.Sh.s7.Pv(x:s7):PV:=.agg x.Pc
abbrev _root_.Go.Sh.a8.Pc(x:a8):List PV:=[.L b8.Pv x.Nodes,.L iF x.Slots,.L iF x.Gens,.I x.Last,.I x.Places,.I x.Serial,.L iF x.Roots,.L k8.Pv x.b7,.L g8.Pv x.Pairs,.L g6.Pv x.Tasks,.L (Ls g7.Pv) x.Progs]
abbrev _root_.Go.Sh.a8.Pv(x:a8):PV:=.agg x.Pc
abbrev _root_.Go.Sh.g9.Pc(x:g9):List PV:=[.I x.V,.I x.E]
abbrev _root_.Go.Sh.g9.Pv(x:g9):PV:=.agg x.Pc
abbrev _root_.Go.Sh.c9.Pc(x:c9):List PV:=[.L iF x.L,.I x.Cap]
abbrev _root_.Go.Sh.c9.Pv(x:c9):PV:=.agg x.Pc
abbrev _root_.Go.Sh.r8.Pc(x:r8):List PV:=[.L c8.Pv x.x.S.S.b7,.I x.x.S.S.Last,.I x.x.S.Serial,.L iF x.x.Roots,.L k8.Pv x.x.b7,.L g5.Pv x.x.T,.L g6.Pv x.x.Q.L,.I x.x.Q.Cap,.I x.o.Kind,.I x.o.A,.I x.o.B,.I x.o.C]
abbrev _root_.Go.Sh.r8.Pv(x:r8):PV:=.agg x.Pc
abbrev _root_.Go.Sh.L3.Pc(x:L3):List PV:=[.I x.r,.I x.h]
abbrev _root_.Go.Sh.L3.Pv(x:L3):PV:=.agg x.Pc
abbrev _root_.Go.Sh.H5.Pc(x:H5):List PV:=[.I x.h,.I x.k,.I x.v]
abbrev _root_.Go.Sh.H5.Pv(x:H5):PV:=.agg x.Pc
abbrev _root_.Go.Sh.L2.Pc(x:L2):List PV:=[.L g5.Pv x.t]
abbrev _root_.Go.Sh.L2.Pv(x:L2):PV:=.agg x.Pc
abbrev _root_.Go.Sh.z7.Pc(x:z7):List PV:=[.I x.V,.I x.E]
abbrev _root_.Go.Sh.z7.Pv(x:z7):PV:=.agg x.Pc
abbrev _root_.Go.Sh.aJ.Pc(x:aJ):List PV:=[.I x.Serial,.I x.Strong,.I x.Weak,.I x.Prog,.bool x.Started,.L iF x.Fields]
abbrev _root_.Go.Sh.aJ.Pv(x:aJ):PV:=.agg x.Pc
abbrev _root_.Go.Sh.y7.Pc(x:y7):List PV:=[.I x.State,.I x.Gen,.I x.Val.Serial,.I x.Val.Strong,.I x.Val.Weak,.I x.Val.Prog,.bool x.Val.Started,.L iF x.Val.Fields]
abbrev _root_.Go.Sh.y7.Pv(x:y7):PV:=.agg x.Pc
abbrev _root_.Go.Sh.x6.Pc(x:x6):List PV:=[.L y7.Pv x.b7,.I x.Last,.I x.Serial]
abbrev _root_.Go.Sh.x6.Pv(x:x6):PV:=.agg x.Pc
abbrev _root_.Go.Sh.G5.Pc(x:G5):List PV:=[.I x.State,.I x.Gen,.I x.Val]
abbrev _root_.Go.Sh.G5.Pv(x:G5):PV:=.agg x.Pc
abbrev _root_.Go.Sh.U1.Pc(x:U1):List PV:=[.L G5.Pv x.b7,.I x.Last]
abbrev _root_.Go.Sh.U1.Pv(x:U1):PV:=.agg x.Pc
def rL(t:Nat):Nat:=if t=162 then 4 else if t=166 then 0 else if t=170 then 1 else 0
theorem G3:J7 Tryz.prog 3=some false:=by kernel_rfl
theorem oZ:J7 Tryz.prog 4=some false:=by kernel_rfl
theorem Ul:J7 Tryz.prog 22=some false:=by kernel_rfl
theorem Un:J7 Tryz.prog 27=some false:=by kernel_rfl
theorem iC:J7 Tryz.prog 28=some false:=by kernel_rfl
theorem CG:J7 Tryz.prog 29=some false:=by kernel_rfl
theorem Uo:J7 Tryz.prog 30=some false:=by kernel_rfl
theorem Mm:J7 Tryz.prog 31=some false:=by kernel_rfl
theorem A2:J7 Tryz.prog 33=some true:=by kernel_rfl
theorem vf:J7 Tryz.prog 34=some false:=by kernel_rfl
theorem H0:J7 Tryz.prog 51=some true:=by kernel_rfl
theorem Up:J7 Tryz.prog 63=some false:=by kernel_rfl
theorem iD:J7 Tryz.prog 65=some true:=by kernel_rfl
theorem mX:J7 Tryz.prog 67=some true:=by kernel_rfl
theorem ya:J7 Tryz.prog 68=some false:=by kernel_rfl
theorem jK:J7 Tryz.prog 70=some true:=by kernel_rfl
theorem u5:J7 Tryz.prog 72=some true:=by kernel_rfl
theorem mY:J7 Tryz.prog 74=some true:=by kernel_rfl
theorem Mn:J7 Tryz.prog 82=some false:=by kernel_rfl
theorem Uq:J7 Tryz.prog 84=some true:=by kernel_rfl
theorem gD:J7 Tryz.prog 100=some true:=by kernel_rfl
theorem CE:J7 Tryz.prog 102=some true:=by kernel_rfl
theorem cm:J7 Tryz.prog 112=some true:=by kernel_rfl
theorem xq:J7 Tryz.prog 119=some true:=by kernel_rfl
theorem sS:J7 Tryz.prog 178=some true:=by kernel_rfl
theorem Qk:J7 Tryz.prog 188=some false:=by kernel_rfl
theorem Ql:J7 Tryz.prog 190=some true:=by kernel_rfl
theorem CF:J7 Tryz.prog 196=some false:=by kernel_rfl
theorem jd:J7 Tryz.prog 264=some true:=by kernel_rfl
theorem ql:J7 Tryz.prog 266=some true:=by kernel_rfl
theorem O9:M0 Tryz.prog 3=some 8:=by kernel_rfl
theorem Ur:M0 Tryz.prog 28=some 24:=by kernel_rfl
theorem Mo:M0 Tryz.prog 51=some 16:=by kernel_rfl
theorem Us:M0 Tryz.prog 54=some 16:=by kernel_rfl
theorem mZ:M0 Tryz.prog 100=some 56:=by kernel_rfl
theorem IA:M0 Tryz.prog 107=some 24:=by kernel_rfl
theorem na:M0 Tryz.prog 112=some 24:=by kernel_rfl
theorem qm:M0 Tryz.prog 135=some 16:=by kernel_rfl
theorem IB:M0 Tryz.prog 180=some 80:=by kernel_rfl
theorem Qm:M0 Tryz.prog 183=some 80:=by kernel_rfl
theorem IC:M0 Tryz.prog 251=some 24:=by kernel_rfl
theorem Qn:M0 Tryz.prog 253=some 24:=by kernel_rfl
theorem nb:A5 Tryz.prog 22=some 117:=by kernel_rfl
theorem bk:A5 Tryz.prog 23=some 28:=by kernel_rfl
theorem A9:A5 Tryz.prog 27=some 100:=by kernel_rfl
theorem l6:A5 Tryz.prog 28=some 3:=by kernel_rfl
theorem T4:A5 Tryz.prog 29=some 107:=by kernel_rfl
theorem N2:A5 Tryz.prog 30=some 135:=by kernel_rfl
theorem I9:A5 Tryz.prog 31=some 112:=by kernel_rfl
theorem T5:A5 Tryz.prog 63=some 180:=by kernel_rfl
theorem cU:A5 Tryz.prog 68=some 251:=by kernel_rfl
theorem iE:A5 Tryz.prog 82=some 183:=by kernel_rfl
theorem jL:A5 Tryz.prog 92=some 51:=by kernel_rfl
theorem kN:A5 Tryz.prog 114=some 54:=by kernel_rfl
theorem gE:A5 Tryz.prog 117=some 119:=by kernel_rfl
theorem qn:A5 Tryz.prog 188=some 253:=by kernel_rfl
theorem cp:A5 Tryz.prog 258=some 264:=by kernel_rfl
theorem nc:A5 Tryz.prog 357=some 31:=by kernel_rfl
theorem Mq:N6 Tryz.prog 33 0=some (0,27):=by kernel_rfl
theorem Mr:N6 Tryz.prog 33 1=some (1,28):=by kernel_rfl
theorem yb:N6 Tryz.prog 33 2=some (2,28):=by kernel_rfl
theorem Ms:N6 Tryz.prog 33 6=some (6,28):=by kernel_rfl
theorem EE:N6 Tryz.prog 33 7=some (7,29):=by kernel_rfl
theorem Mt:N6 Tryz.prog 33 8=some (8,30):=by kernel_rfl
theorem Mu:N6 Tryz.prog 33 9=some (9,31):=by kernel_rfl
theorem KS:N6 Tryz.prog 33 10=some (10,22):=by kernel_rfl
theorem yd:N6 Tryz.prog 51 0=some (0,3):=by kernel_rfl
theorem Mv:N6 Tryz.prog 51 1=some (1,34):=by kernel_rfl
theorem Mw:N6 Tryz.prog 65 0=some (0,63):=by kernel_rfl
theorem Mx:N6 Tryz.prog 70 0=some (0,31):=by kernel_rfl
theorem ye:N6 Tryz.prog 72 1=some (3,28):=by kernel_rfl
theorem EF:N6 Tryz.prog 72 2=some (4,29):=by kernel_rfl
theorem My:N6 Tryz.prog 72 3=some (5,68):=by kernel_rfl
theorem EG:N6 Tryz.prog 72 4=some (6,70):=by kernel_rfl
theorem Mz:N6 Tryz.prog 74 0=some (0,72):=by kernel_rfl
theorem EH:N6 Tryz.prog 84 0=some (0,82):=by kernel_rfl
theorem vg:N6 Tryz.prog 100 0=some (0,3):=by kernel_rfl
theorem BD:N6 Tryz.prog 100 3=some (3,4):=by kernel_rfl
theorem KE:N6 Tryz.prog 100 4=some (4,4):=by kernel_rfl
theorem BE:N6 Tryz.prog 100 5=some (5,4):=by kernel_rfl
theorem KF:N6 Tryz.prog 100 6=some (6,28):=by kernel_rfl
theorem BF:N6 Tryz.prog 102 0=some (0,3):=by kernel_rfl
theorem KG:N6 Tryz.prog 102 1=some (1,3):=by kernel_rfl
theorem KH:N6 Tryz.prog 102 4=some (4,4):=by kernel_rfl
theorem KI:N6 Tryz.prog 102 5=some (5,28):=by kernel_rfl
theorem vh:N6 Tryz.prog 107 0=some (0,3):=by kernel_rfl
theorem KJ:N6 Tryz.prog 107 1=some (1,4):=by kernel_rfl
theorem KK:N6 Tryz.prog 119 0=some (0,3):=by kernel_rfl
theorem KL:N6 Tryz.prog 135 0=some (0,3):=by kernel_rfl
theorem BG:N6 Tryz.prog 135 1=some (1,3):=by kernel_rfl
theorem KM:N6 Tryz.prog 178 1=some (1,3):=by kernel_rfl
theorem KN:N6 Tryz.prog 178 2=some (2,3):=by kernel_rfl
theorem BH:N6 Tryz.prog 178 4=some (4,4):=by kernel_rfl
theorem BI:N6 Tryz.prog 180 0=some (0,3):=by kernel_rfl
theorem KO:N6 Tryz.prog 180 2=some (2,178):=by kernel_rfl
theorem BJ:N6 Tryz.prog 183 2=some (2,102):=by kernel_rfl
theorem KP:N6 Tryz.prog 190 0=some (0,188):=by kernel_rfl
theorem KQ:N6 Tryz.prog 251 1=some (1,3):=by kernel_rfl
theorem BK:N6 Tryz.prog 253 0=some (0,3):=by kernel_rfl
theorem KR:N6 Tryz.prog 264 2=some (2,3):=by kernel_rfl
theorem MA:PI Tryz.prog 3=some .i64:=by kernel_rfl
theorem Qp:B6 Tryz.prog 111:=kC Tryz.func111 J
theorem Qq:B6 Tryz.prog 130:=kC Tryz.func130 J
theorem Qr:B6 Tryz.prog 133:=kC Tryz.func133 J
theorem Qt:B6 Tryz.prog 134:=kC Tryz.func134 J
theorem CH:B6 Tryz.prog 147:=kC Tryz.func147 J
theorem Qu:B6 Tryz.prog 200:=kC Tryz.func200 J
theorem ID:B6 Tryz.prog 224:=kC Tryz.func224 J
theorem Qv:B6 Tryz.prog 230:=kC Tryz.func230 J
theorem Qw:B6 Tryz.prog 267:=kC Tryz.func267 J
theorem IE:B6 Tryz.prog 277:=kC Tryz.func277 J
theorem Qx:B6 Tryz.prog 321:=kC Tryz.func321 J
theorem Qy:B6 Tryz.prog 325:=kC Tryz.func325 J
theorem Qz:B6 Tryz.prog 331:=kC Tryz.func331 J
theorem QA:B6 Tryz.prog 342:=kC Tryz.func342 J
theorem QB:B6 Tryz.prog 343:=kC Tryz.func343 J
theorem QC:B6 Tryz.prog 363:=kC Tryz.func363 J
theorem IF:B6 Tryz.prog 364:=kC Tryz.func364 J
theorem IG:B6 Tryz.prog 366:=kC Tryz.func366 J
theorem QD:B6 Tryz.prog 381:=kC Tryz.func381 J
theorem IH:B6 Tryz.prog 382:=kC Tryz.func382 J
theorem Q7:uR Tryz.prog 196=some (3,4):=by kernel_rfl
theorem bK:uR Tryz.prog 229=some (3,227):=by kernel_rfl
theorem yf:uR Tryz.prog 242=some (3,3):=by kernel_rfl
theorem Z1:uR Tryz.prog 260=some (3,258):=by kernel_rfl
theorem MC:D5 Tryz.prog 33=some (λi=>(#[(0,1),(1,1),(2,1),(3,1),(4,1),(5,1),(6,1),(7,1),(8,1),(9,1),(10,1)]:Array (Nat × Nat))[i]?):=by kernel_rfl
theorem bm:D5 Tryz.prog 51=some (λi=>(#[(0,1),(1,1)]:Array (Nat × Nat))[i]?):=by kernel_rfl
theorem MD:D5 Tryz.prog 65=some (λi=>(#[(0,1),(1,1)]:Array (Nat × Nat))[i]?):=by kernel_rfl
theorem ME:D5 Tryz.prog 67=some (λi=>(#[(0,2),(2,1)]:Array (Nat × Nat))[i]?):=by kernel_rfl
theorem MF:D5 Tryz.prog 70=some (λi=>(#[(0,1),(1,1)]:Array (Nat × Nat))[i]?):=by kernel_rfl
theorem MG:D5 Tryz.prog 72=some (λi=>(#[(0,3),(3,1),(4,1),(5,1),(6,2)]:Array (Nat × Nat))[i]?):=by kernel_rfl
theorem GO:D5 Tryz.prog 74=some (λi=>(#[(0,8),(8,1)]:Array (Nat × Nat))[i]?):=by kernel_rfl
theorem Ut:D5 Tryz.prog 84=some (λi=>(#[(0,1),(1,1),(2,1)]:Array (Nat × Nat))[i]?):=by kernel_rfl
theorem II:D5 Tryz.prog 100=some (λi=>(#[(0,1),(1,1),(2,1),(3,1),(4,1),(5,1),(6,1)]:Array (Nat × Nat))[i]?):=by kernel_rfl
theorem IJ:D5 Tryz.prog 102=some (λi=>(#[(0,1),(1,1),(2,1),(3,1),(4,1),(5,1)]:Array (Nat × Nat))[i]?):=by kernel_rfl
theorem QE:D5 Tryz.prog 107=some (λi=>(#[(0,1),(1,1),(2,1)]:Array (Nat × Nat))[i]?):=by kernel_rfl
theorem sU:D5 Tryz.prog 112=some (λi=>(#[(0,1),(1,1),(2,1)]:Array (Nat × Nat))[i]?):=by kernel_rfl
theorem xr:D5 Tryz.prog 119=some (λi=>(#[(0,1),(1,1),(2,1),(3,1)]:Array (Nat × Nat))[i]?):=by kernel_rfl
theorem CI:D5 Tryz.prog 135=some (λi=>(#[(0,1),(1,1)]:Array (Nat × Nat))[i]?):=by kernel_rfl
theorem QF:D5 Tryz.prog 162=some (λi=>(#[(0,4)]:Array (Nat × Nat))[i]?):=by kernel_rfl
theorem QG:D5 Tryz.prog 166=some (λi=>(#[]:Array (Nat × Nat))[i]?):=by kernel_rfl
theorem QH:D5 Tryz.prog 170=some (λi=>(#[(0,1)]:Array (Nat × Nat))[i]?):=by kernel_rfl
theorem QI:D5 Tryz.prog 178=some (λi=>(#[(0,1),(1,1),(2,1),(3,1),(4,1),(5,1)]:Array (Nat × Nat))[i]?):=by kernel_rfl
theorem xt:D5 Tryz.prog 180=some (λi=>(#[(0,1),(1,1),(2,6)]:Array (Nat × Nat))[i]?):=by kernel_rfl
theorem QJ:D5 Tryz.prog 183=some (λi=>(#[(0,1),(1,1),(2,6)]:Array (Nat × Nat))[i]?):=by kernel_rfl
theorem QK:D5 Tryz.prog 190=some (λi=>(#[(0,1),(1,1)]:Array (Nat × Nat))[i]?):=by kernel_rfl
theorem QM:D5 Tryz.prog 233=some (λi=>(#[(0,8),(8,4)]:Array (Nat × Nat))[i]?):=by kernel_rfl
theorem IK:D5 Tryz.prog 251=some (λi=>(#[(0,1),(1,1),(2,1)]:Array (Nat × Nat))[i]?):=by kernel_rfl
theorem QN:D5 Tryz.prog 253=some (λi=>(#[(0,1),(1,1),(2,1)]:Array (Nat × Nat))[i]?):=by kernel_rfl
theorem eM:D5 Tryz.prog 264=some (λi=>(#[(0,1),(1,1),(2,1),(3,1)]:Array (Nat × Nat))[i]?):=by kernel_rfl
theorem QO:D5 Tryz.prog 266=some (λi=>(#[(0,1),(1,1)]:Array (Nat × Nat))[i]?):=by kernel_rfl
theorem QP:D5 Tryz.prog 403=some (λi=>(#[(0,1),(1,1),(2,1)]:Array (Nat × Nat))[i]?):=by kernel_rfl
theorem QQ:D5 Tryz.prog 407=some (λi=>(#[(0,1)]:Array (Nat × Nat))[i]?):=by kernel_rfl
theorem QR:D5 Tryz.prog 420=some (λi=>(#[(0,1)]:Array (Nat × Nat))[i]?):=by kernel_rfl
theorem QS:D5 Tryz.prog 422=some (λi=>(#[(0,1),(1,1)]:Array (Nat × Nat))[i]?):=by kernel_rfl
theorem Uu:vr Tryz.prog 54=some [1,1]:=by kernel_rfl
theorem IL:sa Tryz.prog 162=true:=by kernel_rfl
theorem IM:sa Tryz.prog 166=true:=by kernel_rfl
theorem IN:sa Tryz.prog 170=true:=by kernel_rfl
theorem o5:r7 Tryz.prog 3=some 1:=by kernel_rfl
theorem Xm:r7 Tryz.prog 4=some 1:=by kernel_rfl
theorem Uv:r7 Tryz.prog 27=some 1:=by kernel_rfl
theorem bL:r7 Tryz.prog 28=some 1:=by kernel_rfl
theorem vi:r7 Tryz.prog 31=some 1:=by kernel_rfl
theorem w7:r7 Tryz.prog 33=some 11:=by kernel_rfl
theorem B0:r7 Tryz.prog 51=some 2:=by kernel_rfl
theorem yg:r7 Tryz.prog 54=some 2:=by kernel_rfl
theorem eN:r7 Tryz.prog 65=some 2:=by kernel_rfl
theorem nf:r7 Tryz.prog 67=some 3:=by kernel_rfl
theorem cV:r7 Tryz.prog 70=some 2:=by kernel_rfl
theorem p7:r7 Tryz.prog 72=some 8:=by kernel_rfl
theorem dF:r7 Tryz.prog 74=some 9:=by kernel_rfl
theorem Uw:r7 Tryz.prog 84=some 3:=by kernel_rfl
theorem u9:r7 Tryz.prog 100=some 7:=by kernel_rfl
theorem sV:r7 Tryz.prog 102=some 6:=by kernel_rfl
theorem Y7:r7 Tryz.prog 107=some 3:=by kernel_rfl
theorem D2:r7 Tryz.prog 112=some 3:=by kernel_rfl
theorem xu:r7 Tryz.prog 117=some 1:=by kernel_rfl
theorem je:r7 Tryz.prog 119=some 4:=by kernel_rfl
theorem U4:r7 Tryz.prog 135=some 2:=by kernel_rfl
theorem QT:r7 Tryz.prog 166=some 0:=by kernel_rfl
theorem kO:r7 Tryz.prog 178=some 6:=by kernel_rfl
theorem V3:r7 Tryz.prog 180=some 8:=by kernel_rfl
theorem gF:r7 Tryz.prog 183=some 8:=by kernel_rfl
theorem QU:r7 Tryz.prog 188=some 1:=by kernel_rfl
theorem IP:r7 Tryz.prog 190=some 2:=by kernel_rfl
theorem dz:r7 Tryz.prog 251=some 3:=by kernel_rfl
theorem sW:r7 Tryz.prog 253=some 3:=by kernel_rfl
theorem O2:r7 Tryz.prog 264=some 4:=by kernel_rfl
theorem kP:r7 Tryz.prog 266=some 2:=by kernel_rfl
theorem I3:Tryz.prog.underlying 3=some (.int .i64):=by kernel_rfl
theorem TA:Tryz.prog.underlying 4=some (.bool):=by kernel_rfl
theorem MH:Tryz.prog.underlying 5=some (.int .u8):=by kernel_rfl
theorem C0:A3 Tryz.prog 3=some ((.I 0)):=by kernel_rfl
theorem sY:A3 Tryz.prog 4=some ((.bool false)):=by kernel_rfl
theorem yh:A3 Tryz.prog 28=some ((.slice none 0 0)):=by kernel_rfl
theorem Ux:A3 Tryz.prog 31=some ((.slice none 0 0)):=by kernel_rfl
theorem MI:A3 Tryz.prog 33=some ((.agg #[(.slice none 0 0),(.slice none 0 0),(.slice none 0 0),(.I 0),(.I 0),(.I 0),(.slice none 0 0),(.slice none 0 0),(.slice none 0 0),(.slice none 0 0),(.slice none 0 0)])):=by kernel_rfl
theorem U8:A3 Tryz.prog 51=some ((.agg #[(.I 0),(.I 0)])):=by kernel_rfl
theorem MJ:A3 Tryz.prog 54=some ((.agg #[(.I 0),(.I 0)])):=by kernel_rfl
theorem MK:A3 Tryz.prog 65=some ((.agg #[(.slice none 0 0),(.I 0)])):=by kernel_rfl
theorem ML:A3 Tryz.prog 67=some ((.agg #[(.slice none 0 0),(.I 0),(.I 0)])):=by kernel_rfl
theorem MM:A3 Tryz.prog 70=some ((.agg #[(.slice none 0 0),(.I 0)])):=by kernel_rfl
theorem MN:A3 Tryz.prog 72=some ((.agg #[(.slice none 0 0),(.I 0),(.I 0),(.slice none 0 0),(.slice none 0 0),(.slice none 0 0),(.slice none 0 0),(.I 0)])):=by kernel_rfl
theorem GP:A3 Tryz.prog 74=some ((.agg #[(.slice none 0 0),(.I 0),(.I 0),(.slice none 0 0),(.slice none 0 0),(.slice none 0 0),(.slice none 0 0),(.I 0),(.slice none 0 0)])):=by kernel_rfl
theorem Uy:A3 Tryz.prog 84=some ((.agg #[(.slice none 0 0),(.I 0),(.I 0)])):=by kernel_rfl
theorem ay:A3 Tryz.prog 100=some ((.agg #[(.I 0),(.I 0),(.I 0),(.bool false),(.bool false),(.bool false),(.slice none 0 0)])):=by kernel_rfl
theorem IQ:A3 Tryz.prog 102=some ((.agg #[(.I 0),(.I 0),(.I 0),(.I 0),(.bool false),(.slice none 0 0)])):=by kernel_rfl
theorem CJ:A3 Tryz.prog 107=some ((.agg #[(.I 0),(.bool false),(.I 0)])):=by kernel_rfl
theorem az:A3 Tryz.prog 112=some ((.agg #[(.I 0),(.I 0),(.I 0)])):=by kernel_rfl
theorem QV:A3 Tryz.prog 117=some ((.slice none 0 0)):=by kernel_rfl
theorem sX:A3 Tryz.prog 119=some ((.agg #[(.I 0),(.I 0),(.I 0),(.I 0)])):=by kernel_rfl
theorem aA:A3 Tryz.prog 135=some ((.agg #[(.I 0),(.I 0)])):=by kernel_rfl
theorem IS:A3 Tryz.prog 162=some ((.agg #[(.I 0),(.I 0),(.I 0),(.I 0)])):=by kernel_rfl
theorem IT:A3 Tryz.prog 166=some ((.agg #[])):=by kernel_rfl
theorem IU:A3 Tryz.prog 170=some ((.agg #[(.I 0)])):=by kernel_rfl
theorem QW:A3 Tryz.prog 178=some ((.agg #[(.I 0),(.I 0),(.I 0),(.I 0),(.bool false),(.slice none 0 0)])):=by kernel_rfl
theorem qo:A3 Tryz.prog 180=some ((.agg #[(.I 0),(.I 0),(.I 0),(.I 0),(.I 0),(.I 0),(.bool false),(.slice none 0 0)])):=by kernel_rfl
theorem CK:A3 Tryz.prog 183=some ((.agg #[(.I 0),(.I 0),(.I 0),(.I 0),(.I 0),(.I 0),(.bool false),(.slice none 0 0)])):=by kernel_rfl
theorem QX:A3 Tryz.prog 190=some ((.agg #[(.slice none 0 0),(.I 0)])):=by kernel_rfl
theorem QY:A3 Tryz.prog 227=some (.nilFunc):=by kernel_rfl
theorem QZ:A3 Tryz.prog 233=some ((.agg #[(.slice none 0 0),(.I 0),(.I 0),(.slice none 0 0),(.slice none 0 0),(.slice none 0 0),(.slice none 0 0),(.I 0),(.I 0),(.I 0),(.I 0),(.I 0)])):=by kernel_rfl
theorem xv:A3 Tryz.prog 251=some ((.agg #[(.I 0),(.I 0),(.I 0)])):=by kernel_rfl
theorem CL:A3 Tryz.prog 253=some ((.agg #[(.I 0),(.I 0),(.I 0)])):=by kernel_rfl
theorem Ra:A3 Tryz.prog 258=some ((.slice none 0 0)):=by kernel_rfl
theorem M7:A3 Tryz.prog 264=some ((.agg #[.nilFunc,(.I 0),(.I 0),(.I 0)])):=by kernel_rfl
theorem Rb:A3 Tryz.prog 266=some ((.agg #[(.slice none 0 0),(.I 0)])):=by kernel_rfl
theorem Rc:A3 Tryz.prog 403=some ((.agg #[(.I 0),(.I 0),(.I 0)])):=by kernel_rfl
theorem Re:A3 Tryz.prog 407=some ((.agg #[(.slice none 0 0)])):=by kernel_rfl
theorem Rf:A3 Tryz.prog 420=some ((.agg #[.nilFunc])):=by kernel_rfl
theorem Rg:A3 Tryz.prog 422=some ((.agg #[(.I 0),(.I 0)])):=by kernel_rfl
theorem s6:Tryz.prog.follows .mixedOrders=true:=by kernel_rfl
def tb:TB:=⟨[((33,0),(0,27)),((33,1),(1,28)),((33,2),(2,28)),((33,3),(3,3)),((33,4),(4,3)),((33,5),(5,3)),((33,6),(6,28)),((33,7),(7,29)),((33,8),(8,30)),((33,9),(9,31)),((33,10),(10,22)),((51,0),(0,3)),((51,1),(1,34)),((65,0),(0,63)),((65,1),(1,3)),((67,0),(0,65)),((67,1),(2,3)),((70,0),(0,31)),((70,1),(1,3)),((72,0),(0,67)),((72,1),(3,28)),((72,2),(4,29)),((72,3),(5,68)),((72,4),(6,70)),((74,0),(0,72)),((74,1),(8,22)),((84,0),(0,82)),((84,1),(1,3)),((100,0),(0,3)),((100,1),(1,3)),((100,2),(2,3)),((100,3),(3,4)),((100,4),(4,4)),((100,5),(5,4)),((100,6),(6,28)),((102,0),(0,3)),((102,1),(1,3)),((107,0),(0,3)),((107,1),(1,4)),((107,2),(2,3)),((112,0),(0,3)),((112,1),(1,3)),((112,2),(2,3)),((119,0),(0,3)),((119,1),(1,3)),((119,2),(2,3)),((119,3),(3,3)),((135,0),(0,3)),((135,1),(1,3)),((162,0),(0,119)),((170,0),(0,3)),((178,0),(0,3)),((178,1),(1,3)),((178,2),(2,3)),((178,3),(3,3)),((178,4),(4,4)),((178,5),(5,28)),((180,0),(0,3)),((180,1),(1,3)),((180,2),(2,178)),((183,0),(0,3)),((183,1),(1,3)),((183,2),(2,102)),((190,0),(0,188)),((233,0),(0,72)),((233,1),(8,119)),((251,0),(0,3)),((251,1),(1,3)),((251,2),(2,3)),((253,0),(0,3)),((253,1),(1,3)),((253,2),(2,3)),((264,0),(0,262)),((264,1),(1,3)),((264,3),(3,34)),((266,0),(0,28)),((266,1),(1,3)),((403,0),(0,3)),((403,1),(1,3)),((403,2),(2,3)),((407,0),(0,68)),((420,0),(0,418)),((422,0),(0,3)),((422,1),(1,3))],[(3,false),(4,false),(22,false),(27,false),(28,false),(29,false),(30,false),(31,false),(33,true),(34,false),(51,true),(54,true),(63,false),(65,true),(67,true),(68,false),(70,true),(72,true),(74,true),(82,false),(84,true),(100,true),(102,true),(107,true),(112,true),(117,false),(119,true),(135,true),(178,true),(180,true),(188,false),(190,true),(196,false),(233,true),(242,false),(251,true),(253,true),(262,false),(264,true),(266,true),(285,false),(418,false),(420,true)],[(3,1),(4,1),(27,1),(28,1),(29,1),(30,1),(31,1),(33,11),(34,1),(51,2),(54,2),(63,1),(65,2),(67,3),(68,1),(70,2),(72,8),(74,9),(84,3),(100,7),(102,6),(107,3),(112,3),(119,4),(135,2),(162,4),(170,1),(178,6),(180,8),(190,2),(196,1),(233,12),(242,1),(251,3),(253,3),(264,4),(266,2),(420,1)],[(3,.I 0),(4,.bool false),(28,.lst true (List.map iF [])),(29,.lst true (List.map k8.Pv [])),(30,.lst true (List.map g8.Pv [])),(33,.agg [.lst true (List.map b8.Pv []),.lst true (List.map iF []),.lst true (List.map iF []),.I 0,.I 0,.I 0,.lst true (List.map iF []),.lst true (List.map k8.Pv []),.lst true (List.map g8.Pv []),.lst true (List.map g6.Pv []),.lst true (List.map (Ls g7.Pv) [])]),(34,.I 0),(51,.agg [.I 0,.I 0]),(65,.agg [.lst true (List.map c8.Pv []),.I 0]),(67,.agg [.lst true (List.map c8.Pv []),.I 0,.I 0]),(68,.lst true (List.map g5.Pv [])),(70,.agg [.lst true (List.map g6.Pv []),.I 0]),(72,.agg [.lst true (List.map c8.Pv []),.I 0,.I 0,.lst true (List.map iF []),.lst true (List.map k8.Pv []),.lst true (List.map g5.Pv []),.lst true (List.map g6.Pv []),.I 0]),(74,.agg [.lst true (List.map c8.Pv []),.I 0,.I 0,.lst true (List.map iF []),.lst true (List.map k8.Pv []),.lst true (List.map g5.Pv []),.lst true (List.map g6.Pv []),.I 0,.lst true (List.map (Ls g7.Pv) [])]),(84,.agg [.lst true (List.map y7.Pv []),.I 0,.I 0]),(100,.agg [.I 0,.I 0,.I 0,.bool false,.bool false,.bool false,.lst true (List.map iF [])]),(102,.agg [.I 0,.I 0,.I 0,.I 0,.bool false,.lst true (List.map iF [])]),(107,.agg [.I 0,.bool false,.I 0]),(112,.agg [.I 0,.I 0,.I 0]),(119,.agg [.I 0,.I 0,.I 0,.I 0]),(135,.agg [.I 0,.I 0]),(162,.agg [.I 0,.I 0,.I 0,.I 0]),(166,.agg []),(170,.agg [.I 0]),(178,.agg [.I 0,.I 0,.I 0,.I 0,.bool false,.lst true (List.map iF [])]),(180,.agg [.I 0,.I 0,.I 0,.I 0,.I 0,.I 0,.bool false,.lst true (List.map iF [])]),(190,.agg [.lst true (List.map G5.Pv []),.I 0]),(196,.abs GM),(242,.abs GM),(251,.agg [.I 0,.I 0,.I 0]),(253,.agg [.I 0,.I 0,.I 0]),(264,.agg [.nilfn,.I 0,.I 0,.I 0]),(266,.agg [.lst true (List.map iF []),.I 0]),(420,.agg [.nilfn])]⟩
theorem Tb:TB.Ok Tryz.prog tb:=⟨by kernel_rfl,by kernel_rfl,by kernel_rfl,by kernel_rfl⟩
section
variable{X:Ctx}{ops:Array Oper}{K:Ctx->St->Prop}{i n:Nat}{l l':List Oper}{env env':Nat->PV}{σ σ':Nat->Option Row}{Q:PX->Ctx->St->Prop}{y:Code}{KD:St->Prop}{bar:List Nat}
theorem S1(n:Nat)(h:run tb n l env σ=some (l',env',σ'))(k:Sq X ops (i+n) l' K ⟨env',σ'⟩)(hb:TB.Ok X.P tb:=by exact Tb):Sq X ops i l K ⟨env,σ⟩:=WC hb n h k
theorem S2(n:Nat)(h:run tb n l env σ=some ([],env',σ'))(k:K X ⟨env',σ'⟩)(hb:TB.Ok X.P tb:=by exact Tb):Sq X ops i l K ⟨env,σ⟩:=WC hb n h (yN k)
theorem S3{id:Nat}(n:Nat)(h:run tb n l env σ=some (l',env',σ'))(k:Sq X l.toArray (0+n) l' (λX' s=>aj X' y Q s) ⟨env',σ'⟩)(hd:gZ X.N l.toArray=true:=by kernel_rfl)(hb:TB.Ok X.P tb:=by exact Tb):aj X (.seq (.region id l.toArray false) y) Q ⟨env,σ⟩:=sr hd (WC hb n h k)
theorem S4{id:Nat}(n:Nat)(h:run tb n l env σ=some ([],env',σ'))(k:aj X y Q ⟨env',σ'⟩)(hd:gZ X.N l.toArray=true:=by kernel_rfl)(hb:TB.Ok X.P tb:=by exact Tb):aj X (.seq (.region id l.toArray false) y) Q ⟨env,σ⟩:=sr hd (WC hb n h (yN k))
theorem S5{id:Nat}(n:Nat)(h:run tb n l env σ=some (l',env',σ'))(k:Sq X l.toArray (0+n) l' (Q .normal) ⟨env',σ'⟩)(hd:gZ X.N l.toArray=true:=by kernel_rfl)(hb:TB.Ok X.P tb:=by exact Tb):aj X (.region id l.toArray false) Q ⟨env,σ⟩:=Xg hd (WC hb n h k)
theorem S6{id:Nat}(n:Nat)(h:run tb n l env σ=some ([],env',σ'))(k:Q .normal X ⟨env',σ'⟩)(hd:gZ X.N l.toArray=true:=by kernel_rfl)(hb:TB.Ok X.P tb:=by exact Tb):aj X (.region id l.toArray false) Q ⟨env,σ⟩:=Xg hd (WC hb n h (yN k))
theorem S7(n:Nat)(h:SS tb bar n i l env σ=some (l',env',σ'))(k:Ex X.P ops bar true (i+n) l' ⟨env',σ'⟩ KD)(hb:TB.Ok X.P tb:=by exact Tb):Ex X.P ops bar true i l ⟨env,σ⟩ KD:=dG hb n h k
theorem S8(n:Nat)(h:SS tb bar n i l env σ=some ([],env',σ'))(k:KD ⟨env',σ'⟩)(hb:TB.Ok X.P tb:=by exact Tb):Ex X.P ops bar true i l ⟨env,σ⟩ KD:=dG hb n h k
end
theorem WK:CD Tryz.prog (Tryz.sortF_ren.f 6):=LY Tryz.sortF
theorem wM{a0}:PO Tryz.prog 10 [.L (Ls g7.Pv) a0] (iA a0) λr=>.bool r:=by
 refine pO Tryz.func10 λr h _ _=>?_;refine S4 1 J ?_;refine jq h (λ_=>St.of [(0,.L (Ls g7.Pv) a0)] []) (λq6 h=>?_) λκ5 h=>?_
 .refine S3 1 J ?_;refine nL J nb<|S2 2 J<|c5 ?_;cases h;exact f1
 .refine S4 1 J ?_;refine k7<|lq h (λs8=>St.of [(0,.L (Ls g7.Pv) a0),(3,.I s8)] []) W λs8 x9 h hx8=>k9<|S3 2 J<|nL J nb<|S1 2 J<|m7 J (λhg=>mI J)<|m7 J (λhg=>A7 (ct hg) J J)<|y0 J (C4 J J J (λq=>jg q))<|yN ?_;refine cN h (λhc h=>?_) λhc h=>?_
  .refine c7 ?_;refine k9<|k7<|S3 2 J<|iL h J J nb xu λv10 _ h=>S1 1 J<|nL J gE<|S2 1 J ?_;refine cN h (λhc h=>?_) λhc h=>?_
   .refine S4 1 J ?_;refine c5 ?_;have h:=xL hx8 h;cases h;exact f1
   .refine c7 ?_;refine S6 3 J ?_;exact eL h W
  .refine o0 ?_;refine e6<|e6<|l7 ?_;have h:=xL hx8 h;exact eJ h W
theorem Em{a0 a1}:PO Tryz.prog 11 [.L (Ls iF) a0,.I a1] (gz a0 a1) λr=>.bool r:=by
 refine pO Tryz.func11 λr h _ _=>?_;refine S4 1 J ?_;refine jq h (λ_=>St.of [(0,.L (Ls iF) a0),(1,.I a1)] []) (λq6 h=>?_) λκ5 h=>?_
 .refine S3 1 J ?_;refine nL J bk<|S2 3 J<|c5 ?_;cases h;exact f1
 .refine S4 1 J ?_;refine k7<|lq h (λs8=>St.of [(0,.L (Ls iF) a0),(1,.I a1),(5,.I s8)] []) W λs8 x9 h hx8=>k9<|S3 2 J<|nL J bk<|S1 2 J<|m7 J (λhg=>mI J)<|m7 J (λhg=>A7 (ct hg) J J)<|y0 J (C4 J J J (λq=>jg q))<|yN ?_;refine cN h (λhc h=>?_) λhc h=>?_
  .refine c7 ?_;refine k9<|k7<|S3 2 J<|iL h J J bk bL λv10 _ h=>S1 1 J<|nL J l6<|S2 1 J ?_;refine cN h (λhc h=>?_) λhc h=>?_
   .refine S4 1 J ?_;refine c5 ?_;have h:=xL hx8 h;cases h;exact f1
   .refine c7 ?_;refine S6 3 J ?_;exact eL h W
  .refine o0 ?_;refine e6<|e6<|l7 ?_;have h:=xL hx8 h;exact eJ h W
theorem Bh{a0}:PO Tryz.prog 119 [g7.Pv a0] (fY a0) λr=>.bool r:=by
 refine pO Tryz.func119 λr h _ _=>?_;unfold fY at h;refine S4 2 J<|S3 4 J<|m7 J (λhg=>oF J KK J)<|m7 J (λhg=>oS (ct hg) J J G3 J)<|m7 J (λhg=>A7 (ct hg) J J)<|y0 J (C4 J J J (λq=>jg q))<|S2 1 J<|c5 ?_;cases h;exact f1
theorem A8:PO Tryz.prog 250 [.fn (.func 251) []] (bq) λr=>l5.Pv r:=by
 refine pO Tryz.func250 λr h _ _=>?_;unfold bq at h;refine S4 1 J<|S3 1 J<|y0 J (o7 (cs:=[.fn (.func 251) [],.I 0,.I 5,.I 6]) J eM M7 J J J)<|O8 (oJ 4 (d':=.agg [tG (some 251),.I 0,.I 5,.I 6]) J)<|S2 1 J<|c5 ?_;cases h;exact⟨J,[_],⟨oL J J J jd O2 nl J,tr⟩,J,io⟩
theorem bz:PO Tryz.prog 253 [.fn (.func 254) []] (W9) λr=>l5.Pv r:=by
 refine pO Tryz.func253 λr h _ _=>?_;unfold W9 at h;refine S4 1 J<|S3 1 J<|y0 J (o7 (cs:=[.fn (.func 254) [],.I (-1),.I 5,.I 13]) J eM M7 J J J)<|O8 (oJ 4 (d':=.agg [tG (some 254),.I (-1),.I 5,.I 13]) J)<|S2 1 J<|c5 ?_;cases h;exact⟨J,[_],⟨oL J J J jd O2 nl J,tr⟩,J,io⟩
theorem F4{a0}:PO Tryz.prog 249 [.L l5.Pv a0] (M5 a0) λr=>.L l5.Pv r:=by
 refine pO Tryz.func249 λr h _ _=>?_;unfold M5 at h;refine S4 1 J<|S4 2 J<|c5 ?_;cases h;exact f1
theorem O3:PO Tryz.prog 250 [.fn (.func 252) []] (br) λr=>l5.Pv r:=by
 refine pO Tryz.func250 λr h _ _=>?_;unfold br at h;refine S4 1 J<|S3 1 J<|y0 J (o7 (cs:=[.fn (.func 252) [],.I 0,.I 5,.I 6]) J eM M7 J J J)<|O8 (oJ 4 (d':=.agg [tG (some 252),.I 0,.I 5,.I 6]) J)<|S2 1 J<|c5 ?_;cases h;exact⟨J,[_],⟨oL J J J jd O2 nl J,tr⟩,J,io⟩
theorem kI:PO Tryz.prog 255 [.fn (.func 254) []] (aC) λr=>l5.Pv r:=by
 refine pO Tryz.func255 λr h _ _=>?_;unfold aC at h;refine S4 1 J<|S3 1 J<|y0 J (o7 (cs:=[.fn (.func 254) [],.I 0,.I 3,.I 5]) J eM M7 J J J)<|O8 (oJ 4 (d':=.agg [tG (some 254),.I 0,.I 3,.I 5]) J)<|S2 1 J<|c5 ?_;cases h;exact⟨J,[_],⟨oL J J J jd O2 nl J,tr⟩,J,io⟩
theorem kH:PO Tryz.prog 255 [.fn (.func 252) []] (aB) λr=>l5.Pv r:=by
 refine pO Tryz.func255 λr h _ _=>?_;unfold aB at h;refine S4 1 J<|S3 1 J<|y0 J (o7 (cs:=[.fn (.func 252) [],.I 0,.I 3,.I 5]) J eM M7 J J J)<|O8 (oJ 4 (d':=.agg [tG (some 252),.I 0,.I 3,.I 5]) J)<|S2 1 J<|c5 ?_;cases h;exact⟨J,[_],⟨oL J J J jd O2 nl J,tr⟩,J,io⟩
theorem ga:PO Tryz.prog 256 [.fn (.func 254) []] (R3) λr=>l5.Pv r:=by
 refine pO Tryz.func256 λr h _ _=>?_;unfold R3 at h;refine S4 1 J<|S3 1 J<|y0 J (o7 (cs:=[.fn (.func 254) [],.I (-1),.I 5,.I 6]) J eM M7 J J J)<|O8 (oJ 4 (d':=.agg [tG (some 254),.I (-1),.I 5,.I 6]) J)<|S2 1 J<|c5 ?_;cases h;exact⟨J,[_],⟨oL J J J jd O2 nl J,tr⟩,J,io⟩
theorem lB:PO Tryz.prog 257 [.fn (.func 251) []] (bo) λr=>l5.Pv r:=by
 refine pO Tryz.func257 λr h _ _=>?_;unfold bo at h;refine S4 1 J<|S3 1 J<|y0 J (o7 (cs:=[.fn (.func 251) [],.I 0,.I 5,.I 7]) J eM M7 J J J)<|O8 (oJ 4 (d':=.agg [tG (some 251),.I 0,.I 5,.I 7]) J)<|S2 1 J<|c5 ?_;cases h;exact⟨J,[_],⟨oL J J J jd O2 nl J,tr⟩,J,io⟩
theorem Z2:PO Tryz.prog 256 [.fn (.func 252) []] (R2) λr=>l5.Pv r:=by
 refine pO Tryz.func256 λr h _ _=>?_;unfold R2 at h;refine S4 1 J<|S3 1 J<|y0 J (o7 (cs:=[.fn (.func 252) [],.I (-1),.I 5,.I 6]) J eM M7 J J J)<|O8 (oJ 4 (d':=.agg [tG (some 252),.I (-1),.I 5,.I 6]) J)<|S2 1 J<|c5 ?_;cases h;exact⟨J,[_],⟨oL J J J jd O2 nl J,tr⟩,J,io⟩
theorem lC:PO Tryz.prog 257 [.fn (.func 252) []] (bp) λr=>l5.Pv r:=by
 refine pO Tryz.func257 λr h _ _=>?_;unfold bp at h;refine S4 1 J<|S3 1 J<|y0 J (o7 (cs:=[.fn (.func 252) [],.I 0,.I 5,.I 7]) J eM M7 J J J)<|O8 (oJ 4 (d':=.agg [tG (some 252),.I 0,.I 5,.I 7]) J)<|S2 1 J<|c5 ?_;cases h;exact⟨J,[_],⟨oL J J J jd O2 nl J,tr⟩,J,io⟩
theorem xa:PO Tryz.prog 144 [] (nm) λr=>.abs (U7 (List.map (cr iF (Ls l5.Pv)) r)):=by
 refine pO Tryz.func144 λr h _ _=>?_;refine S4 1 J<|sR<|CC (KT:=Int) (VT:=List l5) (EK:=iF) (E:=(Ls l5.Pv)) 5000001 J J<|cF h A8 J J λv1 hv1 h=>y0 J (o7 (cs:=[.fn (.func 252) [],.I 0,.I 4,.I 1]) J eM M7 J J J)<|O8 (oJ 3 (d':=.agg [tG (some 252),.I 0,.I 4,.I 1]) J)<|cF h bz J J λv2 hv2 h=>y0 J (I4 (f:=l5.Pv) (l:=[v1,(⟨(some 252),0,4,1⟩:l5),v2]) J cp O2 M7 J J nl J J)<|cF h F4 J J λv3 _ h=>ai (es:=[]) (k:=1) (v:=v3) (E:=(Ls l5.Pv)) (EK:=iF) (.inr J) J J J J J J Z1 (y4 I3)<|yc J (u7 J A8 J hv1)<|cF h O3 J J λv4 hv4 h=>y0 J (I4 (f:=l5.Pv) (l:=[v1,v4]) J cp O2 M7 J J nl J J)<|cF h F4 J J λv5 hv5 h=>ai (es:=(p6 [] 1 v3)) (k:=2) (v:=v5) (E:=(Ls l5.Pv)) (EK:=iF) (.inr J) J J J J J J Z1 (y4 I3)<|yc J (u7 J A8 J hv1)<|y0 J (I4 (f:=l5.Pv) (l:=[v1]) J cp O2 M7 J J nl J J)<|cF h F4 J J λv6 _ h=>ai (es:=(p6 (p6 [] 1 v3) 2 v5)) (k:=3) (v:=v6) (E:=(Ls l5.Pv)) (EK:=iF) (.inr J) J J J J J J Z1 (y4 I3)<|yc J (u7 J A8 J hv1)<|yc J (u7 J O3 J hv4)<|cF h kI J J λv7 _ h=>y0 J (I4 (f:=l5.Pv) (l:=[v1,v4,v7]) J cp O2 M7 J J nl J J)<|cF h F4 J J λv8 _ h=>ai (es:=(p6 (p6 (p6 [] 1 v3) 2 v5) 3 v6)) (k:=4) (v:=v8) (E:=(Ls l5.Pv)) (EK:=iF) (.inr J) J J J J J J Z1 (y4 I3)<|yc J (u7 J A8 J hv1)<|cF h kH J J λv9 _ h=>cF h ga J J λv10 _ h=>y0 J (I4 (f:=l5.Pv) (l:=[v1,v9,v10]) J cp O2 M7 J J nl J J)<|cF h F4 J J λv11 _ h=>?_;refine ai (es:=(p6 (p6 (p6 (p6 [] 1 v3) 2 v5) 3 v6) 4 v8)) (k:=5) (v:=v11) (E:=(Ls l5.Pv)) (EK:=iF) (.inr J) J J J J J J Z1 (y4 I3)<|cF h lB J J λv12 _ h=>cF h Z2 J J λv13 hv13 h=>yc J (u7 J bz J hv2)<|y0 J (I4 (f:=l5.Pv) (l:=[v12,v13,v2]) J cp O2 M7 J J nl J J)<|cF h F4 J J λv14 _ h=>ai (es:=(p6 (p6 (p6 (p6 (p6 [] 1 v3) 2 v5) 3 v6) 4 v8) 5 v11)) (k:=6) (v:=v14) (E:=(Ls l5.Pv)) (EK:=iF) (.inr J) J J J J J J Z1 (y4 I3)<|yc J (u7 J A8 J hv1)<|cF h lC J J λv15 _ h=>y0 J (I4 (f:=l5.Pv) (l:=[v1,v15]) J cp O2 M7 J J nl J J)<|cF h F4 J J λv16 _ h=>ai (es:=(p6 (p6 (p6 (p6 (p6 (p6 [] 1 v3) 2 v5) 3 v6) 4 v8) 5 v11) 6 v14)) (k:=7) (v:=v16) (E:=(Ls l5.Pv)) (EK:=iF) (.inr J) J J J J J J Z1 (y4 I3)<|yc J (u7 J A8 J hv1)<|yc J (u7 J Z2 J hv13)<|y0 J (I4 (f:=l5.Pv) (l:=[v1,v13]) J cp O2 M7 J J nl J J)<|cF h F4 J J λv17 _ h=>ai (es:=(p6 (p6 (p6 (p6 (p6 (p6 (p6 [] 1 v3) 2 v5) 3 v6) 4 v8) 5 v11) 6 v14) 7 v16)) (k:=8) (v:=v17) (E:=(Ls l5.Pv)) (EK:=iF) (.inr J) J J J J J J Z1 (y4 I3)<|yc J (u7 J A8 J hv1)<|yc J (u7 J O3 J hv4)<|y0 J (I4 (f:=l5.Pv) (l:=[v1,v4]) J cp O2 M7 J J nl J J)<|yc J (u7 J F4 J hv5)<|ai (es:=(p6 (p6 (p6 (p6 (p6 (p6 (p6 (p6 [] 1 v3) 2 v5) 3 v6) 4 v8) 5 v11) 6 v14) 7 v16) 8 v17)) (k:=9) (v:=v5) (E:=(Ls l5.Pv)) (EK:=iF) (.inr J) J J J J J J Z1 (y4 I3)<|yc J (u7 J A8 J hv1)<|yc J (u7 J O3 J hv4)<|y0 J (I4 (f:=l5.Pv) (l:=[v1,v4]) J cp O2 M7 J J nl J J)<|yc J (u7 J F4 J hv5)<|ai (es:=(p6 (p6 (p6 (p6 (p6 (p6 (p6 (p6 (p6 [] 1 v3) 2 v5) 3 v6) 4 v8) 5 v11) 6 v14) 7 v16) 8 v17) 9 v5)) (k:=10) (v:=v5) (E:=(Ls l5.Pv)) (EK:=iF) (.inr J) J J J J J J Z1 (y4 I3)<|cF h F4 J J λv18 _ h=>ai (es:=(p6 (p6 (p6 (p6 (p6 (p6 (p6 (p6 (p6 (p6 [] 1 v3) 2 v5) 3 v6) 4 v8) 5 v11) 6 v14) 7 v16) 8 v17) 9 v5) 10 v5)) (k:=11) (v:=v18) (E:=(Ls l5.Pv)) (EK:=iF) (.inr J) J J J J J J Z1 (y4 I3)<|y0 J (o7 (cs:=[.fn (.func 251) [],.I 0,.I 200,.I 12]) J eM M7 J J J) ?_;refine O8 (oJ 46 (d':=.agg [tG (some 251),.I 0,.I 200,.I 12]) J)<|y0 J (I4 (f:=l5.Pv) (l:=[(⟨(some 251),0,200,12⟩:l5)]) J cp O2 M7 J J nl J J)<|cF h F4 J J λv19 _ h=>ai (es:=(p6 (p6 (p6 (p6 (p6 (p6 (p6 (p6 (p6 (p6 (p6 [] 1 v3) 2 v5) 3 v6) 4 v8) 5 v11) 6 v14) 7 v16) 8 v17) 9 v5) 10 v5) 11 v18)) (k:=12) (v:=v19) (E:=(Ls l5.Pv)) (EK:=iF) (.inr J) J J J J J J Z1 (y4 I3)<|S2 2 J<|bU (Ep 0 5000001 J J)<|c5 ?_;cases h;exact f1
theorem rk{a0}:PO Tryz.prog 251 [g7.Pv a0] (rQ a0) λr=>.I r:=by
 refine pO Tryz.func251 λr h _ _=>?_;unfold rQ at h;refine S4 2 J<|S4 3 J<|c5 ?_;cases h;exact f1
theorem rm{a0}:PO Tryz.prog 252 [g7.Pv a0] (rR a0) λr=>.I r:=by
 refine pO Tryz.func252 λr h _ _=>?_;unfold rR at h;refine S4 2 J<|S4 3 J<|c5 ?_;cases h;exact f1
theorem rn{a0}:PO Tryz.prog 254 [g7.Pv a0] (rT a0) λr=>.I r:=by
 refine pO Tryz.func254 λr h _ _=>?_;unfold rT at h;refine S4 2 J<|S4 3 J<|c5 ?_;cases h;exact f1
theorem Hs{f:Fv}{a0:g7}{r:Int}(h:tH f a0=some r):∃n,f=some n/\B6 Tryz.prog n/\bj Tryz.prog n [g7.Pv a0] (.I r):=by
 unfold tH at h;by_cases e251:f=some 251
 .rw[zb e251] at h;exact⟨251,e251,(@rk a0).1,(@rk a0).2 _ h⟩
 rw[za e251] at h;by_cases e252:f=some 252
 .rw[zb e252] at h;exact⟨252,e252,(@rm a0).1,(@rm a0).2 _ h⟩
 rw[za e252] at h;by_cases e254:f=some 254
 .rw[zb e254] at h;exact⟨254,e254,(@rn a0).1,(@rn a0).2 _ h⟩
 rw[za e254] at h;cases h
theorem lA{a0}:PO Tryz.prog 81 [g7.Pv a0] (W8 a0) λr=>.I r:=by
 refine pO Tryz.func81 λr h _ _=>?_;unfold W8 at h;refine S4 2 J<|dr [] s6 (by kernel_rfl) (by kernel_rfl)<|w8 h λv1 hv1 h=>dX J (u7 J xa J hv1) J<|S7 2 J<|d4 J (Cm (es:=v1) (k:=a0.Kind) (E:=(Ls l5.Pv)) (EK:=iF) (d:=.tup [.L l5.Pv ((A1 v1 a0.Kind).getD ([]:List l5)),.bool ((A1 v1 a0.Kind).isSome)]) J J Z1 (y4 I3) Ra J (ZM _ _ ([]:List l5))) J<|S8 5 J<|k9<|S4 2 J ?_;refine cN h (λhc h=>?_) λhc h=>?_
 .refine S4 1 J ?_;refine c5 ?_;cases h;exact f1
 .refine c7 ?_;refine jq h (λ_=>St.of [] []) (λq9 h=>?_) λκ8 h=>?_
  .refine S4 1 J ?_;refine c5 ?_;cases h;exact f1
  .refine S3 1 J ?_;refine nL J cp<|S2 1 J<|k7<|lq h (λs11=>St.of [(1,.ptr 1 0 0),(17,.L l5.Pv ((A1 v1 a0.Kind).getD ([]:List l5))),(18,.I (((A1 v1 a0.Kind).getD ([]:List l5)).length:Int)),(19,.I s11)] [(1,vR (g7.Pv a0) 4)]) W λs11 x12 h hx13=>S4 1 J<|k9 ?_;refine cN h (λhc h=>?_) λhc h=>?_
   .refine c7 ?_;refine k9<|k7<|sR<|iL h J J cp O2 λv13 _ h=>S2 3 J<|S3 3 J ?_;obtain⟨v14,hv15,h⟩:=rj h;obtain⟨n15,he16,hk17,hp18⟩:=Hs hv15;refine O8 (Uh 24 J he16)<|y0 J (HE J hk17 J hp18)<|S2 1 J<|S3 5 J<|m7 J (λhg=>mI J)<|m7 J (λhg=>oF J KR J)<|m7 J (λhg=>oS (ct hg) J J G3 J)<|m7 J (λhg=>A7 (ct hg) (ct hg) J)<|y0 J (H9 J J J (λq=>kB q))<|yN ?_;refine cN h (λhc h=>?_) λhc h=>?_
    .refine S4 3 J ?_;refine c5 ?_;have h:=xL hx13 h;cases h;exact f1
    .refine c7 ?_;refine S6 2 J ?_;exact eL h W
   .refine o0 ?_;refine e6<|e6<|l7 ?_;have h:=xL hx13 h;exact eJ h W
theorem Bi{a0}:PO Tryz.prog 62 [.L (Ls g7.Pv) a0] (fZ a0) λr=>.bool r:=by
 refine pO Tryz.func62 λr h _ _=>?_;refine S4 1 J<|k9<|S3 1 J<|nL J nb<|S2 1 J ?_;refine cN h (λhc h=>?_) λhc h=>?_
 .refine S4 1 J ?_;refine c5 ?_;cases h;exact f1
 .refine c7 ?_;refine jq h (λ_=>St.of [] []) (λq21 h=>?_) λκ20 h=>?_
  .refine S4 1 J ?_;refine c5 ?_;cases h;exact f1
  .refine S3 1 J ?_;refine nL J nb<|S2 1 J<|k7<|lq h (λs23=>St.of [(10,.L (Ls g7.Pv) a0),(11,.I (a0.length:Int)),(12,.I s23)] []) W λs23 x24 h hx22=>S4 1 J<|k9 ?_;refine cN h (λhc h=>?_) λhc h=>?_
   .refine c7 ?_;refine jq h (λ_=>St.of [(10,.L (Ls g7.Pv) a0),(11,.I (a0.length:Int)),(12,.I s23)] []) (λq33 h=>?_) λκ32 h=>?_
    .refine S6 2 J ?_;exact eL h W
    .refine k7 ?_;refine sR<|iL h J J nb xu λv34 _ h=>S2 2 J<|k9<|S3 1 J<|nL J gE<|S2 1 J ?_;refine cN h (λhc h=>?_) λhc h=>?_
     .refine S4 1 J ?_;refine c5 ?_;have h:=xL hx22 h;cases h;exact f1
     .refine c7 ?_;refine S3 1 J<|nL J gE<|S2 1 J<|k7<|lq h (λs36=>St.of [(10,.L (Ls g7.Pv) a0),(11,.I (a0.length:Int)),(12,.I s23),(19,.L g7.Pv v34),(20,.I (v34.length:Int)),(21,.I s36)] []) W λs36 x37 h hx34=>S4 1 J<|k9 ?_;refine cN h (λhc h=>?_) λhc h=>?_
      .refine c7 ?_;refine k9<|k7<|sR<|iL h J J gE je λv38 _ h=>S2 3 J<|S3 1 J<|cA h Bh J J λv39 _ h=>S1 2 J<|m7 J (λhg=>oL J J J xq je nl J)<|w8 h λv40 hv37 h=>m7 J (λhg=>P8 J lA (Y1 (ct hg) J) (Y3 hv37 hg))<|m7 J (λhg=>A7 (ct hg) J J)<|y0 J (H9 J J J (λq=>kB q))<|yN ?_;refine cN h (λhc h=>?_) λhc h=>?_
       .refine S4 1 J ?_;refine c5 ?_;have h:=xL hx34 h;have h:=xL hx22 h;cases h;exact f1
       .refine c7 ?_;refine S6 2 J ?_;exact eL h W
      .refine o0 ?_;refine e6<|e6<|l7 ?_;have h:=xL hx34 h;exact eJ h W
   .refine o0 ?_;refine e6<|e6<|l7 ?_;have h:=xL hx22 h;exact eJ h W
theorem oQ{a0 a1}:PO Tryz.prog 201 [.I a0,.I a1] (aL a0 a1) λr=>l4.Pv r:=by
 refine pO Tryz.func201 λr h _ _=>?_;refine S4 1 J<|k9<|S3 3 J<|m7 J (λhg=>mI J)<|m7 J (λhg=>A7 (ct hg) J J)<|y0 J (H9 J J J (λq=>kB q))<|S1 1 J<|m7 J (λhg=>mI J)<|m7 J (λhg=>A7 (ct hg) J J)<|y0 J (H9 J J J (λq=>kB q))<|S1 1 J<|m7 J (λhg=>mI J)<|m7 J (λhg=>A7 (ct hg) J J)<|y0 J (H9 J J J (λq=>kB q))<|yN ?_;refine cN h (λhc h=>?_) λhc h=>?_
 .refine sR ?_;refine y0 J (o7 (cs:=[.nl,.I 0]) J MD MK J J J)<|jc (x':=.agg [.nl,.I 0]) (cl':=true) J J (.inl J) eN<|yN<|c5 ?_;cases h;exact⟨J,[_],⟨oL J J J iD eN nl J,tr⟩,J,io⟩
 .refine c7 ?_;refine S3 1 J<|w8 h λv1 hv1 h=>y1 J (Br (f:=c8.Pv) hv1 J J J T5 V3 qo IB J J J) J<|S1 1 J<|y0 J (o7 (cs:=[.sl 21,.I a1]) J MD MK J J J)<|S2 1 J<|c5 ?_;cases h;exact⟨J,[_],⟨oL J J J iD eN nl J,tr⟩,J,io⟩
theorem Ef{a0 a1}:PO Tryz.prog 120 [.I a0,.I a1] (jH a0 a1) λr=>b6.Pv r:=by
 refine pO Tryz.func120 λr h _ _=>?_;refine S4 1 J<|S3 2 J<|cF h oQ J J λv1 _ h=>y0 J (o7 (cs:=[.L c8.Pv v1.b7,.I v1.Last,.I 0]) J ME ML J J J)<|S2 1 J<|c5 ?_;cases h;exact⟨J,[_],⟨oL J J J mX nf nl J,tr⟩,J,io⟩
theorem wP{a0}:PO Tryz.prog 41 [.I a0] (AU a0) λr=>.L k8.Pv r:=by
 refine pO Tryz.func41 λr h _ _=>?_;refine S4 1 J<|k9<|S3 3 J<|m7 J (λhg=>mI J)<|m7 J (λhg=>A7 (ct hg) J J)<|y0 J (H9 J J J (λq=>kB q))<|yN ?_;refine cN h (λhc h=>?_) λhc h=>?_
 .refine S4 1 J ?_;refine c5 ?_;cases h;exact f1
 .refine c7 ?_;refine S3 1 J<|w8 h λv1 hv1 h=>y1 J (Br (f:=k8.Pv) hv1 J J J T4 Y7 CJ IA J J J) J<|S2 1 J ?_;refine jq h (λj9=>St.of [(3,.sl 12)] [(12,⟨List.map k8.Pv j9,0,true,3,true⟩)]) (λj9 h=>?_) λκ8 h=>?_
  .refine S4 2 J ?_;refine c5 ?_;cases h;exact f1
  .refine S3 1 J ?_;refine y0 J (FL (f:=k8.Pv) J J J T4)<|S2 1 J<|k7<|lq h (λq=>St.of [(3,.sl 12),(14,.I (v1.length:Int)),(15,.I q.1)] [(12,⟨List.map k8.Pv q.2,0,true,3,true⟩)]) W λq14 x13 h hx9=>?_;obtain⟨s11,s12⟩:=q14;refine S4 1 J<|k9 ?_;refine cN h (λhc h=>?_) λhc h=>?_
   .refine c7 ?_;refine k9<|k7<|S4 2 J<|S5 2 J<|w8 h λv15 hv10 h=>y0 J (T9 (f:=k8.Pv) hv10 J J J J T4 Y7 J)<|S1 1 J<|ly (f:=k8.Pv) (v:=(⟨v15.Target,v15.Intact,(-1)⟩:k8)) hv10 J J (.inl J) o5<|yN<|S6 2 J ?_;exact eL h W
   .refine o0 ?_;refine e6<|e6<|l7 ?_;have h:=xL hx9 h;exact eJ h W
theorem Fh{a0}:PO Tryz.prog 121 [.I a0] (tL a0) λr=>.L g5.Pv r:=by
 refine pO Tryz.func121 λr h _ _=>?_;refine S4 1 J<|k9<|S3 3 J<|m7 J (λhg=>mI J)<|m7 J (λhg=>A7 (ct hg) J J)<|y0 J (H9 J J J (λq=>kB q))<|yN ?_;refine cN h (λhc h=>?_) λhc h=>?_
 .refine S4 1 J ?_;refine c5 ?_;cases h;exact f1
 .refine c7 ?_;refine S3 1 J<|w8 h λv1 hv1 h=>y1 J (Br (f:=g5.Pv) hv1 J J J cU dz xv IC J J J) J<|S2 1 J<|c5 ?_;cases h;exact f1
theorem nI{a0}:PO Tryz.prog 202 [.I a0] (cZ a0) λr=>j5.Pv r:=by
 refine pO Tryz.func202 λr h _ _=>?_;unfold cZ at h;refine S4 1 J<|S3 1 J<|y0 J (o7 (cs:=[.nl,.I a0]) J MF MM J J J)<|jc (x':=.agg [.nl,.I a0]) (cl':=true) J J (.inl J) cV<|yN<|c5 ?_;cases h;exact⟨J,[_],⟨oL J J J jK cV nl J,tr⟩,J,io⟩
theorem wJ:PO Tryz.prog 122 [] (AI) λr=>j5.Pv r:=by
 refine pO Tryz.func122 λr h _ _=>?_;refine S4 1 J<|sR<|cF h nI J J λv1 _ h=>S2 1 J<|c5 ?_;cases h;exact⟨J,[_],⟨oL J J J jK cV nl J,tr⟩,J,io⟩
theorem Fl{a0 a1 a2}:PO Tryz.prog 63 [.I a0,.I a1,.I a2] (md a0 a1 a2) λr=>b9.Pv r:=by
 refine pO Tryz.func63 λr h _ _=>?_;refine S4 1 J<|k9<|S3 3 J<|m7 J (λhg=>mI J)<|m7 J (λhg=>A7 (ct hg) J J)<|y0 J (H9 J J J (λq=>kB q))<|S1 1 J<|m7 J (λhg=>mI J)<|m7 J (λhg=>A7 (ct hg) J J)<|y0 J (H9 J J J (λq=>kB q))<|S1 1 J<|m7 J (λhg=>mI J)<|m7 J (λhg=>A7 (ct hg) J J)<|y0 J (H9 J J J (λq=>kB q))<|S1 1 J<|m7 J (λhg=>mI J)<|m7 J (λhg=>A7 (ct hg) J J)<|y0 J (H9 J J J (λq=>kB q))<|S1 1 J<|m7 J (λhg=>mI J)<|m7 J (λhg=>A7 (ct hg) J J)<|y0 J (H9 J J J (λq=>kB q))<|yN ?_;refine cN h (λhc h=>?_) λhc h=>?_
 .refine sR ?_;refine y0 J (o7 (cs:=[.nl,.I 0,.I 0,.nl,.nl,.nl,.nl,.I 0]) J MG MN J J J)<|jc (x':=.agg [.nl,.I 0,.I 0,.nl,.nl,.nl,.nl,.I 0]) (cl':=true) J J (.inl J) p7<|yN<|c5 ?_;cases h;exact⟨J,[_],⟨oL J J J u5 p7 nl J,tr⟩,J,io⟩
 .refine c7 ?_;refine dr [] s6 (by kernel_rfl) (by kernel_rfl)<|S7 2 J<|w8 h λv1 hv1 h=>dX J (u7 J Ef J hv1) J<|w8 h λv2 hv2 h=>d1 J (Br (f:=iF) hv2 J J J l6 o5 C0 O9 J J J) J J J<|w8 h λv3 hv3 h=>dX J (u7 J wP J hv3) J<|S7 1 J<|w8 h λv4 hv4 h=>dX J (u7 J Fh J hv4) J<|w8 h λv5 hv5 h=>dX J (u7 J wJ J hv5) J<|d7 J (λ_ hN=>o7 (cs:=[.L c8.Pv v1.S.b7,.I v1.S.Last,.I v1.Serial,.sl 33,.L k8.Pv v3,.L g5.Pv v4,.L g6.Pv v5.L,.I v5.Cap]) J MG MN J J J) J<|D0 (x':=.agg [.L c8.Pv v1.S.b7,.I v1.S.Last,.I v1.Serial,.sl 33,.L k8.Pv v3,.L g5.Pv v4,.L g6.Pv v5.L,.I v5.Cap]) (cl':=false) J J (.inr J) p7<|J1<|c5 ?_;cases h;exact⟨J,[_],⟨oL J J J u5 p7 nl J,tr⟩,J,io⟩
theorem lF{a0 a1 a2 a3}:PO Tryz.prog 26 [.I a0,.I a1,.I a2,.L (Ls g7.Pv) a3] (Q3 a0 a1 a2 a3) λr=>.tup [s7.Pv r.1,.I r.2]:=by
 refine pO Tryz.func26 λr h _ _=>?_;refine S4 2 J<|k9<|S3 1 J<|cA h Bi J J λv1 _ h=>S2 1 J ?_;refine cN h (λhc h=>?_) λhc h=>?_
 .refine sR ?_;refine y0 J (o7 (cs:=[.nl,.I 0,.I 0,.nl,.nl,.nl,.nl,.I 0,.nl]) J GO GP J J J)<|jc (x':=.agg [.nl,.I 0,.I 0,.nl,.nl,.nl,.nl,.I 0,.nl]) (cl':=true) J J (.inl J) dF<|S2 1 J<|c5 ?_;cases h;exact⟨J,[_,_],⟨oL J J J mY dF nl J,⟨J,tr⟩⟩,J,io⟩
 .refine c7 ?_;refine S3 3 J<|cF h Fl J J λv2 _ h=>S2 2 J<|k9<|S3 2 J<|nL J l6<|S2 1 J ?_;refine cN h (λhc h=>?_) λhc h=>?_
  .refine sR ?_;refine y0 J (o7 (cs:=[.nl,.I 0,.I 0,.nl,.nl,.nl,.nl,.I 0,.nl]) J GO GP J J J)<|jc (x':=.agg [.nl,.I 0,.I 0,.nl,.nl,.nl,.nl,.I 0,.nl]) (cl':=true) J J (.inl J) dF<|S2 1 J<|c5 ?_;cases h;exact⟨J,[_,_],⟨oL J J J mY dF nl J,⟨J,tr⟩⟩,J,io⟩
  .refine c7 ?_;refine S3 2 J<|y0 J (o7 (cs:=[.L c8.Pv v2.S.S.b7,.I v2.S.S.Last,.I v2.S.Serial,.L iF v2.Roots,.L k8.Pv v2.b7,.L g5.Pv v2.T,.L g6.Pv v2.Q.L,.I v2.Q.Cap,.L (Ls g7.Pv) a3]) J GO GP J J J)<|S2 2 J<|c5 ?_;cases h;exact⟨J,[_,_],⟨oL J J J mY dF nl J,⟨J,tr⟩⟩,J,io⟩
theorem ub{a0 a1 a2 a3}:PO Tryz.prog 13 [.I a0,.I a1,.I a2,.L (Ls g7.Pv) a3] (aZ a0 a1 a2 a3) λr=>.tup [a8.Pv r.1,.I r.2]:=by
 refine pO Tryz.func13 λr h _ _=>?_;refine S4 2 J<|k9<|S3 4 J<|cF h lF J J λv1 _ h=>S2 6 J<|S4 2 J ?_;refine cN h (λhc h=>?_) λhc h=>?_
 .refine sR ?_;refine y0 J (o7 (cs:=[.nl,.nl,.nl,.I 0,.I 0,.I 0,.nl,.nl,.nl,.nl,.nl]) J MC MI J J J)<|S1 1 J<|jc (x':=.agg [.nl,.nl,.nl,.I 0,.I 0,.I 0,.nl,.nl,.nl,.nl,.nl]) (cl':=true) J J (.inl J) w7<|S2 1 J<|c5 ?_;cases h;exact⟨J,[_,_],⟨oL J J J A2 w7 nl J,⟨J,tr⟩⟩,J,io⟩
 .refine c7 ?_;refine dr [] s6 (by kernel_rfl) (by kernel_rfl)<|S7 1 J<|w8 h λv2 hv2 h=>d1 J (Br (f:=iF) hv2 J J J l6 o5 C0 O9 J J J) J J J<|S7 1 J<|d1 J (Br (f:=iF) hv2 J J J l6 o5 C0 O9 J J J) J J J<|S7 2 J<|w8 h λv3 hv3 h=>d1 J (Br (f:=iF) hv3 J J J l6 o5 C0 O9 J J J) J J J<|w8 h λv4 hv4 h=>dX J (u7 J wP J hv4) J<|S7 1 J<|d7 J (λ_ hN=>o7 (cs:=[.nl,.sl 25,.sl 27,.I a1,.I a2,.I 0,.sl 30,.L k8.Pv v4,.nl,.nl,.L (Ls g7.Pv) a3]) J MC MI J J J) J<|D0 (x':=.agg [.nl,.sl 25,.sl 27,.I a1,.I a2,.I 0,.sl 30,.L k8.Pv v4,.nl,.nl,.L (Ls g7.Pv) a3]) (cl':=false) J J (.inl J) w7<|S8 1 J<|c5 ?_;cases h;exact⟨J,[_,_],⟨oL J J J A2 w7 nl J,⟨J,tr⟩⟩,J,io⟩
theorem pd{a0}:PO Tryz.prog 50 [.L iF a0] (V4 a0) λr=>.tup [g7.Pv r.1,.I r.2]:=by
 refine pO Tryz.func50 λr h _ _=>?_;refine S4 2 J<|k9<|S3 1 J<|nL J l6<|S2 1 J ?_;refine cN h (λhc h=>?_) λhc h=>?_
 .refine sR ?_;refine y0 J (o7 (cs:=[.I 0,.I 0,.I 0,.I 0]) J xr sX J J J)<|S2 2 J<|c5 ?_;cases h;exact⟨J,[_,_],⟨oL J J J xq je nl J,⟨J,tr⟩⟩,J,io⟩
 .refine c7 ?_;refine dr [] s6 (by kernel_rfl) (by kernel_rfl)<|S7 1 J<|w8 h λv1 hv1 h=>d0 J (J9 (f:=iF) (cs:=[.I v1]) hv1 J J l6 o5 J J) J<|S7 2 J<|w8 h λv2 hv2 h=>d0 J (J9 (f:=iF) (cs:=[.I v2]) hv2 J J l6 o5 J J) J<|S7 2 J<|w8 h λv3 hv3 h=>d0 J (J9 (f:=iF) (cs:=[.I v3]) hv3 J J l6 o5 J J) J<|S7 2 J<|w8 h λv4 hv4 h=>d0 J (J9 (f:=iF) (cs:=[.I v4]) hv4 J J l6 o5 J J) J<|S7 1 J<|d7 J (λ_ hN=>o7 (cs:=[.I v1,.I v2,.I v3,.I v4]) J xr sX J J J) J<|S7 1 J<|D0 (x':=.agg [.I v1,.I v2,.I v3,.I v4]) (cl':=true) J J (.inl J) je<|J1<|k9<|S3 1 J<|cA h lA J J λv5 _ h=>S2 1 J<|S4 2 J ?_;refine cN h (λhc h=>?_) λhc h=>?_
  .refine sR ?_;refine y0 J (o7 (cs:=[.I 0,.I 0,.I 0,.I 0]) J xr sX J J J)<|S2 3 J<|c5 ?_;cases h;exact⟨J,[_,_],⟨oL J J J xq je nl J,⟨J,tr⟩⟩,J,io⟩
  .refine c7 ?_;refine S4 3 J<|c5 ?_;cases h;exact⟨J,[_,_],⟨oL J J J xq je nl J,⟨J,tr⟩⟩,J,io⟩
theorem sp{a0}:PO Tryz.prog 145 [b8.Pv a0] (iP a0) λr=>.bool r:=by
 refine pO Tryz.func145 λr h _ _=>?_;unfold iP at h;refine S4 2 J<|S4 3 J<|c5 ?_;cases h;exact f1
theorem aq{a0}:PO Tryz.prog 60 [.L b8.Pv a0,.fn (.func 145) []] (C8 a0) λr=>.L b8.Pv r:=by
 refine pO Tryz.func60 λr h _ _=>?_;refine S4 1 J<|S4 1 J ?_;refine jq h (λj15=>St.of [(5,.sl 910005)] [(910005,⟨List.map b8.Pv j15,(List.map b8.Pv j15).length,true,7,true⟩)]) (λj15 h=>?_) λκ14 h=>?_
 .refine S4 2 J ?_;refine c5 ?_;cases h;exact f1
 .refine S3 1 J ?_;refine nL J A9<|S2 1 J<|k7<|lq h (λq=>St.of [(1,.fn (.func 145) []),(5,.sl 910005),(8,.L b8.Pv a0),(9,.I (a0.length:Int)),(10,.I q.1)] [(910005,⟨List.map b8.Pv q.2,(List.map b8.Pv q.2).length,true,7,true⟩)]) (Wk.trans (F5 (t:=5) (l:=920005) (z:=7) J J) (WP (λl=>if l=910005 then 920005 else l))) λq20 x19 h hx14=>?_;obtain⟨s17,s18⟩:=q20;refine S4 1 J<|k9 ?_;refine cN h (λhc h=>?_) λhc h=>?_
  .refine c7 ?_;refine jq h (λj25=>St.of [(1,.fn (.func 145) []),(5,.sl 20),(8,.L b8.Pv a0),(9,.I (a0.length:Int)),(10,.I s17)] [(20,⟨List.map b8.Pv j25,(List.map b8.Pv j25).length,true,7,true⟩)]) (λj25 h=>?_) λκ24 h=>?_
   .refine S6 2 J ?_;exact eL h (Wk.trans (m9 _ [20]) (WP (λl=>if l=910005 then 20 else l)))
   .refine k7 ?_;refine sR<|iL h J J A9 u9 λv26 _ h=>S2 3 J<|S3 2 J<|cA h sp J J λv27 _ h=>yN ?_;refine cN h (λhc h=>?_) λhc h=>?_
    .refine S5 2 J ?_;refine y0 J (I4 (f:=b8.Pv) (l:=[v26]) J A9 u9 ay J J nl J J)<|w8 h λv28 hv21 h=>J4 J (H8 (f:=b8.Pv) hv21 J J J J J J (.inl ⟨_,J,J⟩) A9 u9 mZ ay J (λ_=>J)) J J J<|S2 1 J ?_;exact eJ h (Wk.trans (m9 _ [20]) W)
    .refine c7 ?_;exact eJ h (Wk.trans (m9 _ [910005]) (WP (λl=>if l=20 then 910005 else l)))
  .refine o0 ?_;refine e6<|e6<|l7 ?_;have h:=xL hx14 h;exact eJ h (Wk.trans (m9 _ [910005]) W)
theorem sq{a0}:PO Tryz.prog 118 [b8.Pv a0] (iR a0) λr=>.I r:=by
 refine pO Tryz.func118 λr h _ _=>?_;unfold iR at h;refine S4 2 J<|S4 3 J<|c5 ?_;cases h;exact f1
theorem V8{a0}:PO Tryz.prog 117 [.L b8.Pv a0,.fn (.func 118) []] (B8 a0) λr=>.L iF r:=by
 refine pO Tryz.func117 λr h _ _=>?_;refine S4 1 J<|S4 1 J ?_;refine jq h (λj10=>St.of [(5,.sl 910005)] [(910005,⟨List.map iF j10,(List.map iF j10).length,true,1,true⟩)]) (λj10 h=>?_) λκ9 h=>?_
 .refine S4 2 J ?_;refine c5 ?_;cases h;exact f1
 .refine S3 1 J ?_;refine nL J A9<|S2 1 J<|k7<|lq h (λq=>St.of [(1,.fn (.func 118) []),(5,.sl 910005),(8,.L b8.Pv a0),(9,.I (a0.length:Int)),(10,.I q.1)] [(910005,⟨List.map iF q.2,(List.map iF q.2).length,true,1,true⟩)]) (Wk.trans (F5 (t:=5) (l:=920005) (z:=1) J J) (WP (λl=>if l=910005 then 920005 else l))) λq15 x14 h hx10=>?_;obtain⟨s12,s13⟩:=q15;refine S4 1 J<|k9 ?_;refine cN h (λhc h=>?_) λhc h=>?_
  .refine c7 ?_;refine k9<|k7<|sR<|iL h J J A9 u9 λv16 _ h=>S2 3 J<|S5 3 J<|cA h sq J J λv17 _ h=>y0 J (I4 (f:=iF) (l:=[v17]) J l6 o5 C0 J J nl J J)<|w8 h λv18 hv13 h=>J4 J (H8 (f:=iF) hv13 J J J J J J (.inl ⟨_,J,J⟩) l6 o5 O9 C0 J (λ_=>J)) J J J<|S2 1 J<|S6 2 J ?_;exact eL h (Wk.trans (m9 _ [19]) (WP (λl=>if l=910005 then 19 else l)))
  .refine o0 ?_;refine e6<|e6<|l7 ?_;have h:=xL hx10 h;exact eJ h (Wk.trans (m9 _ [910005]) W)
theorem cG{a0}:PO Tryz.prog 59 [.L b8.Pv a0] (J2 a0) λr=>.L iF r:=by
 refine pO Tryz.func59 λr h _ _=>?_;refine S4 1 J<|S3 1 J<|cF h V8 J J λv1 _ h=>S2 1 J<|c5 ?_;cases h;exact f1
theorem mA{a0}:PO Tryz.prog 146 [.I a0] (bc a0) λr=>c9.Pv r:=by
 refine pO Tryz.func146 λr h _ _=>?_;unfold bc at h;refine S4 1 J<|S3 1 J<|y0 J (o7 (cs:=[.nl,.I a0]) J QO Rb J J J)<|jc (x':=.agg [.nl,.I a0]) (cl':=true) J J (.inl J) kP<|yN<|c5 ?_;cases h;exact⟨J,[_],⟨oL J J J ql kP nl J,tr⟩,J,io⟩
theorem cI{a0}:PO Tryz.prog 115 [a8.Pv a0] (X0 a0) λr=>j5.Pv r:=by
 refine pO Tryz.func115 λr h _ _=>?_;unfold X0 at h;refine S4 2 J<|dr [] s6 (by kernel_rfl) (by kernel_rfl)<|S7 2 J<|w8 h λv1 hv1 h=>dX J (u7 J wJ J hv1) J<|S7 1 J<|d7 J (λ_ hN=>o7 (cs:=[.L g6.Pv a0.Tasks,.I v1.Cap]) J MF MM J J J) J<|D0 (x':=.agg [.L g6.Pv a0.Tasks,.I v1.Cap]) (cl':=true) J J (.inr J) cV<|J1<|c5 ?_;cases h;exact⟨J,[_],⟨oL J J J jK cV nl J,tr⟩,J,io⟩
theorem AJ{a0 a1}:PO Tryz.prog 199 [j5.Pv a0,.I a1] (qJ a0 a1) λr=>.fn (.func 277) [.rptr (j5.Pc r.1),.rptr [.I r.2]]:=by
 refine pO Tryz.func199 λr h _ _=>?_;unfold qJ at h;refine S4 3 J<|S4 2 J<|c5 ?_;cases h;exact f1
theorem uQ{a0}:PO Tryz.prog 114 [j5.Pv a0] (gy a0) λr=>.L iF r:=by
 refine pO Tryz.func114 λr h _ _=>?_;refine S4 2 J<|S4 1 J ?_;refine jq h (λj10=>St.of [(3,.ptr 2001 0 0)] [(2001,vS (.sl 912501) 1),(912501,⟨List.map iF j10,(List.map iF j10).length,true,1,true⟩)]) (λj10 h=>?_) λκ9 h=>?_
 .refine S4 2 J ?_;refine c5 ?_;cases h;exact f1
 .refine S3 1 J ?_;refine cF h AJ J J λv11 _ h=>yN<|k7<|bU (sM (λl=>if l=2011 then 3 else l) [(3,.ptr 2011 0 0),(6,.fn (.func 277) [.rptr (j5.Pc v11.1),.rptr [.I v11.2]])] [(2011,vR (.nl) 1)]) ?_;refine bT (fn:=Tryz.f277) (N1:=24) J Tryz.func277 J J nl J IE J J (λl17 e18 o19 hR20=>?_);refine S3 2 J<|nL J I9<|S2 1 J<|k7<|lq h (λq=>St.of [(1000003,.ptr 2011 0 0),(1000006,.fn (.func 277) [.rptr (j5.Pc v11.1),.rptr [.I v11.2]]),(0,.fn (.yield l17) []),(2,.rptr [.I v11.2]),(7,.L g6.Pv v11.1.L),(8,.I (v11.1.L.length:Int)),(9,.I q.1)] [(2011,vS (.sl 912511) 1),(912511,⟨List.map iF q.2,(List.map iF q.2).length,true,1,true⟩)]) (Wk.trans (qQ (l0:=2011) (j:=0) (l:=922511) (z:=1) J J J J J) (WP (λl=>if l=912511 then 922511 else l))) λq16 x15 h hx23=>?_;obtain⟨s13,s14⟩:=q16;refine S4 1 J<|k9 ?_;refine cN h (λhc h=>?_) λhc h=>?_
  .refine c7 ?_;refine k9<|k7<|sR<|iL h J J I9 D2 λv17 _ h=>S2 3 J<|S3 5 J<|m7 J (λhg=>om (d:=.fn (.yield l17) []) J)<|m7 J (λhg=>oL J J J cm D2 nl J) ?_;rcases zax ((v17.Kind==v11.2)==true) with hg25 | hg25
   .have h:=TP h hg25;refine O8 (sM (λl=>if l=2019 then 912511 else l) [(1000003,.ptr 2011 0 0),(1000006,.fn (.func 277) [.rptr (j5.Pc v11.1),.rptr [.I v11.2]]),(0,.fn (.yield l17) []),(2,.rptr [.I v11.2]),(7,.L g6.Pv v11.1.L),(8,.I (v11.1.L.length:Int)),(9,.I s13),(17,.bool (v17.Kind==v11.2)),(18,.fn (.yield l17) []),(19,g6.Pv v17)] [(2011,vS (.sl 2019) 1),(2019,⟨List.map iF s14,(List.map iF s14).length,true,1,true⟩)]) ?_;refine jy hR20 (zX some hg25) J J J J J (λe26 o27 o28=>?_);refine S6 2 J ?_;refine⟨J,?_⟩;refine k7<|S5 3 J<|y0 J (I4 (f:=iF) (l:=[v17.At]) J l6 o5 C0 J J nl J J)<|w8 h λv18 hv29 h=>J4 J (H8 (f:=iF) hv29 J J J J J J (.inl ⟨_,J,J⟩) l6 o5 O9 C0 J (λ_=>J)) J J J<|S2 1 J ?_;refine⟨J,?_⟩;refine O8 (sM (λl=>if l=2020 then 12 else l) [(1000003,.ptr 2011 0 0),(1000006,.fn (.func 277) [.rptr (j5.Pc v11.1),.rptr [.I v11.2]]),(0,.fn (.yield l17) []),(2,.rptr [.I v11.2]),(7,.L g6.Pv v11.1.L),(8,.I (v11.1.L.length:Int)),(9,.I s13),(17,.bool (v17.Kind==v11.2)),(20,.bool true)] [(2011,vS (.sl 2020) 1),(2020,⟨List.map iF v18,s14.length,true,1,true⟩)])<|y0 (zX some hg25) (eC J J)<|y0 J (ln J J hg25)<|yN ?_;refine G9 false J (λq=>nomatch q) (λ_=>?_);refine c7<|S6 2 J ?_;exact eL h (Wk.trans (m9 _ [2020]) (WP (λl=>if l=912511 then 2020 else l)))
   .have h:=TO h hg25;refine dd (zX some hg25)<|dd (zX some hg25)<|y0 J (nF J J hg25)<|yN ?_;refine G9 false J (λq=>nomatch q) (λ_=>?_);refine c7<|S6 2 J ?_;exact eL h (Wk.trans (m9 _ [912511]) W)
  .refine o0 ?_;refine e6<|e6<|l7 ?_;refine .inl ⟨J,?_⟩;have h:=xL hx23 h;exact eJ h (Wk.trans (m9 _ [912511]) (WP (λl=>if l=2001 then 2011 else if l=912501 then 912511 else l)))
theorem dw{a0}:PO Tryz.prog 116 [.L (Ls iF) a0] (F9 a0) λr=>.L iF r:=by
 refine pO Tryz.func116 λr h _ _=>?_;refine S4 1 J<|S4 1 J ?_;refine jq h (λj11=>St.of [(0,.L (Ls iF) a0),(3,.I j11)] []) (λj11 h=>?_) λκ10 h=>?_
 .refine S3 1 J ?_;refine O8 (WE [(0,.L (Ls iF) a0),(23,.I j11)] []) ?_;refine vc (fn:=Tryz.f200) (N1:=27) J J Tryz.func200 J Qu J J nl (λe8 o9=>?_);refine S4 1 J ?_;refine jq h (λ_=>St.of [(1000000,.L (Ls iF) a0),(1000023,.I j11),(0,.nl),(1,.I j11)] []) (λq13 h=>?_) λκ12 h=>?_
  .refine k9 ?_;refine S3 2 J<|Ky J J l6<|S1 1 J<|nL (f:=iF) (xs:=[]) J l6<|S2 3 J<|S4 2 J ?_;refine cN h (λhc h=>?_) λhc h=>?_
   .refine S5 2 J ?_;refine Ky J J l6<|y0 J (xF (t':=true) (xs:=[]) (ys:=[]) J l6 o5 (λ_ q=>nomatch q) J ⟨_,J⟩ J (λq=>nomatch q) (zF _) (zW _) (zF _) J J)<|S1 1 J<|w8 h λv14 hv11 h=>Uj (f:=iF) J hv11 J nl J J l6 I3 o5 nl C0 O9 J J J<|S1 1 J<|nL (f:=iF) (xs:=[]) J l6<|PS [(1000000,.L (Ls iF) a0),(1000023,.I j11),(0,.nl),(1,.I (u4 (j11-(u4 (0-0))))),(8,.I j11),(9,.nl),(10,.I 0),(11,.nl),(12,.I 0),(13,.I (u4 (0-0))),(14,.I (u4 (j11-(u4 (0-0))))),(15,.I (u4 (j11-(u4 (0-0))))),(16,.bool (decide ((u4 (j11-(u4 (0-0)))) > 0))),(17,.nl),(18,.nl),(19,.I 0),(20,.nl),(21,.I (u4 (j11-(u4 (0-0))))),(23,.nl),(24,.I 0)] [] J ⟨J,J,J,J,J,J,J,J,J,J,J,J,J,J,J,J,J,J,J,J,J,J,J,J,J,J,J,J,J,J,J,J,J,J,J,J,J,J,J,J,J,J,J,J,J,J,J,J,J,J,J,J,J,J,J,J,J,J,J,J,tr⟩ tr J J nl J J J l6 o5<|S2 1 J<|S4 2 J<|c5 ?_;refine⟨J,[.sl 25],⟨J,tr⟩,?_⟩;refine O8 (sM (λl=>if l=2001 then 25 else l) [(0,.L (Ls iF) a0),(24,.sl 2001)] [(2001,⟨List.map iF [],0,true,1,true⟩)])<|S2 1 J ?_;refine jq h (λj23=>St.of [(6,.sl 2001)] [(2001,⟨List.map iF j23,(List.map iF j23).length,true,1,true⟩)]) (λj23 h=>?_) λκ22 h=>?_
    .refine S4 2 J ?_;refine c5 ?_;cases h;exact f1
    .refine S3 1 J ?_;refine nL J bk<|S2 1 J<|k7<|lq h (λq=>St.of [(6,.sl 2001),(25,.L (Ls iF) a0),(26,.I (a0.length:Int)),(27,.I q.1)] [(2001,⟨List.map iF q.2,(List.map iF q.2).length,true,1,true⟩)]) (Wk.trans (m9 _ [2001]) W) λq28 x27 h hx20=>?_;obtain⟨s25,s26⟩:=q28;refine S4 1 J<|k9 ?_;refine cN h (λhc h=>?_) λhc h=>?_
     .refine c7 ?_;refine k9<|k7<|sR<|iL h J J bk bL λv29 _ h=>S2 2 J<|S5 2 J<|w8 h λv30 hv22 h=>J4 J (H8 (f:=iF) hv22 J J J J J J (.inl ⟨_,J,J⟩) l6 o5 O9 C0 J (λ_=>J)) J J J<|S2 1 J<|S6 2 J ?_;exact eL h (Wk.trans (m9 _ [33]) (WP (λl=>if l=2001 then 33 else l)))
     .refine o0 ?_;refine e6<|e6<|l7 ?_;have h:=xL hx20 h;exact eJ h (Wk.trans (m9 _ [2001]) W)
   .refine c7 ?_;refine S4 2 J<|c5 ?_;refine⟨J,[.nl],⟨J,tr⟩,?_⟩;refine O8 (WE [(0,.L (Ls iF) a0),(24,.nl)] [])<|S2 1 J ?_;refine jq h (λj39=>St.of [(6,.sl 910006)] [(910006,⟨List.map iF j39,(List.map iF j39).length,true,1,true⟩)]) (λj39 h=>?_) λκ38 h=>?_
    .refine S4 2 J ?_;refine c5 ?_;cases h;exact f1
    .refine S3 1 J ?_;refine nL J bk<|S2 1 J<|k7<|lq h (λq=>St.of [(6,.sl 910006),(25,.L (Ls iF) a0),(26,.I (a0.length:Int)),(27,.I q.1)] [(910006,⟨List.map iF q.2,(List.map iF q.2).length,true,1,true⟩)]) (Wk.trans (F5 (t:=6) (l:=920006) (z:=1) J J) (WP (λl=>if l=910006 then 920006 else l))) λq44 x43 h hx31=>?_;obtain⟨s41,s42⟩:=q44;refine S4 1 J<|k9 ?_;refine cN h (λhc h=>?_) λhc h=>?_
     .refine c7 ?_;refine k9<|k7<|sR<|iL h J J bk bL λv45 _ h=>S2 2 J<|S5 2 J<|w8 h λv46 hv33 h=>J4 J (H8 (f:=iF) hv33 J J J J J J (.inl ⟨_,J,J⟩) l6 o5 O9 C0 J (λ_=>J)) J J J<|S2 1 J<|S6 2 J ?_;exact eL h (Wk.trans (m9 _ [33]) (WP (λl=>if l=910006 then 33 else l)))
     .refine o0 ?_;refine e6<|e6<|l7 ?_;have h:=xL hx31 h;exact eJ h (Wk.trans (m9 _ [910006]) W)
  .refine S4 2 J ?_;refine cN h (λhc h=>?_) λhc h=>?_;·cases h
   .refine c7 ?_;exact eJ h W
 .refine S3 1 J ?_;refine nL J bk<|S2 1 J<|k7<|lq h (λq=>St.of [(0,.L (Ls iF) a0),(3,.I q.1),(9,.L (Ls iF) a0),(10,.I (a0.length:Int)),(11,.I q.2)] []) W λq51 x50 h hx36=>?_;obtain⟨s48,s49⟩:=q51;refine S4 1 J<|k9 ?_;refine cN h (λhc h=>?_) λhc h=>?_
  .refine c7 ?_;refine jq h (λj54=>St.of [(0,.L (Ls iF) a0),(3,.I j54),(9,.L (Ls iF) a0),(10,.I (a0.length:Int)),(11,.I s49)] []) (λj54 h=>?_) λκ53 h=>?_
   .refine S6 2 J ?_;exact eL h W
   .refine k7 ?_;refine sR<|iL h J J bk bL λv55 _ h=>S2 2 J<|S3 2 J<|nL J l6<|S2 2 J<|S4 2 J ?_;refine cN h (λhc h=>?_) λhc h=>?_;·cases h
    .refine c7 ?_;exact eJ h W
  .refine o0 ?_;refine e6<|e6<|l7 ?_;have h:=xL hx36 h;exact eJ h W
theorem T1{a0}:PO Tryz.prog 149 [c9.Pv a0] (H7 a0) λr=>.I r:=by
 refine pO Tryz.func149 λr h _ _=>?_;unfold H7 at h;refine S4 2 J<|S3 2 J<|nL J l6<|S2 1 J<|c5 ?_;cases h;exact f1
theorem fD{a0 a1 a2}:PO Tryz.prog 258 [.L iF a0,.I a1,.I a2] (U0 a0 a1 a2) λr=>.lst true (List.map iF r):=by
 refine pO Tryz.func258 λr h _ _=>?_;unfold U0 at h;refine S4 1 J<|S3 4 J<|w8 h λv1 hv1 h=>y0 J (Oz (f:=iF) hv1 J ⟨_,J⟩ ⟨_,J⟩ ⟨_,J⟩ J J l6 o5 (λ_=>J))<|S2 1 J<|c5 ?_;cases h;exact f1
theorem W1{a0 a1}:PO Tryz.prog 148 [c9.Pv a0,.I a1] (D8 a0 a1) λr=>.tup [c9.Pv r.1,.I r.2]:=by
 refine pO Tryz.func148 λr h _ _=>?_;unfold D8 at h;refine S4 3 J<|k9<|dr [] s6 (by kernel_rfl) (by kernel_rfl)<|S7 1 J<|w8 h λv1 hv1 h=>d2 J (P8 J T1 J hv1) J<|S8 3 J ?_;refine cN h (λhc h=>?_) λhc h=>?_
 .refine S4 3 J ?_;refine c5 ?_;cases h;exact⟨J,[_,_],⟨oL J J J ql kP nl J,⟨J,tr⟩⟩,J,io⟩
 .refine c7 ?_;refine dr [] s6 (by kernel_rfl) (by kernel_rfl)<|S7 3 J<|d2 J (P8 J T1 J hv1) J<|w8 h λv2 hv2 h=>dX J (u7 J fD J hv2) J<|S7 1 J<|UQ J (I4 (f:=iF) (l:=[a1]) J l6 o5 C0 J J nl J J) J<|w8 h λv3 hv3 h=>d3 J (wA (f:=iF) hv3 J J (.inl ⟨_,J,J⟩) l6 o5 O9 C0 J (λ_=>J)) J J J<|S7 1 J<|D0 (x':=.agg [.sl 19,.I a0.Cap]) (cl':=false) J J (.inl J) bL<|J1<|S4 3 J<|c5 ?_;cases h;exact⟨J,[_,_],⟨oL J J J ql kP nl J,⟨J,tr⟩⟩,J,io⟩
theorem sD{a0 a1}:PO Tryz.prog 259 [c9.Pv a0,.I a1] (iU a0 a1) λr=>.tup [c9.Pv r.1,.L iF r.2]:=by
 refine pO Tryz.func259 λr h _ _=>?_;refine S4 3 J<|S3 2 J<|cA h T1 J J λv1 hv1 h=>y0 J (TX J J J)<|y0 J (OA J J J)<|S2 1 J<|S3 3 J<|cF h fD J J λv2 _ h=>S2 1 J<|dr [] s6 (by kernel_rfl) (by kernel_rfl)<|S7 4 J<|d2 J (P8 J T1 J hv1) J<|w8 h λv3 hv3 h=>dX J (u7 J fD J hv3) J<|S7 1 J<|D0 (x':=.agg [.L iF v3,.I a0.Cap]) (cl':=true) J J (.inr J) bL<|J1<|S4 4 J<|c5 ?_;cases h;exact⟨J,[_,_],⟨oL J J J ql kP nl J,⟨J,tr⟩⟩,J,io⟩
theorem mB{a0}:PO Tryz.prog 150 [c9.Pv a0] (X4 a0) λr=>.tup [c9.Pv r.1,.I r.2.1,.I r.2.2]:=by
 refine pO Tryz.func150 λr h _ _=>?_;refine S4 4 J<|S3 1 J<|cF h sD J J λv1 _ h=>S2 6 J<|k9<|S3 1 J<|nL J l6<|S2 1 J ?_;refine cN h (λhc h=>?_) λhc h=>?_
 .refine S4 1 J ?_;refine S4 5 J<|c5 ?_;cases h;exact⟨J,[_,_,_],⟨oL J J J ql kP nl J,⟨J,⟨J,tr⟩⟩⟩,J,io⟩
 .refine c7 ?_;refine dr [2,3] s6 (by kernel_rfl) (by kernel_rfl)<|S7 2 J<|w8 h λv2 hv2 h=>d7 J (λ_ hN=>J9 (f:=iF) (cs:=[.I v2]) hv2 J J l6 o5 J J) J<|d7 J (λ_ hN=>Q8 J G3 J) J<|D0 (x':=c9.Pv v1.1) (cl':=true) J J (.inr J) kP<|S8 2 J<|c5 ?_;cases h;exact⟨J,[_,_,_],⟨oL J J J ql kP nl J,⟨J,⟨J,tr⟩⟩⟩,J,io⟩
theorem xg{a0 a1}:PO Tryz.prog 260 [b8.Pv a0,.rptr [.I a1]] (fv a0 a1) λr=>.bool r:=by
 refine pO Tryz.func260 λr h _ _=>?_;unfold fv at h;refine S4 2 J<|S4 5 J<|c5 ?_;cases h;exact f1
theorem P9{a0 a1}:PO Tryz.prog 157 [.L b8.Pv a0,.fn (.func 260) [.rptr [.I a1]]] (z6 a0 a1) λr=>.I r:=by
 refine pO Tryz.func157 λr h _ _=>?_;refine S4 1 J ?_;refine jq h (λ_=>St.of [] []) (λq7 h=>?_) λκ6 h=>?_
 .refine S4 1 J ?_;refine c5 ?_;cases h;exact f1
 .refine S3 1 J ?_;refine nL J A9<|S2 1 J<|k7<|lq h (λs9=>St.of [(0,.L b8.Pv a0),(1,.fn (.func 260) [.rptr [.I a1]]),(7,.I (a0.length:Int)),(8,.I s9)] []) W λs9 x10 h hx9=>S4 1 J<|k9 ?_;refine cN h (λhc h=>?_) λhc h=>?_
  .refine c7 ?_;refine k9<|k7<|S4 2 J<|S3 3 J<|iL h J J A9 u9 λv11 _ h=>S1 1 J<|cA h xg J J λv12 _ h=>yN ?_;refine cN h (λhc h=>?_) λhc h=>?_
   .refine S4 2 J ?_;refine c5 ?_;have h:=xL hx9 h;cases h;exact f1
   .refine c7 ?_;refine S6 2 J ?_;exact eL h W
  .refine o0 ?_;refine e6<|e6<|l7 ?_;have h:=xL hx9 h;exact eJ h W
theorem R8{a0 a1}:PO Tryz.prog 151 [a8.Pv a0,.I a1] (J6 a0 a1) λr=>.I r:=by
 refine pO Tryz.func151 λr h _ _=>?_;refine S4 3 J<|S3 3 J<|cA h P9 J J λv1 _ h=>S2 1 J<|c5 ?_;cases h;exact f1
theorem qU{a0 a1}:PO Tryz.prog 261 [g8.Pv a0,.rptr [.I a1]] (cH a0 a1) λr=>.bool r:=by
 refine pO Tryz.func261 λr h _ _=>?_;unfold cH at h;refine S4 2 J<|S4 5 J<|c5 ?_;cases h;exact f1
theorem Z9{a0 a1}:PO Tryz.prog 163 [.L g8.Pv a0,.fn (.func 261) [.rptr [.I a1]]] (C6 a0 a1) λr=>.L g8.Pv r:=by
 refine pO Tryz.func163 λr h _ _=>?_;refine S4 1 J<|S4 1 J ?_;refine jq h (λj15=>St.of [(5,.sl 910005)] [(910005,⟨List.map g8.Pv j15,(List.map g8.Pv j15).length,true,2,true⟩)]) (λj15 h=>?_) λκ14 h=>?_
 .refine S4 2 J ?_;refine c5 ?_;cases h;exact f1
 .refine S3 1 J ?_;refine nL J N2<|S2 1 J<|k7<|lq h (λq=>St.of [(1,.fn (.func 261) [.rptr [.I a1]]),(5,.sl 910005),(8,.L g8.Pv a0),(9,.I (a0.length:Int)),(10,.I q.1)] [(910005,⟨List.map g8.Pv q.2,(List.map g8.Pv q.2).length,true,2,true⟩)]) (Wk.trans (F5 (t:=5) (l:=920005) (z:=2) J J) (WP (λl=>if l=910005 then 920005 else l))) λq20 x19 h hx14=>?_;obtain⟨s17,s18⟩:=q20;refine S4 1 J<|k9 ?_;refine cN h (λhc h=>?_) λhc h=>?_
  .refine c7 ?_;refine jq h (λj25=>St.of [(1,.fn (.func 261) [.rptr [.I a1]]),(5,.sl 20),(8,.L g8.Pv a0),(9,.I (a0.length:Int)),(10,.I s17)] [(20,⟨List.map g8.Pv j25,(List.map g8.Pv j25).length,true,2,true⟩)]) (λj25 h=>?_) λκ24 h=>?_
   .refine S6 2 J ?_;exact eL h (Wk.trans (m9 _ [20]) (WP (λl=>if l=910005 then 20 else l)))
   .refine k7 ?_;refine sR<|iL h J J N2 U4 λv26 _ h=>S2 3 J<|S3 2 J<|cA h qU J J λv27 _ h=>yN ?_;refine cN h (λhc h=>?_) λhc h=>?_
    .refine S5 2 J ?_;refine y0 J (I4 (f:=g8.Pv) (l:=[v26]) J N2 U4 aA J J nl J J)<|w8 h λv28 hv21 h=>J4 J (H8 (f:=g8.Pv) hv21 J J J J J J (.inl ⟨_,J,J⟩) N2 U4 qm aA J (λ_=>J)) J J J<|S2 1 J ?_;exact eJ h (Wk.trans (m9 _ [20]) W)
    .refine c7 ?_;exact eJ h (Wk.trans (m9 _ [910005]) (WP (λl=>if l=20 then 910005 else l)))
  .refine o0 ?_;refine e6<|e6<|l7 ?_;have h:=xL hx14 h;exact eJ h (Wk.trans (m9 _ [910005]) W)
theorem qV{a0}:PO Tryz.prog 262 [g8.Pv a0] (gk a0) λr=>.I r:=by
 refine pO Tryz.func262 λr h _ _=>?_;unfold gk at h;refine S4 2 J<|S4 3 J<|c5 ?_;cases h;exact f1
theorem U9{a0}:PO Tryz.prog 112 [.L g8.Pv a0,.fn (.func 262) []] (E2 a0) λr=>.L iF r:=by
 refine pO Tryz.func112 λr h _ _=>?_;refine S4 1 J<|S4 1 J ?_;refine jq h (λj10=>St.of [(5,.sl 910005)] [(910005,⟨List.map iF j10,(List.map iF j10).length,true,1,true⟩)]) (λj10 h=>?_) λκ9 h=>?_
 .refine S4 2 J ?_;refine c5 ?_;cases h;exact f1
 .refine S3 1 J ?_;refine nL J N2<|S2 1 J<|k7<|lq h (λq=>St.of [(1,.fn (.func 262) []),(5,.sl 910005),(8,.L g8.Pv a0),(9,.I (a0.length:Int)),(10,.I q.1)] [(910005,⟨List.map iF q.2,(List.map iF q.2).length,true,1,true⟩)]) (Wk.trans (F5 (t:=5) (l:=920005) (z:=1) J J) (WP (λl=>if l=910005 then 920005 else l))) λq15 x14 h hx10=>?_;obtain⟨s12,s13⟩:=q15;refine S4 1 J<|k9 ?_;refine cN h (λhc h=>?_) λhc h=>?_
  .refine c7 ?_;refine k9<|k7<|sR<|iL h J J N2 U4 λv16 _ h=>S2 3 J<|S5 3 J<|cA h qV J J λv17 _ h=>y0 J (I4 (f:=iF) (l:=[v17]) J l6 o5 C0 J J nl J J)<|w8 h λv18 hv13 h=>J4 J (H8 (f:=iF) hv13 J J J J J J (.inl ⟨_,J,J⟩) l6 o5 O9 C0 J (λ_=>J)) J J J<|S2 1 J<|S6 2 J ?_;exact eL h (Wk.trans (m9 _ [19]) (WP (λl=>if l=910005 then 19 else l)))
  .refine o0 ?_;refine e6<|e6<|l7 ?_;have h:=xL hx10 h;exact eJ h (Wk.trans (m9 _ [910005]) W)
theorem lj{a0 a1}:PO Tryz.prog 152 [a8.Pv a0,.I a1] (P4 a0 a1) λr=>.L iF r:=by
 refine pO Tryz.func152 λr h _ _=>?_;unfold P4 at h;refine S4 3 J<|S3 3 J<|w8 h λv1 hv1 h=>Iw J (u7 J Z9 J hv1) J<|S2 1 J<|S3 1 J<|cF h U9 J J λv2 _ h=>S2 1 J<|c5 ?_;cases h;exact f1
theorem vI{a0}:PO Tryz.prog 82 [a8.Pv a0] (gP a0) λr=>.abs (U7 (List.map (cr iF PV.bool) r)):=by
 refine pO Tryz.func82 λr h _ _=>?_;refine S4 2 J<|S3 2 J<|cF h aq J J λv1 _ h=>cF h cG J J λv2 _ h=>S2 1 J<|sR<|CC (KT:=Int) (VT:=Bool) (EK:=iF) (E:=PV.bool) 5000012 J J<|ai (es:=[]) (k:=0) (v:=true) (E:=PV.bool) (EK:=iF) (.inr J) J J J J J J Q7 (y4 I3)<|S2 3 J<|S3 2 J<|nL J A9<|cF h mA J J λv3 _ h=>S2 2 J<|S4 2 J<|YM [] 9 s6 (by kernel_rfl) (by kernel_rfl) (by kernel_rfl) (by kernel_rfl) nl<|S7 4 J<|w8 h λv4 hv4 h=>dX J (u7 J cI J hv4) J<|w8 h λv5 hv5 h=>dX J (u7 J uQ J hv5) J<|S7 1 J<|UQ J (I4 (f:=(Ls iF)) (l:=[a0.Roots,v5,v2]) J bk bL yh J J nl J J) J<|w8 h λv6 hv6 h=>dX J (u7 J dw J hv6) J<|J1<|DE (sM (λl=>if l=2001 then 5 else if l=2002 then 4 else if l=2003 then 1 else if l=5002004 then 5000012 else l) [(1,.ptr 2003 0 0),(4,.ptr 2002 0 0),(5,.ptr 2001 0 0),(6,.fn (.func 147) [.ptr 2002 0 0,.ptr 2001 0 0]),(19,.fn (.func 147) [.ptr 2002 0 0,.ptr 2001 0 0]),(27,.L iF v6)] [(2001,vR (c9.Pv v3) 2),(2002,vS (.mp 5002004) 1),(5002004,⟨[.mapc (List.map (cr iF PV.bool) (p6 [] 0 true))],0,false,0,false⟩),(2003,vR (a8.Pv a0) 11)]) ?_;refine Iv (fn:=Tryz.f147) (N1:=25) J J J Tryz.func147 J CH J J nl (λe7 o8=>?_);refine Xd h (λq=>St.of [(1000001,.ptr 2003 0 0),(1000004,.ptr 2002 0 0),(1000005,.ptr 2001 0 0),(1000006,.fn (.func 147) [.ptr 2002 0 0,.ptr 2001 0 0]),(1000019,.fn (.func 147) [.ptr 2002 0 0,.ptr 2001 0 0]),(1000027,.L iF v6)] [(2001,vR (c9.Pv q.1) 2),(2002,vS (.mp 5002004) 1),(5002004,⟨[.mapc (List.map (cr iF PV.bool) q.2)],0,false,0,false⟩),(2003,vR (a8.Pv a0) 11)]) (λq24 h=>dup ?_) λκ21 h=>?_
 .obtain⟨j22,j23⟩:=q24;refine⟨J,[],tr,?_⟩;refine⟨_,va [(1,.ptr 2003 0 0),(4,.ptr 2002 0 0),(5,.ptr 2001 0 0),(6,.fn (.func 147) [.ptr 2002 0 0,.ptr 2001 0 0])] [(2001,vR (c9.Pv j22) 2),(2002,vS (.mp 5002004) 1),(5002004,⟨[.mapc (List.map (cr iF PV.bool) j23)],0,false,0,false⟩),(2003,vR (a8.Pv a0) 11)] ⟨J,J,J,J,J,J,J,J,J,J,J,J,tr⟩ ⟨rS,X7 J J J (λq=>nomatch q) J J J J,X7 J J J (λq=>nomatch q) J J J J,rS,tr⟩,?_⟩;refine J1 ?_;refine jq h (λj100=>St.of [(4,.ptr 2002 0 0)] [(2002,vS (.mp 5002004) 1),(5002004,⟨[.mapc (List.map (cr iF PV.bool) j100)],0,false,0,false⟩)]) (λj100 h=>?_) λκ99 h=>?_
  .refine S4 2 J ?_;refine bU (Ep 2 5002004 J J)<|c5 ?_;cases h;exact f1
  .refine k7 ?_;refine lq h (λq=>St.of [(1,.ptr 2003 0 0),(4,.ptr 2002 0 0),(5,.ptr 2001 0 0),(6,.fn (.func 147) [.ptr 2002 0 0,.ptr 2001 0 0])] [(2001,vR (c9.Pv q.1) 2),(2002,vS (.mp 5002004) 1),(5002004,⟨[.mapc (List.map (cr iF PV.bool) q.2)],0,false,0,false⟩),(2003,vR (a8.Pv a0) 11)]) W λq105 x104 h hx67=>?_;obtain⟨s102,s103⟩:=q105;refine k9<|S3 1 J<|cA h T1 J J λv106 _ h=>S2 1 J ?_;refine cN h (λhc h=>?_) λhc h=>?_
   .refine c7 ?_;refine k7<|S4 1 J<|S3 1 J<|cF h mB J J λv107 _ h=>S2 6 J<|YM [] 9 s6 (by kernel_rfl) (by kernel_rfl) (by kernel_rfl) (by kernel_rfl) nl<|S7 5 J<|w8 h λv108 hv70 h=>d2 J (P8 J R8 J hv70) J<|w8 h λv109 hv71 h=>d0 J (J9 (f:=b8.Pv) (cs:=b8.Pc v109) hv71 J J A9 u9 J J) J<|S8 2 J<|DE (WE [(1,.ptr 2003 0 0),(4,.ptr 2002 0 0),(5,.ptr 2001 0 0),(6,.fn (.func 147) [.ptr 2002 0 0,.ptr 2001 0 0]),(7,.I v107.2.1),(38,.fn (.func 147) [.ptr 2002 0 0,.ptr 2001 0 0]),(46,.L iF v109.Fields)] [(2001,vR (c9.Pv v107.1) 2),(2002,vS (.mp 5002004) 1),(5002004,⟨[.mapc (List.map (cr iF PV.bool) s103)],0,false,0,false⟩),(2003,vR (a8.Pv a0) 11)]) ?_;refine Iv (fn:=Tryz.f147) (N1:=25) J J J Tryz.func147 J CH J J nl (λe72 o73=>?_);refine Xd h (λq=>St.of [(1000001,.ptr 2003 0 0),(1000004,.ptr 2002 0 0),(1000005,.ptr 2001 0 0),(1000006,.fn (.func 147) [.ptr 2002 0 0,.ptr 2001 0 0]),(1000007,.I v107.2.1),(1000038,.fn (.func 147) [.ptr 2002 0 0,.ptr 2001 0 0]),(1000046,.L iF v109.Fields)] [(2001,vR (c9.Pv q.1) 2),(2002,vS (.mp 5002004) 1),(5002004,⟨[.mapc (List.map (cr iF PV.bool) q.2)],0,false,0,false⟩),(2003,vR (a8.Pv a0) 11)]) (λq127 h=>dup ?_) λκ124 h=>?_
    .obtain⟨j125,j126⟩:=q127;refine⟨J,[],tr,?_⟩;refine⟨_,va [(1,.ptr 2003 0 0),(4,.ptr 2002 0 0),(5,.ptr 2001 0 0),(6,.fn (.func 147) [.ptr 2002 0 0,.ptr 2001 0 0]),(7,.I v107.2.1)] [(2001,vR (c9.Pv j125) 2),(2002,vS (.mp 5002004) 1),(5002004,⟨[.mapc (List.map (cr iF PV.bool) j126)],0,false,0,false⟩),(2003,vR (a8.Pv a0) 11)] ⟨J,J,J,J,J,J,J,J,J,J,J,J,J,J,J,tr⟩ ⟨rS,X7 J J J (λq=>nomatch q) J J J J,X7 J J J (λq=>nomatch q) J J J J,rS,tr⟩,?_⟩;refine J1<|S5 3 J<|cF h lj J J λv128 _ h=>O8 (WE [(1,.ptr 2003 0 0),(4,.ptr 2002 0 0),(5,.ptr 2001 0 0),(6,.fn (.func 147) [.ptr 2002 0 0,.ptr 2001 0 0]),(48,.fn (.func 147) [.ptr 2002 0 0,.ptr 2001 0 0]),(51,.L iF v128)] [(2001,vR (c9.Pv j125) 2),(2002,vS (.mp 5002004) 1),(5002004,⟨[.mapc (List.map (cr iF PV.bool) j126)],0,false,0,false⟩),(2003,vR (a8.Pv a0) 11)]) ?_;refine vc (fn:=Tryz.f147) (N1:=25) J J Tryz.func147 J CH J J nl (λe84 o85=>?_);refine Xd h (λq=>St.of [(1000001,.ptr 2003 0 0),(1000004,.ptr 2002 0 0),(1000005,.ptr 2001 0 0),(1000006,.fn (.func 147) [.ptr 2002 0 0,.ptr 2001 0 0]),(1000048,.fn (.func 147) [.ptr 2002 0 0,.ptr 2001 0 0]),(1000051,.L iF v128)] [(2001,vR (c9.Pv q.1) 2),(2002,vS (.mp 5002004) 1),(5002004,⟨[.mapc (List.map (cr iF PV.bool) q.2)],0,false,0,false⟩),(2003,vR (a8.Pv a0) 11)]) (λq146 h=>dup ?_) λκ143 h=>?_
     .obtain⟨j144,j145⟩:=q146;refine⟨J,[],tr,?_⟩;refine O8 (WE [(1,.ptr 2003 0 0),(4,.ptr 2002 0 0),(5,.ptr 2001 0 0),(6,.fn (.func 147) [.ptr 2002 0 0,.ptr 2001 0 0])] [(2001,vR (c9.Pv j144) 2),(2002,vS (.mp 5002004) 1),(5002004,⟨[.mapc (List.map (cr iF PV.bool) j145)],0,false,0,false⟩),(2003,vR (a8.Pv a0) 11)])<|yN ?_;exact eL h W
     .refine S3 1 J ?_;refine nL J l6<|S2 1 J<|k7<|lq h (λq=>St.of [(1000001,.ptr 2003 0 0),(1000004,.ptr 2002 0 0),(1000005,.ptr 2001 0 0),(1000006,.fn (.func 147) [.ptr 2002 0 0,.ptr 2001 0 0]),(1000048,.fn (.func 147) [.ptr 2002 0 0,.ptr 2001 0 0]),(1000051,.L iF v128),(1,.ptr 2002 0 0),(2,.ptr 2001 0 0),(6,.L iF v128),(7,.I (v128.length:Int)),(8,.I q.1)] [(2001,vR (c9.Pv q.2.1) 2),(2002,vS (.mp 5002004) 1),(5002004,⟨[.mapc (List.map (cr iF PV.bool) q.2.2)],0,false,0,false⟩),(2003,vR (a8.Pv a0) 11)]) W λq152 x151 h hx97=>?_;obtain⟨s148,s149,s150⟩:=q152;refine S4 1 J<|k9 ?_;refine cN h (λhc h=>?_) λhc h=>?_
      .refine c7 ?_;refine jq h (λq=>St.of [(1000001,.ptr 2003 0 0),(1000004,.ptr 2002 0 0),(1000005,.ptr 2001 0 0),(1000006,.fn (.func 147) [.ptr 2002 0 0,.ptr 2001 0 0]),(1000048,.fn (.func 147) [.ptr 2002 0 0,.ptr 2001 0 0]),(1000051,.L iF v128),(1,.ptr 2002 0 0),(2,.ptr 2001 0 0),(6,.L iF v128),(7,.I (v128.length:Int)),(8,.I s148)] [(2001,vR (c9.Pv q.1) 2),(2002,vS (.mp 5002004) 1),(5002004,⟨[.mapc (List.map (cr iF PV.bool) q.2)],0,false,0,false⟩),(2003,vR (a8.Pv a0) 11)]) (λq158 h=>?_) λκ155 h=>?_
       .obtain⟨j156,j157⟩:=q158;refine S6 2 J ?_;exact eL h W
       .refine k7 ?_;refine sR<|iL h J J l6 o5 λv159 _ h=>S2 2 J<|S3 2 J<|CB (es:=s150) (k:=v159) (E:=PV.bool) (EK:=iF) (d:=.bool ((A1 s150 v159).getD (false:Bool))) J J J J Q7 (y4 I3) sY J (NZ _ _ _)<|S2 1 J ?_;refine cN h (λhc h=>?_) λhc h=>?_
        .refine S3 2 J ?_;refine ai (es:=s150) (k:=v159) (v:=true) (E:=PV.bool) (EK:=iF) (.inl J) J J J J J J Q7 (y4 I3)<|yN<|S5 2 J<|cF h W1 J J λv160 _ h=>S2 4 J ?_;exact eJ h W
        .refine c7 ?_;exact eJ h W
      .refine o0 ?_;refine e6<|e6<|l7 ?_;have h:=xL hx97 h;exact eJ h W
    .refine S3 1 J ?_;refine nL J l6<|S2 1 J<|k7<|lq h (λq=>St.of [(1000001,.ptr 2003 0 0),(1000004,.ptr 2002 0 0),(1000005,.ptr 2001 0 0),(1000006,.fn (.func 147) [.ptr 2002 0 0,.ptr 2001 0 0]),(1000007,.I v107.2.1),(1000038,.fn (.func 147) [.ptr 2002 0 0,.ptr 2001 0 0]),(1000046,.L iF v109.Fields),(1,.ptr 2002 0 0),(2,.ptr 2001 0 0),(6,.L iF v109.Fields),(7,.I (v109.Fields.length:Int)),(8,.I q.1)] [(2001,vR (c9.Pv q.2.1) 2),(2002,vS (.mp 5002004) 1),(5002004,⟨[.mapc (List.map (cr iF PV.bool) q.2.2)],0,false,0,false⟩),(2003,vR (a8.Pv a0) 11)]) W λq166 x165 h hx105=>?_;obtain⟨s162,s163,s164⟩:=q166;refine S4 1 J<|k9 ?_;refine cN h (λhc h=>?_) λhc h=>?_
     .refine c7 ?_;refine jq h (λq=>St.of [(1000001,.ptr 2003 0 0),(1000004,.ptr 2002 0 0),(1000005,.ptr 2001 0 0),(1000006,.fn (.func 147) [.ptr 2002 0 0,.ptr 2001 0 0]),(1000007,.I v107.2.1),(1000038,.fn (.func 147) [.ptr 2002 0 0,.ptr 2001 0 0]),(1000046,.L iF v109.Fields),(1,.ptr 2002 0 0),(2,.ptr 2001 0 0),(6,.L iF v109.Fields),(7,.I (v109.Fields.length:Int)),(8,.I s162)] [(2001,vR (c9.Pv q.1) 2),(2002,vS (.mp 5002004) 1),(5002004,⟨[.mapc (List.map (cr iF PV.bool) q.2)],0,false,0,false⟩),(2003,vR (a8.Pv a0) 11)]) (λq172 h=>?_) λκ169 h=>?_
      .obtain⟨j170,j171⟩:=q172;refine S6 2 J ?_;exact eL h W
      .refine k7 ?_;refine sR<|iL h J J l6 o5 λv173 _ h=>S2 2 J<|S3 2 J<|CB (es:=s164) (k:=v173) (E:=PV.bool) (EK:=iF) (d:=.bool ((A1 s164 v173).getD (false:Bool))) J J J J Q7 (y4 I3) sY J (NZ _ _ _)<|S2 1 J ?_;refine cN h (λhc h=>?_) λhc h=>?_
       .refine S3 2 J ?_;refine ai (es:=s164) (k:=v173) (v:=true) (E:=PV.bool) (EK:=iF) (.inl J) J J J J J J Q7 (y4 I3)<|yN<|S5 2 J<|cF h W1 J J λv174 _ h=>S2 4 J ?_;exact eJ h W
       .refine c7 ?_;exact eJ h W
     .refine o0 ?_;refine e6<|e6<|l7 ?_;have h:=xL hx105 h;exact eJ h W
   .refine o0 ?_;refine e6<|e6<|l7 ?_;have h:=xL hx67 h;exact eJ h W
 .refine S3 1 J ?_;refine nL J l6<|S2 1 J<|k7<|lq h (λq=>St.of [(1000001,.ptr 2003 0 0),(1000004,.ptr 2002 0 0),(1000005,.ptr 2001 0 0),(1000006,.fn (.func 147) [.ptr 2002 0 0,.ptr 2001 0 0]),(1000019,.fn (.func 147) [.ptr 2002 0 0,.ptr 2001 0 0]),(1000027,.L iF v6),(1,.ptr 2002 0 0),(2,.ptr 2001 0 0),(6,.L iF v6),(7,.I (v6.length:Int)),(8,.I q.1)] [(2001,vR (c9.Pv q.2.1) 2),(2002,vS (.mp 5002004) 1),(5002004,⟨[.mapc (List.map (cr iF PV.bool) q.2.2)],0,false,0,false⟩),(2003,vR (a8.Pv a0) 11)]) W λq180 x179 h hx113=>?_;obtain⟨s176,s177,s178⟩:=q180;refine S4 1 J<|k9 ?_;refine cN h (λhc h=>?_) λhc h=>?_
  .refine c7 ?_;refine jq h (λq=>St.of [(1000001,.ptr 2003 0 0),(1000004,.ptr 2002 0 0),(1000005,.ptr 2001 0 0),(1000006,.fn (.func 147) [.ptr 2002 0 0,.ptr 2001 0 0]),(1000019,.fn (.func 147) [.ptr 2002 0 0,.ptr 2001 0 0]),(1000027,.L iF v6),(1,.ptr 2002 0 0),(2,.ptr 2001 0 0),(6,.L iF v6),(7,.I (v6.length:Int)),(8,.I s176)] [(2001,vR (c9.Pv q.1) 2),(2002,vS (.mp 5002004) 1),(5002004,⟨[.mapc (List.map (cr iF PV.bool) q.2)],0,false,0,false⟩),(2003,vR (a8.Pv a0) 11)]) (λq186 h=>?_) λκ183 h=>?_
   .obtain⟨j184,j185⟩:=q186;refine S6 2 J ?_;exact eL h W
   .refine k7 ?_;refine sR<|iL h J J l6 o5 λv187 _ h=>S2 2 J<|S3 2 J<|CB (es:=s178) (k:=v187) (E:=PV.bool) (EK:=iF) (d:=.bool ((A1 s178 v187).getD (false:Bool))) J J J J Q7 (y4 I3) sY J (NZ _ _ _)<|S2 1 J ?_;refine cN h (λhc h=>?_) λhc h=>?_
    .refine S3 2 J ?_;refine ai (es:=s178) (k:=v187) (v:=true) (E:=PV.bool) (EK:=iF) (.inl J) J J J J J J Q7 (y4 I3)<|yN<|S5 2 J<|cF h W1 J J λv188 _ h=>S2 4 J ?_;exact eJ h W
    .refine c7 ?_;exact eJ h W
  .refine o0 ?_;refine e6<|e6<|l7 ?_;have h:=xL hx113 h;exact eJ h W
theorem pJ{a0 a1}:PO Tryz.prog 83 [b8.Pv a0,.rptr [.abs (U7 (List.map (cr iF PV.bool) a1))]] (bH a0 a1) λr=>.bool r:=by
 refine pO Tryz.func83 λr h _ _=>?_;unfold bH at h;refine S4 2 J<|S3 3 J<|m7 J (λhg=>Q8 J CF J)<|m7 J (λhg=>oF J vg J)<|m7 J (λhg=>oS (ct hg) J J G3 J)<|m7 J (λhg=>Cm (es:=a1) (k:=a0.Serial) (E:=PV.bool) (EK:=iF) (d:=.bool ((A1 a1 a0.Serial).getD (false:Bool))) (ct hg) (ct hg) Q7 (y4 I3) sY J (NZ _ _ _))<|m7 J (λhg=>eC (ct hg) J)<|y0 J (C4 J J J (λq=>jg q))<|S2 1 J<|c5 ?_;cases h;exact f1
theorem Y5{a0 a1}:PO Tryz.prog 60 [.L b8.Pv a0,.fn (.func 83) [.rptr [.abs (U7 (List.map (cr iF PV.bool) a1))]]] (C3 a0 a1) λr=>.L b8.Pv r:=by
 refine pO Tryz.func60 λr h _ _=>?_;refine S4 1 J<|S4 1 J ?_;refine jq h (λj15=>St.of [(5,.sl 910005)] [(910005,⟨List.map b8.Pv j15,(List.map b8.Pv j15).length,true,7,true⟩)]) (λj15 h=>?_) λκ14 h=>?_
 .refine S4 2 J ?_;refine c5 ?_;cases h;exact f1
 .refine S3 1 J ?_;refine nL J A9<|S2 1 J<|k7<|lq h (λq=>St.of [(1,.fn (.func 83) [.rptr [.abs (U7 (List.map (cr iF PV.bool) a1))]]),(5,.sl 910005),(8,.L b8.Pv a0),(9,.I (a0.length:Int)),(10,.I q.1)] [(910005,⟨List.map b8.Pv q.2,(List.map b8.Pv q.2).length,true,7,true⟩)]) (Wk.trans (F5 (t:=5) (l:=920005) (z:=7) J J) (WP (λl=>if l=910005 then 920005 else l))) λq20 x19 h hx14=>?_;obtain⟨s17,s18⟩:=q20;refine S4 1 J<|k9 ?_;refine cN h (λhc h=>?_) λhc h=>?_
  .refine c7 ?_;refine jq h (λj25=>St.of [(1,.fn (.func 83) [.rptr [.abs (U7 (List.map (cr iF PV.bool) a1))]]),(5,.sl 20),(8,.L b8.Pv a0),(9,.I (a0.length:Int)),(10,.I s17)] [(20,⟨List.map b8.Pv j25,(List.map b8.Pv j25).length,true,7,true⟩)]) (λj25 h=>?_) λκ24 h=>?_
   .refine S6 2 J ?_;exact eL h (Wk.trans (m9 _ [20]) (WP (λl=>if l=910005 then 20 else l)))
   .refine k7 ?_;refine sR<|iL h J J A9 u9 λv26 _ h=>S2 3 J<|S3 2 J<|cA h pJ J J λv27 _ h=>yN ?_;refine cN h (λhc h=>?_) λhc h=>?_
    .refine S5 2 J ?_;refine y0 J (I4 (f:=b8.Pv) (l:=[v26]) J A9 u9 ay J J nl J J)<|w8 h λv28 hv21 h=>J4 J (H8 (f:=b8.Pv) hv21 J J J J J J (.inl ⟨_,J,J⟩) A9 u9 mZ ay J (λ_=>J)) J J J<|S2 1 J ?_;exact eJ h (Wk.trans (m9 _ [20]) W)
    .refine c7 ?_;exact eJ h (Wk.trans (m9 _ [910005]) (WP (λl=>if l=20 then 910005 else l)))
  .refine o0 ?_;refine e6<|e6<|l7 ?_;have h:=xL hx14 h;exact eJ h (Wk.trans (m9 _ [910005]) W)
theorem ml{a0}:PO Tryz.prog 84 [b8.Pv a0] (dp a0) λr=>.bool r:=by
 refine pO Tryz.func84 λr h _ _=>?_;unfold dp at h;refine S4 2 J<|S3 4 J<|m7 J (λhg=>oF J BD J)<|m7 J (λhg=>oS (ct hg) J J oZ J)<|m7 J (λhg=>eC (ct hg) J)<|y0 J (C4 J J J (λq=>jg q))<|S2 1 J<|c5 ?_;cases h;exact f1
theorem aT{a0}:PO Tryz.prog 60 [.L b8.Pv a0,.fn (.func 84) []] (D6 a0) λr=>.L b8.Pv r:=by
 refine pO Tryz.func60 λr h _ _=>?_;refine S4 1 J<|S4 1 J ?_;refine jq h (λj15=>St.of [(5,.sl 910005)] [(910005,⟨List.map b8.Pv j15,(List.map b8.Pv j15).length,true,7,true⟩)]) (λj15 h=>?_) λκ14 h=>?_
 .refine S4 2 J ?_;refine c5 ?_;cases h;exact f1
 .refine S3 1 J ?_;refine nL J A9<|S2 1 J<|k7<|lq h (λq=>St.of [(1,.fn (.func 84) []),(5,.sl 910005),(8,.L b8.Pv a0),(9,.I (a0.length:Int)),(10,.I q.1)] [(910005,⟨List.map b8.Pv q.2,(List.map b8.Pv q.2).length,true,7,true⟩)]) (Wk.trans (F5 (t:=5) (l:=920005) (z:=7) J J) (WP (λl=>if l=910005 then 920005 else l))) λq20 x19 h hx14=>?_;obtain⟨s17,s18⟩:=q20;refine S4 1 J<|k9 ?_;refine cN h (λhc h=>?_) λhc h=>?_
  .refine c7 ?_;refine jq h (λj25=>St.of [(1,.fn (.func 84) []),(5,.sl 20),(8,.L b8.Pv a0),(9,.I (a0.length:Int)),(10,.I s17)] [(20,⟨List.map b8.Pv j25,(List.map b8.Pv j25).length,true,7,true⟩)]) (λj25 h=>?_) λκ24 h=>?_
   .refine S6 2 J ?_;exact eL h (Wk.trans (m9 _ [20]) (WP (λl=>if l=910005 then 20 else l)))
   .refine k7 ?_;refine sR<|iL h J J A9 u9 λv26 _ h=>S2 3 J<|S3 2 J<|cA h ml J J λv27 _ h=>yN ?_;refine cN h (λhc h=>?_) λhc h=>?_
    .refine S5 2 J ?_;refine y0 J (I4 (f:=b8.Pv) (l:=[v26]) J A9 u9 ay J J nl J J)<|w8 h λv28 hv21 h=>J4 J (H8 (f:=b8.Pv) hv21 J J J J J J (.inl ⟨_,J,J⟩) A9 u9 mZ ay J (λ_=>J)) J J J<|S2 1 J ?_;exact eJ h (Wk.trans (m9 _ [20]) W)
    .refine c7 ?_;exact eJ h (Wk.trans (m9 _ [910005]) (WP (λl=>if l=20 then 910005 else l)))
  .refine o0 ?_;refine e6<|e6<|l7 ?_;have h:=xL hx14 h;exact eJ h (Wk.trans (m9 _ [910005]) W)
theorem Ae{a0}:PO Tryz.prog 58 [a8.Pv a0] (lg a0) λr=>.fn (.func 111) [.rptr (a8.Pc r)]:=by
 refine pO Tryz.func58 λr h _ _=>?_;unfold lg at h;refine S4 2 J<|S4 2 J<|c5 ?_;cases h;exact f1
theorem sm{a0}:PO Tryz.prog 113 [g8.Pv a0] (iO a0) λr=>.I r:=by
 refine pO Tryz.func113 λr h _ _=>?_;unfold iO at h;refine S4 2 J<|S4 3 J<|c5 ?_;cases h;exact f1
theorem V7{a0}:PO Tryz.prog 112 [.L g8.Pv a0,.fn (.func 113) []] (B7 a0) λr=>.L iF r:=by
 refine pO Tryz.func112 λr h _ _=>?_;refine S4 1 J<|S4 1 J ?_;refine jq h (λj10=>St.of [(5,.sl 910005)] [(910005,⟨List.map iF j10,(List.map iF j10).length,true,1,true⟩)]) (λj10 h=>?_) λκ9 h=>?_
 .refine S4 2 J ?_;refine c5 ?_;cases h;exact f1
 .refine S3 1 J ?_;refine nL J N2<|S2 1 J<|k7<|lq h (λq=>St.of [(1,.fn (.func 113) []),(5,.sl 910005),(8,.L g8.Pv a0),(9,.I (a0.length:Int)),(10,.I q.1)] [(910005,⟨List.map iF q.2,(List.map iF q.2).length,true,1,true⟩)]) (Wk.trans (F5 (t:=5) (l:=920005) (z:=1) J J) (WP (λl=>if l=910005 then 920005 else l))) λq15 x14 h hx10=>?_;obtain⟨s12,s13⟩:=q15;refine S4 1 J<|k9 ?_;refine cN h (λhc h=>?_) λhc h=>?_
  .refine c7 ?_;refine k9<|k7<|sR<|iL h J J N2 U4 λv16 _ h=>S2 3 J<|S5 3 J<|cA h sm J J λv17 _ h=>y0 J (I4 (f:=iF) (l:=[v17]) J l6 o5 C0 J J nl J J)<|w8 h λv18 hv13 h=>J4 J (H8 (f:=iF) hv13 J J J J J J (.inl ⟨_,J,J⟩) l6 o5 O9 C0 J (λ_=>J)) J J J<|S2 1 J<|S6 2 J ?_;exact eL h (Wk.trans (m9 _ [19]) (WP (λl=>if l=910005 then 19 else l)))
  .refine o0 ?_;refine e6<|e6<|l7 ?_;have h:=xL hx10 h;exact eJ h (Wk.trans (m9 _ [910005]) W)
theorem vH{a0}:PO Tryz.prog 61 [b8.Pv a0] (lJ a0) λr=>.bool r:=by
 refine pO Tryz.func61 λr h _ _=>?_;unfold lJ at h;refine S4 2 J<|S4 3 J<|c5 ?_;cases h;exact f1
theorem M6{a0}:PO Tryz.prog 60 [.L b8.Pv a0,.fn (.func 61) []] (B1 a0) λr=>.L b8.Pv r:=by
 refine pO Tryz.func60 λr h _ _=>?_;refine S4 1 J<|S4 1 J ?_;refine jq h (λj15=>St.of [(5,.sl 910005)] [(910005,⟨List.map b8.Pv j15,(List.map b8.Pv j15).length,true,7,true⟩)]) (λj15 h=>?_) λκ14 h=>?_
 .refine S4 2 J ?_;refine c5 ?_;cases h;exact f1
 .refine S3 1 J ?_;refine nL J A9<|S2 1 J<|k7<|lq h (λq=>St.of [(1,.fn (.func 61) []),(5,.sl 910005),(8,.L b8.Pv a0),(9,.I (a0.length:Int)),(10,.I q.1)] [(910005,⟨List.map b8.Pv q.2,(List.map b8.Pv q.2).length,true,7,true⟩)]) (Wk.trans (F5 (t:=5) (l:=920005) (z:=7) J J) (WP (λl=>if l=910005 then 920005 else l))) λq20 x19 h hx14=>?_;obtain⟨s17,s18⟩:=q20;refine S4 1 J<|k9 ?_;refine cN h (λhc h=>?_) λhc h=>?_
  .refine c7 ?_;refine jq h (λj25=>St.of [(1,.fn (.func 61) []),(5,.sl 20),(8,.L b8.Pv a0),(9,.I (a0.length:Int)),(10,.I s17)] [(20,⟨List.map b8.Pv j25,(List.map b8.Pv j25).length,true,7,true⟩)]) (λj25 h=>?_) λκ24 h=>?_
   .refine S6 2 J ?_;exact eL h (Wk.trans (m9 _ [20]) (WP (λl=>if l=910005 then 20 else l)))
   .refine k7 ?_;refine sR<|iL h J J A9 u9 λv26 _ h=>S2 3 J<|S3 2 J<|cA h vH J J λv27 _ h=>yN ?_;refine cN h (λhc h=>?_) λhc h=>?_
    .refine S5 2 J ?_;refine y0 J (I4 (f:=b8.Pv) (l:=[v26]) J A9 u9 ay J J nl J J)<|w8 h λv28 hv21 h=>J4 J (H8 (f:=b8.Pv) hv21 J J J J J J (.inl ⟨_,J,J⟩) A9 u9 mZ ay J (λ_=>J)) J J J<|S2 1 J ?_;exact eJ h (Wk.trans (m9 _ [20]) W)
    .refine c7 ?_;exact eJ h (Wk.trans (m9 _ [910005]) (WP (λl=>if l=20 then 910005 else l)))
  .refine o0 ?_;refine e6<|e6<|l7 ?_;have h:=xL hx14 h;exact eJ h (Wk.trans (m9 _ [910005]) W)
theorem jY{a0 a1}:PO Tryz.prog 21 [a8.Pv a0,.I a1] (ax a0 a1) λr=>.I r:=by
 refine pO Tryz.func21 λr h _ _=>?_;refine S4 3 J<|S4 2 J ?_;refine jq h (λj33=>St.of [(5,.ptr 2001 0 0)] [(2001,vR (.I j33) 1)]) (λj33 h=>?_) λκ32 h=>?_
 .refine S4 2 J ?_;refine c5 ?_;cases h;exact f1
 .refine S3 1 J ?_;refine cF h Ae J J λv34 _ h=>yN<|k7<|bU (sM (λl=>if l=2003 then 5 else if l=2004 then 3 else l) [(3,.ptr 2004 0 0),(5,.ptr 2003 0 0),(8,.fn (.func 111) [.rptr (a8.Pc v34)])] [(2003,vR (.I 0) 1),(2004,vR (.I a1) 1)]) ?_;refine bT (fn:=Tryz.f111) (N1:=43) J Tryz.func111 J J nl J Qp J J (λl33 e34 o35 hR36=>?_);refine dr [] s6 (by kernel_rfl) (by kernel_rfl)<|S7 4 J<|w8 h λv35 hv37 h=>dX J (u7 J V7 J hv37) J<|S7 1 J<|w8 h λv36 hv38 h=>dX J (u7 J cI J hv38) J<|w8 h λv37 hv39 h=>dX J (u7 J uQ J hv39) J<|UQ J (I4 (f:=(Ls iF)) (l:=[v34.Roots,v35,v37]) J bk bL yh J J nl J J) J<|S8 1 J ?_;refine jq h (λj47=>St.of [(1000003,.ptr 2004 0 0),(1000005,.ptr 2003 0 0),(1000008,.fn (.func 111) [.rptr (a8.Pc v34)]),(0,.fn (.yield l33) []),(3,.sl 910003)] [(910003,⟨List.map (Ls iF) j47,(List.map (Ls iF) j47).length,true,1,true⟩),(2003,vR (.I 0) 1),(2004,vR (.I a1) 1)]) (λj47 h=>?_) λκ46 h=>?_
  .refine S3 1 J ?_;obtain⟨v48,hv47,h⟩:=rj h;refine Iw J (u7 J dw J hv47) J<|nL J l6<|S2 1 J<|k7<|lq h (λq=>St.of [(1000003,.ptr 2004 0 0),(1000005,.ptr 2003 0 0),(1000008,.fn (.func 111) [.rptr (a8.Pc v34)]),(0,.fn (.yield l33) []),(32,.L iF v48),(33,.I (v48.length:Int)),(34,.I q.1)] [(2003,vR (.I q.2) 1),(2004,vR (.I a1) 1)]) W λq53 x52 h hx50=>?_;obtain⟨s50,s51⟩:=q53;refine S4 1 J<|k9 ?_;refine cN h (λhc h=>?_) λhc h=>?_
   .refine c7 ?_;refine k9<|k7<|sR<|iL h J J l6 o5 λv54 _ h=>S2 2 J<|S3 2 J<|O8 (WE [(1000003,.ptr 2004 0 0),(1000005,.ptr 2003 0 0),(1000008,.fn (.func 111) [.rptr (a8.Pc v34)]),(0,.fn (.yield l33) []),(32,.L iF v48),(33,.I (v48.length:Int)),(34,.I s50),(38,.fn (.yield l33) []),(39,.I v54)] [(2003,vR (.I s51) 1),(2004,vR (.I a1) 1)]) ?_;refine jy hR36 J J J J J J (λe52 o53 o54=>?_);refine S6 1 J ?_;refine⟨J,?_⟩;refine YQ h (λj56=>St.of [(2000003,.ptr 2004 0 0),(2000005,.ptr 2003 0 0),(2000008,.fn (.func 111) [.rptr (a8.Pc v34)]),(1000000,.fn (.yield l33) []),(1000032,.L iF v48),(1000033,.I (v48.length:Int)),(1000034,.I s50),(1000038,.fn (.yield l33) []),(1000039,.I v54)] [(2003,vR (.I j56) 1),(2004,vR (.I a1) 1)]) (λj56 h=>?_) λκ55 h=>?_
    .refine⟨J,?_⟩;refine O8 (WE [(1000003,.ptr 2004 0 0),(1000005,.ptr 2003 0 0),(1000008,.fn (.func 111) [.rptr (a8.Pc v34)]),(0,.fn (.yield l33) []),(32,.L iF v48),(33,.I (v48.length:Int)),(34,.I s50),(40,.bool true)] [(2003,vR (.I j56) 1),(2004,vR (.I a1) 1)])<|S2 1 J ?_;refine G9 false J (λq=>nomatch q) (λ_=>?_);refine c7<|S6 2 J ?_;exact eL h W
    .refine k7 ?_;refine S3 3 J<|m7 J (λhg=>mI J)<|m7 J (λhg=>oS J J J G3 J)<|m7 J (λhg=>A7 (ct hg) (ct hg) J)<|y0 J (C4 J J J (λq=>jg q))<|yN ?_;refine cN h (λhc h=>?_) λhc h=>?_
     .refine S6 3 J ?_;exact eJ h W
     .refine c7 ?_;exact eJ h W
   .refine o0 ?_;refine e6<|e6<|l7 ?_;refine .inl ⟨J,?_⟩;have h:=xL hx50 h;exact eJ h (WP (λl=>if l=2001 then 2003 else l))
  .refine S3 2 J ?_;refine cF h M6 J J λv57 _ h=>nL J A9<|S2 1 J<|k7<|lq h (λq=>St.of [(1000003,.ptr 2004 0 0),(1000005,.ptr 2003 0 0),(1000008,.fn (.func 111) [.rptr (a8.Pc v34)]),(0,.fn (.yield l33) []),(3,.sl 910003),(19,.L b8.Pv v57),(20,.I (v57.length:Int)),(21,.I q.1)] [(2003,vR (.I 0) 1),(2004,vR (.I a1) 1),(910003,⟨List.map (Ls iF) q.2,(List.map (Ls iF) q.2).length,true,1,true⟩)]) (Wk.trans (PR (f:=(Ls iF)) (t:=3) (l:=920003) (z:=1) J J (λ_=>J)) (WP (λl=>if l=910003 then 920003 else l))) λq62 x61 h hx59=>?_;obtain⟨s59,s60⟩:=q62;refine S4 1 J<|k9 ?_;refine cN h (λhc h=>?_) λhc h=>?_
   .refine c7 ?_;refine k9<|k7<|sR<|iL h J J A9 u9 λv63 _ h=>S2 3 J<|S5 3 J<|y0 J (I4 (f:=(Ls iF)) (l:=[v63.Fields]) J bk bL yh J J nl J J)<|w8 h λv64 hv61 h=>J4 J (H8 (f:=(Ls iF)) hv61 J J J J J J (.inl ⟨_,J,J⟩) bk bL Ur yh J (λ_=>J)) J J J<|S2 1 J<|S6 2 J ?_;exact eL h (Wk.trans (m9 _ [29]) (WP (λl=>if l=910003 then 29 else l)))
   .refine o0 ?_;refine e6<|e6<|l7 ?_;have h:=xL hx59 h;exact eJ h (Wk.trans (m9 _ [910003]) W)
theorem B2{a0}:PW Tryz.prog 181 [.L b8.Pv a0] (p8 a0) λr=>⟨List.map b8.Pv r,0,true,7,true⟩:=by
 refine TZ Tryz.func181 λr h _ _=>?_;unfold p8 at h;refine S4 1 J<|k9<|S3 1 J<|vb J A9 λb hb=>yN ?_;refine G9 b J (λhc=>?_) (λhc=>?_)
 .obtain rfl:a0 = []:=by simpa using hb hc
  refine S4 1 J<|bU (F5 (t:=2) (l:=920000) (z:=7) J J)<|c5 ?_;cases h;exact⟨J,_,_,J,J,J,J⟩
 .refine c7 ?_;refine sR<|y0 J (fB J A9 u9)<|S1 1 J<|y1 J (wA (f:=b8.Pv) h J J (.inl ⟨_,J,J⟩) A9 u9 mZ ay J (λ_=>J)) J<|S2 1 J<|c5 ?_;exact⟨J,_,_,J,J,J,J⟩
theorem xf{a0}:PO Tryz.prog 263 [b8.Pv a0] (nC a0) λr=>b8.Pv r:=by
 refine pO Tryz.func263 λr h _ _=>?_;unfold nC at h;refine S4 2 J<|S4 2 J<|S4 2 J<|c5 ?_;cases h;exact⟨J,[_],⟨oL J J J gD u9 nl J,tr⟩,J,io⟩
theorem gj{a0 a1}:PO Tryz.prog 154 [a8.Pv a0,.I a1,.fn (.func 263) []] (R4 a0 a1) λr=>a8.Pv r:=by
 refine pO Tryz.func154 λr h _ _=>?_;refine S4 2 J<|S3 2 J<|cA h R8 J J λv1 _ h=>S2 1 J<|S3 2 J<|w8 h λv2 hv2 h=>Kz J (ir J B2 J hv2) J J<|S2 2 J<|dr [] s6 (by kernel_rfl) (by kernel_rfl)<|S7 7 J<|w8 h λv3 hv3 h=>d0 J (T9 (f:=b8.Pv) hv3 J J J J A9 u9 J) J<|d0 J (JM (f:=b8.Pv) (cs:=b8.Pc v3) hv3 J J J gD u9 nl J) J<|w8 h λv4 hv4 h=>dX J (u7 J xf J hv4) J<|d0 J (T9 (f:=b8.Pv) hv3 J J J J A9 u9 J) J<|Jg (f:=b8.Pv) (v:=v4) hv3 J J (.inr J) u9<|J1<|S4 2 J<|c5 ?_;cases h;exact⟨J,[_],⟨oL J J J A2 w7 nl J,tr⟩,J,io⟩
theorem gN{a0 a1}:PO Tryz.prog 153 [a8.Pv a0,.I a1] (dR a0 a1) λr=>a8.Pv r:=by
 refine pO Tryz.func153 λr h _ _=>?_;refine S4 2 J<|k9<|S3 2 J<|cA h jY J J λv1 _ h=>S2 1 J ?_;refine cN h (λhc h=>?_) λhc h=>?_
 .refine S4 2 J ?_;refine c5 ?_;cases h;exact⟨J,[_],⟨oL J J J A2 w7 nl J,tr⟩,J,io⟩
 .refine c7 ?_;refine S3 2 J<|cF h gj J J λv2 _ h=>S2 1 J<|c5 ?_;cases h;exact⟨J,[_],⟨oL J J J A2 w7 nl J,tr⟩,J,io⟩
theorem su{a0}:PO Tryz.prog 155 [b8.Pv a0] (iS a0) λr=>b8.Pv r:=by
 refine pO Tryz.func155 λr h _ _=>?_;unfold iS at h;refine S4 2 J<|S4 2 J<|S4 2 J<|c5 ?_;cases h;exact⟨J,[_],⟨oL J J J gD u9 nl J,tr⟩,J,io⟩
theorem eK{a0 a1}:PO Tryz.prog 154 [a8.Pv a0,.I a1,.fn (.func 155) []] (N7 a0 a1) λr=>a8.Pv r:=by
 refine pO Tryz.func154 λr h _ _=>?_;refine S4 2 J<|S3 2 J<|cA h R8 J J λv1 _ h=>S2 1 J<|S3 2 J<|w8 h λv2 hv2 h=>Kz J (ir J B2 J hv2) J J<|S2 2 J<|dr [] s6 (by kernel_rfl) (by kernel_rfl)<|S7 7 J<|w8 h λv3 hv3 h=>d0 J (T9 (f:=b8.Pv) hv3 J J J J A9 u9 J) J<|d0 J (JM (f:=b8.Pv) (cs:=b8.Pc v3) hv3 J J J gD u9 nl J) J<|w8 h λv4 hv4 h=>dX J (u7 J su J hv4) J<|d0 J (T9 (f:=b8.Pv) hv3 J J J J A9 u9 J) J<|Jg (f:=b8.Pv) (v:=v4) hv3 J J (.inr J) u9<|J1<|S4 2 J<|c5 ?_;cases h;exact⟨J,[_],⟨oL J J J A2 w7 nl J,tr⟩,J,io⟩
theorem db{a0}:PW Tryz.prog 156 [.L g6.Pv a0] (G7 a0) λr=>⟨List.map g6.Pv r,0,true,3,true⟩:=by
 refine TZ Tryz.func156 λr h _ _=>?_;unfold G7 at h;refine S4 1 J<|k9<|S3 1 J<|vb J I9 λb hb=>yN ?_;refine G9 b J (λhc=>?_) (λhc=>?_)
 .obtain rfl:a0 = []:=by simpa using hb hc
  refine S4 1 J<|bU (F5 (t:=2) (l:=920000) (z:=3) J J)<|c5 ?_;cases h;exact⟨J,_,_,J,J,J,J⟩
 .refine c7 ?_;refine sR<|y0 J (fB J I9 D2)<|S1 1 J<|y1 J (wA (f:=g6.Pv) h J J (.inl ⟨_,J,J⟩) I9 D2 na az J (λ_=>J)) J<|S2 1 J<|c5 ?_;exact⟨J,_,_,J,J,J,J⟩
theorem mn{a0 a1}:PO Tryz.prog 85 [a8.Pv a0,.I a1] (bb a0 a1) λr=>a8.Pv r:=by
 refine pO Tryz.func85 λr h _ _=>?_;refine S4 2 J<|S3 2 J<|cF h gN J J λv1 _ h=>S2 1 J<|dr [] s6 (by kernel_rfl) (by kernel_rfl)<|S7 4 J<|w8 h λv2 hv2 h=>d2 J (P8 J R8 J hv2) J<|w8 h λv3 hv3 h=>d0 J (J9 (f:=b8.Pv) (cs:=b8.Pc v3) hv3 J J A9 u9 J J) J<|S8 3 J<|S3 2 J<|cF h eK J J λv4 _ h=>S2 1 J<|S3 2 J<|w8 h λv5 hv5 h=>Kz J (ir J db J hv5) J J<|S1 2 J<|y0 J (o7 (cs:=[.I 1,.I a1,.I v3.Prog]) J sU az J J J)<|y0 J (I4 (f:=g6.Pv) (l:=[(⟨1,a1,v3.Prog⟩:g6)]) J I9 D2 az J J nl J J)<|w8 h λv6 hv6 h=>J4 J (H8 (f:=g6.Pv) hv6 J J J J J J (.inl ⟨_,J,J⟩) I9 D2 na az J (λ_=>J)) J J J<|S2 2 J<|S4 2 J<|c5 ?_;cases h;exact⟨J,[_],⟨oL J J J A2 w7 nl J,tr⟩,J,io⟩
theorem eG{a0 a1}:PO Tryz.prog 179 [.L iF a0,.I a1] (H4 a0 a1) λr=>.I r:=by
 refine pO Tryz.func179 λr h _ _=>?_;refine S4 1 J ?_;refine jq h (λ_=>St.of [] []) (λq6 h=>?_) λκ5 h=>?_
 .refine S4 1 J ?_;refine c5 ?_;cases h;exact f1
 .refine S3 1 J ?_;refine nL J l6<|S2 1 J<|k7<|lq h (λs8=>St.of [(0,.L iF a0),(1,.I a1),(7,.I (a0.length:Int)),(8,.I s8)] []) W λs8 x9 h hx8=>S4 1 J<|k9 ?_;refine cN h (λhc h=>?_) λhc h=>?_
  .refine c7 ?_;refine k9<|k7<|S4 2 J<|S3 3 J<|iL h J J l6 o5 λv10 _ h=>S2 2 J ?_;refine cN h (λhc h=>?_) λhc h=>?_
   .refine S4 2 J ?_;refine c5 ?_;have h:=xL hx8 h;cases h;exact f1
   .refine c7 ?_;refine S6 2 J ?_;exact eL h W
  .refine o0 ?_;refine e6<|e6<|l7 ?_;have h:=xL hx8 h;exact eJ h W
theorem L9{a0 a1}:PO Tryz.prog 165 [.L iF a0,.I a1] (E5 a0 a1) λr=>.bool r:=by
 refine pO Tryz.func165 λr h _ _=>?_;refine S4 1 J<|S3 2 J<|cA h eG J J λv1 _ h=>S2 2 J<|c5 ?_;cases h;exact f1
theorem xp{a0 a1}:PO Tryz.prog 265 [k8.Pv a0,.rptr [.L iF a1]] (cP a0 a1) λr=>.bool r:=by
 refine pO Tryz.func265 λr h _ _=>?_;unfold cP at h;refine S4 2 J<|S3 3 J<|m7 J (λhg=>oF J vh J)<|m7 J (λhg=>oS (ct hg) J J G3 J)<|m7 J (λhg=>A7 (ct hg) J J)<|y0 J (C4 J J J (λq=>jg q))<|S1 1 J<|m7 J (λhg=>Q8 J iC J)<|m7 J (λhg=>oF J vh J)<|m7 J (λhg=>oS (ct hg) J J G3 J)<|w8 h λv1 hv1 h=>m7 J (λhg=>P8 J L9 (Y1 (ct hg) (Y1 (ct hg) J)) (Y3 hv1 hg))<|y0 J (C4 J J J (λq=>jg q))<|S2 1 J<|c5 ?_;cases h;exact f1
theorem iY{a0 a1}:PO Tryz.prog 264 [.L k8.Pv a0,.fn (.func 265) [.rptr [.L iF a1]]] (M8 a0 a1) λr=>.L iF r:=by
 refine pO Tryz.func264 λr h _ _=>?_;refine S4 1 J<|S4 1 J ?_;refine jq h (λj15=>St.of [(5,.sl 910005)] [(910005,⟨List.map iF j15,(List.map iF j15).length,true,1,true⟩)]) (λj15 h=>?_) λκ14 h=>?_
 .refine S4 2 J ?_;refine c5 ?_;cases h;exact f1
 .refine S3 1 J ?_;refine nL J T4<|S2 1 J<|k7<|lq h (λq=>St.of [(1,.fn (.func 265) [.rptr [.L iF a1]]),(5,.sl 910005),(8,.L k8.Pv a0),(9,.I (a0.length:Int)),(10,.I q.1)] [(910005,⟨List.map iF q.2,(List.map iF q.2).length,true,1,true⟩)]) (Wk.trans (F5 (t:=5) (l:=920005) (z:=1) J J) (WP (λl=>if l=910005 then 920005 else l))) λq20 x19 h hx14=>?_;obtain⟨s17,s18⟩:=q20;refine S4 1 J<|k9 ?_;refine cN h (λhc h=>?_) λhc h=>?_
  .refine c7 ?_;refine jq h (λj25=>St.of [(1,.fn (.func 265) [.rptr [.L iF a1]]),(5,.sl 21),(8,.L k8.Pv a0),(9,.I (a0.length:Int)),(10,.I s17)] [(21,⟨List.map iF j25,(List.map iF j25).length,true,1,true⟩)]) (λj25 h=>?_) λκ24 h=>?_
   .refine S6 2 J ?_;exact eL h (Wk.trans (m9 _ [21]) (WP (λl=>if l=910005 then 21 else l)))
   .refine k7 ?_;refine S3 1 J<|iL h J J T4 Y7 λv26 _ h=>S2 4 J<|S3 2 J<|cA h xp J J λv27 _ h=>yN ?_;refine cN h (λhc h=>?_) λhc h=>?_
    .refine S5 2 J ?_;refine y0 J (I4 (f:=iF) (l:=[s17]) J l6 o5 C0 J J nl J J)<|w8 h λv28 hv21 h=>J4 J (H8 (f:=iF) hv21 J J J J J J (.inl ⟨_,J,J⟩) l6 o5 O9 C0 J (λ_=>J)) J J J<|S2 1 J ?_;exact eJ h (Wk.trans (m9 _ [21]) W)
    .refine c7 ?_;exact eJ h (Wk.trans (m9 _ [910005]) (WP (λl=>if l=21 then 910005 else l)))
  .refine o0 ?_;refine e6<|e6<|l7 ?_;have h:=xL hx14 h;exact eJ h (Wk.trans (m9 _ [910005]) W)
theorem oI{a0}:PW Tryz.prog 266 [.L k8.Pv a0] (ck a0) λr=>⟨List.map k8.Pv r,0,true,3,true⟩:=by
 refine TZ Tryz.func266 λr h _ _=>?_;unfold ck at h;refine S4 1 J<|S3 1 J<|nL J T4<|w8 h λv1 hv1 h=>y1 J (Br (f:=k8.Pv) hv1 J J J T4 Y7 CJ IA J J J) J<|S2 1 J<|S3 2 J<|w8 h λv2 hv2 h=>YD (f:=k8.Pv) hv2 J J J (.inl ⟨_,J,J⟩) T4 Y7 (λ_=>J) (by decide)<|yN<|S4 2 J<|c5 ?_;cases h;exact⟨J,_,_,J,J,J,J⟩
theorem rK{a0 a1}:PO Tryz.prog 159 [.L k8.Pv a0,.L iF a1] (gB a0 a1) λr=>.tup [.L k8.Pv r.1,.L iF r.2]:=by
 refine pO Tryz.func159 λr h _ _=>?_;unfold gB at h;refine S4 3 J<|S3 2 J<|w8 h λv1 hv1 h=>Iw J (u7 J iY J hv1) J<|S2 1 J<|S3 1 J<|w8 h λv2 hv2 h=>Kz J (ir J oI J hv2) J J<|S2 1 J<|S4 1 J ?_;refine jq h (λq=>St.of [(7,.sl 15),(8,.sl 910008)] [(910008,⟨List.map iF q.1,(List.map iF q.1).length,true,1,true⟩),(15,⟨List.map k8.Pv q.2,0,true,3,true⟩)]) (λq24 h=>?_) λκ21 h=>?_
 .obtain⟨j22,j23⟩:=q24;refine S4 4 J<|c5 ?_;cases h;exact f2
 .refine S3 1 J ?_;refine nL J l6<|S2 1 J<|k7<|lq h (λq=>St.of [(7,.sl 15),(8,.sl 910008),(16,.L iF v1),(17,.I (v1.length:Int)),(18,.I q.1)] [(15,⟨List.map k8.Pv q.2.1,0,true,3,true⟩),(910008,⟨List.map iF q.2.2,(List.map iF q.2.2).length,true,1,true⟩)]) (Wk.trans (F5 (t:=8) (l:=920008) (z:=1) J J) (WP (λl=>if l=910008 then 920008 else l))) λq30 x29 h hx18=>?_;obtain⟨s26,s27,s28⟩:=q30;refine S4 1 J<|k9 ?_;refine cN h (λhc h=>?_) λhc h=>?_
  .refine c7 ?_;refine jq h (λq=>St.of [(7,.sl 15),(8,.sl 35),(16,.L iF v1),(17,.I (v1.length:Int)),(18,.I s26)] [(35,⟨List.map iF q.1,(List.map iF q.1).length,true,1,true⟩),(15,⟨List.map k8.Pv q.2,0,true,3,true⟩)]) (λq38 h=>?_) λκ35 h=>?_
   .obtain⟨j36,j37⟩:=q38;refine S6 2 J ?_;exact eL h (Wk.trans (m9 _ [35]) (WP (λl=>if l=910008 then 35 else l)))
   .refine k7 ?_;refine sR<|iL h J J l6 o5 λv39 _ h=>S2 2 J<|S3 2 J<|w8 h λv40 hv25 h=>y0 J (T9 (f:=k8.Pv) hv25 J J J J T4 Y7 J)<|S1 1 J<|ly (f:=k8.Pv) (v:=(⟨v40.Target,false,v40.Call⟩:k8)) hv25 J J (.inl J) Xm<|yN<|S3 2 J<|w8 h λv41 hv26 h=>y0 J (T9 (f:=k8.Pv) hv26 J J J J T4 Y7 J)<|S1 1 J<|y0 J (uo (f:=k8.Pv) hv26 J J J G3 J)<|S2 1 J ?_;refine cN h (λhc h=>?_) λhc h=>?_
    .refine S5 2 J ?_;refine y0 J (I4 (f:=iF) (l:=[v39]) J l6 o5 C0 J J nl J J)<|w8 h λv42 hv27 h=>J4 J (H8 (f:=iF) hv27 J J J J J J (.inl ⟨_,J,J⟩) l6 o5 O9 C0 J (λ_=>J)) J J J<|S2 1 J ?_;exact eJ h (Wk.trans (m9 _ [35]) W)
    .refine c7 ?_;exact eJ h (Wk.trans (m9 _ [910008]) (WP (λl=>if l=35 then 910008 else l)))
  .refine o0 ?_;refine e6<|e6<|l7 ?_;have h:=xL hx18 h;exact eJ h (Wk.trans (m9 _ [910008]) W)
theorem ud{a0 a1}:PO Tryz.prog 161 [.I a0,.rptr [.L k8.Pv a1]] (fm a0 a1) λr=>g6.Pv r:=by
 refine pO Tryz.func161 λr h _ _=>?_;refine S4 1 J<|S3 3 J<|iL h J J T4 Y7 λv1 _ h=>S1 2 J<|y0 J (o7 (cs:=[.I 2,.I a0,.I v1.Call]) J sU az J J J)<|S2 1 J<|c5 ?_;cases h;exact⟨J,[_],⟨oL J J J cm D2 nl J,tr⟩,J,io⟩
theorem Y4{a0 a1}:PO Tryz.prog 160 [.L iF a0,.fn (.func 161) [.rptr [.L k8.Pv a1]]] (C2 a0 a1) λr=>.L g6.Pv r:=by
 refine pO Tryz.func160 λr h _ _=>?_;refine S4 1 J<|S4 1 J ?_;refine jq h (λj10=>St.of [(5,.sl 910005)] [(910005,⟨List.map g6.Pv j10,(List.map g6.Pv j10).length,true,3,true⟩)]) (λj10 h=>?_) λκ9 h=>?_
 .refine S4 2 J ?_;refine c5 ?_;cases h;exact f1
 .refine S3 1 J ?_;refine nL J l6<|S2 1 J<|k7<|lq h (λq=>St.of [(1,.fn (.func 161) [.rptr [.L k8.Pv a1]]),(5,.sl 910005),(8,.L iF a0),(9,.I (a0.length:Int)),(10,.I q.1)] [(910005,⟨List.map g6.Pv q.2,(List.map g6.Pv q.2).length,true,3,true⟩)]) (Wk.trans (F5 (t:=5) (l:=920005) (z:=3) J J) (WP (λl=>if l=910005 then 920005 else l))) λq15 x14 h hx10=>?_;obtain⟨s12,s13⟩:=q15;refine S4 1 J<|k9 ?_;refine cN h (λhc h=>?_) λhc h=>?_
  .refine c7 ?_;refine k9<|k7<|sR<|iL h J J l6 o5 λv16 _ h=>S2 2 J<|S5 3 J<|cA h ud J J λv17 _ h=>y0 J (I4 (f:=g6.Pv) (l:=[v17]) J I9 D2 az J J nl J J)<|w8 h λv18 hv13 h=>J4 J (H8 (f:=g6.Pv) hv13 J J J J J J (.inl ⟨_,J,J⟩) I9 D2 na az J (λ_=>J)) J J J<|S2 1 J<|S6 2 J ?_;exact eL h (Wk.trans (m9 _ [19]) (WP (λl=>if l=910005 then 19 else l)))
  .refine o0 ?_;refine e6<|e6<|l7 ?_;have h:=xL hx10 h;exact eJ h (Wk.trans (m9 _ [910005]) W)
theorem dc{a0}:PO Tryz.prog 162 [.L (Ls g6.Pv) a0] (F6 a0) λr=>.L g6.Pv r:=by
 refine pO Tryz.func162 λr h _ _=>?_;refine S4 1 J<|S4 1 J ?_;refine jq h (λj11=>St.of [(0,.L (Ls g6.Pv) a0),(3,.I j11)] []) (λj11 h=>?_) λκ10 h=>?_
 .refine S3 1 J ?_;refine O8 (WE [(0,.L (Ls g6.Pv) a0),(23,.I j11)] []) ?_;refine vc (fn:=Tryz.f267) (N1:=27) J J Tryz.func267 J Qw J J nl (λe8 o9=>?_);refine S4 1 J ?_;refine jq h (λ_=>St.of [(1000000,.L (Ls g6.Pv) a0),(1000023,.I j11),(0,.nl),(1,.I j11)] []) (λq13 h=>?_) λκ12 h=>?_
  .refine k9 ?_;refine S3 2 J<|Ky J J I9<|S1 1 J<|nL (f:=g6.Pv) (xs:=[]) J I9<|S2 3 J<|S4 2 J ?_;refine cN h (λhc h=>?_) λhc h=>?_
   .refine S5 2 J ?_;refine Ky J J I9<|y0 J (xF (t':=true) (xs:=[]) (ys:=[]) J I9 D2 (λ_ q=>nomatch q) J ⟨_,J⟩ J (λq=>nomatch q) (zF _) (zW _) (zF _) J J)<|S1 1 J<|w8 h λv14 hv11 h=>Uj (f:=g6.Pv) J hv11 J nl J J I9 I3 D2 nl az na J J J<|S1 1 J<|nL (f:=g6.Pv) (xs:=[]) J I9<|PS [(1000000,.L (Ls g6.Pv) a0),(1000023,.I j11),(0,.nl),(1,.I (u4 (j11-(u4 (0-0))))),(8,.I j11),(9,.nl),(10,.I 0),(11,.nl),(12,.I 0),(13,.I (u4 (0-0))),(14,.I (u4 (j11-(u4 (0-0))))),(15,.I (u4 (j11-(u4 (0-0))))),(16,.bool (decide ((u4 (j11-(u4 (0-0)))) > 0))),(17,.nl),(18,.nl),(19,.I 0),(20,.nl),(21,.I (u4 (j11-(u4 (0-0))))),(23,.nl),(24,.I 0)] [] J ⟨J,J,J,J,J,J,J,J,J,J,J,J,J,J,J,J,J,J,J,J,J,J,J,J,J,J,J,J,J,J,J,J,J,J,J,J,J,J,J,J,J,J,J,J,J,J,J,J,J,J,J,J,J,J,J,J,J,J,J,J,tr⟩ tr J J nl J J J I9 D2<|S2 1 J<|S4 2 J<|c5 ?_;refine⟨J,[.sl 25],⟨J,tr⟩,?_⟩;refine O8 (sM (λl=>if l=2001 then 25 else l) [(0,.L (Ls g6.Pv) a0),(24,.sl 2001)] [(2001,⟨List.map g6.Pv [],0,true,3,true⟩)])<|S2 1 J ?_;refine jq h (λj23=>St.of [(6,.sl 2001)] [(2001,⟨List.map g6.Pv j23,(List.map g6.Pv j23).length,true,3,true⟩)]) (λj23 h=>?_) λκ22 h=>?_
    .refine S4 2 J ?_;refine c5 ?_;cases h;exact f1
    .refine S3 1 J ?_;refine nL J nc<|S2 1 J<|k7<|lq h (λq=>St.of [(6,.sl 2001),(25,.L (Ls g6.Pv) a0),(26,.I (a0.length:Int)),(27,.I q.1)] [(2001,⟨List.map g6.Pv q.2,(List.map g6.Pv q.2).length,true,3,true⟩)]) (Wk.trans (m9 _ [2001]) W) λq28 x27 h hx20=>?_;obtain⟨s25,s26⟩:=q28;refine S4 1 J<|k9 ?_;refine cN h (λhc h=>?_) λhc h=>?_
     .refine c7 ?_;refine k9<|k7<|sR<|iL h J J nc vi λv29 _ h=>S2 2 J<|S5 2 J<|w8 h λv30 hv22 h=>J4 J (H8 (f:=g6.Pv) hv22 J J J J J J (.inl ⟨_,J,J⟩) I9 D2 na az J (λ_=>J)) J J J<|S2 1 J<|S6 2 J ?_;exact eL h (Wk.trans (m9 _ [33]) (WP (λl=>if l=2001 then 33 else l)))
     .refine o0 ?_;refine e6<|e6<|l7 ?_;have h:=xL hx20 h;exact eJ h (Wk.trans (m9 _ [2001]) W)
   .refine c7 ?_;refine S4 2 J<|c5 ?_;refine⟨J,[.nl],⟨J,tr⟩,?_⟩;refine O8 (WE [(0,.L (Ls g6.Pv) a0),(24,.nl)] [])<|S2 1 J ?_;refine jq h (λj39=>St.of [(6,.sl 910006)] [(910006,⟨List.map g6.Pv j39,(List.map g6.Pv j39).length,true,3,true⟩)]) (λj39 h=>?_) λκ38 h=>?_
    .refine S4 2 J ?_;refine c5 ?_;cases h;exact f1
    .refine S3 1 J ?_;refine nL J nc<|S2 1 J<|k7<|lq h (λq=>St.of [(6,.sl 910006),(25,.L (Ls g6.Pv) a0),(26,.I (a0.length:Int)),(27,.I q.1)] [(910006,⟨List.map g6.Pv q.2,(List.map g6.Pv q.2).length,true,3,true⟩)]) (Wk.trans (F5 (t:=6) (l:=920006) (z:=3) J J) (WP (λl=>if l=910006 then 920006 else l))) λq44 x43 h hx31=>?_;obtain⟨s41,s42⟩:=q44;refine S4 1 J<|k9 ?_;refine cN h (λhc h=>?_) λhc h=>?_
     .refine c7 ?_;refine k9<|k7<|sR<|iL h J J nc vi λv45 _ h=>S2 2 J<|S5 2 J<|w8 h λv46 hv33 h=>J4 J (H8 (f:=g6.Pv) hv33 J J J J J J (.inl ⟨_,J,J⟩) I9 D2 na az J (λ_=>J)) J J J<|S2 1 J<|S6 2 J ?_;exact eL h (Wk.trans (m9 _ [33]) (WP (λl=>if l=910006 then 33 else l)))
     .refine o0 ?_;refine e6<|e6<|l7 ?_;have h:=xL hx31 h;exact eJ h (Wk.trans (m9 _ [910006]) W)
  .refine S4 2 J ?_;refine cN h (λhc h=>?_) λhc h=>?_;·cases h
   .refine c7 ?_;exact eJ h W
 .refine S3 1 J ?_;refine nL J nc<|S2 1 J<|k7<|lq h (λq=>St.of [(0,.L (Ls g6.Pv) a0),(3,.I q.1),(9,.L (Ls g6.Pv) a0),(10,.I (a0.length:Int)),(11,.I q.2)] []) W λq51 x50 h hx36=>?_;obtain⟨s48,s49⟩:=q51;refine S4 1 J<|k9 ?_;refine cN h (λhc h=>?_) λhc h=>?_
  .refine c7 ?_;refine jq h (λj54=>St.of [(0,.L (Ls g6.Pv) a0),(3,.I j54),(9,.L (Ls g6.Pv) a0),(10,.I (a0.length:Int)),(11,.I s49)] []) (λj54 h=>?_) λκ53 h=>?_
   .refine S6 2 J ?_;exact eL h W
   .refine k7 ?_;refine sR<|iL h J J nc vi λv55 _ h=>S2 2 J<|S3 2 J<|nL J I9<|S2 2 J<|S4 2 J ?_;refine cN h (λhc h=>?_) λhc h=>?_;·cases h
    .refine c7 ?_;exact eJ h W
  .refine o0 ?_;refine e6<|e6<|l7 ?_;have h:=xL hx36 h;exact eJ h W
theorem ue{a0 a1}:PO Tryz.prog 164 [g8.Pv a0,.rptr [.L iF a1]] (fp a0 a1) λr=>.bool r:=by
 refine pO Tryz.func164 λr h _ _=>?_;refine S4 2 J<|S3 3 J<|cA h L9 J J λv1 _ h=>S2 2 J<|c5 ?_;cases h;exact f1
theorem aH{a0 a1}:PO Tryz.prog 163 [.L g8.Pv a0,.fn (.func 164) [.rptr [.L iF a1]]] (D3 a0 a1) λr=>.L g8.Pv r:=by
 refine pO Tryz.func163 λr h _ _=>?_;refine S4 1 J<|S4 1 J ?_;refine jq h (λj15=>St.of [(5,.sl 910005)] [(910005,⟨List.map g8.Pv j15,(List.map g8.Pv j15).length,true,2,true⟩)]) (λj15 h=>?_) λκ14 h=>?_
 .refine S4 2 J ?_;refine c5 ?_;cases h;exact f1
 .refine S3 1 J ?_;refine nL J N2<|S2 1 J<|k7<|lq h (λq=>St.of [(1,.fn (.func 164) [.rptr [.L iF a1]]),(5,.sl 910005),(8,.L g8.Pv a0),(9,.I (a0.length:Int)),(10,.I q.1)] [(910005,⟨List.map g8.Pv q.2,(List.map g8.Pv q.2).length,true,2,true⟩)]) (Wk.trans (F5 (t:=5) (l:=920005) (z:=2) J J) (WP (λl=>if l=910005 then 920005 else l))) λq20 x19 h hx14=>?_;obtain⟨s17,s18⟩:=q20;refine S4 1 J<|k9 ?_;refine cN h (λhc h=>?_) λhc h=>?_
  .refine c7 ?_;refine jq h (λj25=>St.of [(1,.fn (.func 164) [.rptr [.L iF a1]]),(5,.sl 20),(8,.L g8.Pv a0),(9,.I (a0.length:Int)),(10,.I s17)] [(20,⟨List.map g8.Pv j25,(List.map g8.Pv j25).length,true,2,true⟩)]) (λj25 h=>?_) λκ24 h=>?_
   .refine S6 2 J ?_;exact eL h (Wk.trans (m9 _ [20]) (WP (λl=>if l=910005 then 20 else l)))
   .refine k7 ?_;refine sR<|iL h J J N2 U4 λv26 _ h=>S2 3 J<|S3 2 J<|cA h ue J J λv27 _ h=>yN ?_;refine cN h (λhc h=>?_) λhc h=>?_
    .refine S5 2 J ?_;refine y0 J (I4 (f:=g8.Pv) (l:=[v26]) J N2 U4 aA J J nl J J)<|w8 h λv28 hv21 h=>J4 J (H8 (f:=g8.Pv) hv21 J J J J J J (.inl ⟨_,J,J⟩) N2 U4 qm aA J (λ_=>J)) J J J<|S2 1 J ?_;exact eJ h (Wk.trans (m9 _ [20]) W)
    .refine c7 ?_;exact eJ h (Wk.trans (m9 _ [910005]) (WP (λl=>if l=20 then 910005 else l)))
  .refine o0 ?_;refine e6<|e6<|l7 ?_;have h:=xL hx14 h;exact eJ h (Wk.trans (m9 _ [910005]) W)
theorem uf{a0}:PO Tryz.prog 166 [b8.Pv a0] (jZ a0) λr=>b8.Pv r:=by
 refine pO Tryz.func166 λr h _ _=>?_;unfold jZ at h;refine S4 2 J<|S3 3 J<|jc (x':=.agg [.I a0.Serial,.I a0.Slot,.I a0.Prog,.bool a0.Started,.bool false,.bool a0.Stuck,.nl]) (cl':=true) J J (.inl J) bL<|yN<|S3 1 J<|jc (x':=.agg [.I a0.Serial,.I a0.Slot,.I a0.Prog,.bool a0.Started,.bool false,.bool a0.Stuck,.nl]) (cl':=true) J J (.inl J) u9<|yN<|c5 ?_;cases h;exact⟨J,[_],⟨oL J J J gD u9 nl J,tr⟩,J,io⟩
theorem fq{a0 a1}:PO Tryz.prog 154 [a8.Pv a0,.I a1,.fn (.func 166) []] (D1 a0 a1) λr=>a8.Pv r:=by
 refine pO Tryz.func154 λr h _ _=>?_;refine S4 2 J<|S3 2 J<|cA h R8 J J λv1 _ h=>S2 1 J<|S3 2 J<|w8 h λv2 hv2 h=>Kz J (ir J B2 J hv2) J J<|S2 2 J<|dr [] s6 (by kernel_rfl) (by kernel_rfl)<|S7 7 J<|w8 h λv3 hv3 h=>d0 J (T9 (f:=b8.Pv) hv3 J J J J A9 u9 J) J<|d0 J (JM (f:=b8.Pv) (cs:=b8.Pc v3) hv3 J J J gD u9 nl J) J<|w8 h λv4 hv4 h=>dX J (u7 J uf J hv4) J<|d0 J (T9 (f:=b8.Pv) hv3 J J J J A9 u9 J) J<|Jg (f:=b8.Pv) (v:=v4) hv3 J J (.inr J) u9<|J1<|S4 2 J<|c5 ?_;cases h;exact⟨J,[_],⟨oL J J J A2 w7 nl J,tr⟩,J,io⟩
theorem wj{a0 a1}:PO Tryz.prog 315 [k8.Pv a0,.rptr [.I a1]] (gT a0 a1) λr=>.bool r:=by
 refine pO Tryz.func315 λr h _ _=>?_;unfold gT at h;refine S4 2 J<|S3 3 J<|m7 J (λhg=>oF J vh J)<|m7 J (λhg=>oS (ct hg) J J G3 J)<|m7 J (λhg=>Q8 J G3 J)<|m7 J (λhg=>A7 (ct hg) (ct hg) J)<|y0 J (C4 J J J (λq=>jg q))<|S2 1 J<|c5 ?_;cases h;exact f1
theorem iB{a0 a1}:PO Tryz.prog 264 [.L k8.Pv a0,.fn (.func 315) [.rptr [.I a1]]] (U3 a0 a1) λr=>.L iF r:=by
 refine pO Tryz.func264 λr h _ _=>?_;refine S4 1 J<|S4 1 J ?_;refine jq h (λj15=>St.of [(5,.sl 910005)] [(910005,⟨List.map iF j15,(List.map iF j15).length,true,1,true⟩)]) (λj15 h=>?_) λκ14 h=>?_
 .refine S4 2 J ?_;refine c5 ?_;cases h;exact f1
 .refine S3 1 J ?_;refine nL J T4<|S2 1 J<|k7<|lq h (λq=>St.of [(1,.fn (.func 315) [.rptr [.I a1]]),(5,.sl 910005),(8,.L k8.Pv a0),(9,.I (a0.length:Int)),(10,.I q.1)] [(910005,⟨List.map iF q.2,(List.map iF q.2).length,true,1,true⟩)]) (Wk.trans (F5 (t:=5) (l:=920005) (z:=1) J J) (WP (λl=>if l=910005 then 920005 else l))) λq20 x19 h hx14=>?_;obtain⟨s17,s18⟩:=q20;refine S4 1 J<|k9 ?_;refine cN h (λhc h=>?_) λhc h=>?_
  .refine c7 ?_;refine jq h (λj25=>St.of [(1,.fn (.func 315) [.rptr [.I a1]]),(5,.sl 21),(8,.L k8.Pv a0),(9,.I (a0.length:Int)),(10,.I s17)] [(21,⟨List.map iF j25,(List.map iF j25).length,true,1,true⟩)]) (λj25 h=>?_) λκ24 h=>?_
   .refine S6 2 J ?_;exact eL h (Wk.trans (m9 _ [21]) (WP (λl=>if l=910005 then 21 else l)))
   .refine k7 ?_;refine S3 1 J<|iL h J J T4 Y7 λv26 _ h=>S2 4 J<|S3 2 J<|cA h wj J J λv27 _ h=>yN ?_;refine cN h (λhc h=>?_) λhc h=>?_
    .refine S5 2 J ?_;refine y0 J (I4 (f:=iF) (l:=[s17]) J l6 o5 C0 J J nl J J)<|w8 h λv28 hv21 h=>J4 J (H8 (f:=iF) hv21 J J J J J J (.inl ⟨_,J,J⟩) l6 o5 O9 C0 J (λ_=>J)) J J J<|S2 1 J ?_;exact eJ h (Wk.trans (m9 _ [21]) W)
    .refine c7 ?_;exact eJ h (Wk.trans (m9 _ [910005]) (WP (λl=>if l=21 then 910005 else l)))
  .refine o0 ?_;refine e6<|e6<|l7 ?_;have h:=xL hx14 h;exact eJ h (Wk.trans (m9 _ [910005]) W)
theorem AT{a0 a1}:PO Tryz.prog 268 [.L k8.Pv a0,.I a1] (eI a0 a1) λr=>.I r:=by
 refine pO Tryz.func268 λr h _ _=>?_;unfold eI at h;refine S4 2 J<|S3 2 J<|w8 h λv1 hv1 h=>Iw J (u7 J iB J hv1) J<|nL J l6<|S2 1 J<|c5 ?_;cases h;exact f1
theorem qT{a0 a1}:PO Tryz.prog 269 [b8.Pv a0,.rptr [.I a1]] (cE a0 a1) λr=>.bool r:=by
 refine pO Tryz.func269 λr h _ _=>?_;unfold cE at h;refine S4 2 J<|S4 5 J<|c5 ?_;cases h;exact f1
theorem aa{a0 a1}:PO Tryz.prog 60 [.L b8.Pv a0,.fn (.func 269) [.rptr [.I a1]]] (C7 a0 a1) λr=>.L b8.Pv r:=by
 refine pO Tryz.func60 λr h _ _=>?_;refine S4 1 J<|S4 1 J ?_;refine jq h (λj15=>St.of [(5,.sl 910005)] [(910005,⟨List.map b8.Pv j15,(List.map b8.Pv j15).length,true,7,true⟩)]) (λj15 h=>?_) λκ14 h=>?_
 .refine S4 2 J ?_;refine c5 ?_;cases h;exact f1
 .refine S3 1 J ?_;refine nL J A9<|S2 1 J<|k7<|lq h (λq=>St.of [(1,.fn (.func 269) [.rptr [.I a1]]),(5,.sl 910005),(8,.L b8.Pv a0),(9,.I (a0.length:Int)),(10,.I q.1)] [(910005,⟨List.map b8.Pv q.2,(List.map b8.Pv q.2).length,true,7,true⟩)]) (Wk.trans (F5 (t:=5) (l:=920005) (z:=7) J J) (WP (λl=>if l=910005 then 920005 else l))) λq20 x19 h hx14=>?_;obtain⟨s17,s18⟩:=q20;refine S4 1 J<|k9 ?_;refine cN h (λhc h=>?_) λhc h=>?_
  .refine c7 ?_;refine jq h (λj25=>St.of [(1,.fn (.func 269) [.rptr [.I a1]]),(5,.sl 20),(8,.L b8.Pv a0),(9,.I (a0.length:Int)),(10,.I s17)] [(20,⟨List.map b8.Pv j25,(List.map b8.Pv j25).length,true,7,true⟩)]) (λj25 h=>?_) λκ24 h=>?_
   .refine S6 2 J ?_;exact eL h (Wk.trans (m9 _ [20]) (WP (λl=>if l=910005 then 20 else l)))
   .refine k7 ?_;refine sR<|iL h J J A9 u9 λv26 _ h=>S2 3 J<|S3 2 J<|cA h qT J J λv27 _ h=>yN ?_;refine cN h (λhc h=>?_) λhc h=>?_
    .refine S5 2 J ?_;refine y0 J (I4 (f:=b8.Pv) (l:=[v26]) J A9 u9 ay J J nl J J)<|w8 h λv28 hv21 h=>J4 J (H8 (f:=b8.Pv) hv21 J J J J J J (.inl ⟨_,J,J⟩) A9 u9 mZ ay J (λ_=>J)) J J J<|S2 1 J ?_;exact eJ h (Wk.trans (m9 _ [20]) W)
    .refine c7 ?_;exact eJ h (Wk.trans (m9 _ [910005]) (WP (λl=>if l=20 then 910005 else l)))
  .refine o0 ?_;refine e6<|e6<|l7 ?_;have h:=xL hx14 h;exact eJ h (Wk.trans (m9 _ [910005]) W)
theorem J3{a0}:PW Tryz.prog 180 [.L iF a0] (y8 a0) λr=>⟨List.map iF r,0,true,1,true⟩:=by
 refine TZ Tryz.func180 λr h _ _=>?_;unfold y8 at h;refine S4 1 J<|k9<|S3 1 J<|vb J l6 λb hb=>yN ?_;refine G9 b J (λhc=>?_) (λhc=>?_)
 .obtain rfl:a0 = []:=by simpa using hb hc
  refine S4 1 J<|bU (F5 (t:=2) (l:=920000) (z:=1) J J)<|c5 ?_;cases h;exact⟨J,_,_,J,J,J,J⟩
 .refine c7 ?_;refine sR<|y0 J (fB J l6 o5)<|S1 1 J<|y1 J (wA (f:=iF) h J J (.inl ⟨_,J,J⟩) l6 o5 O9 C0 J (λ_=>J)) J<|S2 1 J<|c5 ?_;exact⟨J,_,_,J,J,J,J⟩
theorem lh{a0 a1}:PO Tryz.prog 167 [a8.Pv a0,.I a1] (P3 a0 a1) λr=>a8.Pv r:=by
 refine pO Tryz.func167 λr h _ _=>?_;refine S4 3 J<|S3 2 J<|cA h R8 J J λv1 _ h=>S2 1 J<|k9<|S3 3 J<|m7 J (λhg=>oF J Mq J)<|m7 J (λhg=>oS (ct hg) J J Un J)<|m7 J (λhg=>mI J)<|w8 h λv2 hv2 h=>m7 J (λhg=>J9 (f:=b8.Pv) (cs:=b8.Pc v2) (Y3 hv2 hg) (ct hg) (ct hg) A9 u9 J J)<|m7 J (λhg=>L6 (ct hg) KE J)<|m7 J (λhg=>Q8 (ct hg) oZ J)<|y0 J (H9 J J J (λq=>kB q))<|S1 1 J<|m7 J (λhg=>oF J EE J)<|m7 J (λhg=>oS (ct hg) J J CG J)<|m7 J (λhg=>oS J J J G3 J)<|w8 h λv3 hv3 h=>m7 J (λhg=>P8 J AT (Y1 (ct hg) (Y1 (ct hg) J)) (Y3 hv3 hg))<|m7 J (λhg=>A7 (ct hg) J J)<|y0 J (H9 J J J (λq=>kB q))<|yN ?_;refine cN h (λhc h=>?_) λhc h=>?_
 .refine S4 2 J ?_;refine c5 ?_;cases h;exact⟨J,[_],⟨oL J J J A2 w7 nl J,tr⟩,J,io⟩
 .refine c7 ?_;refine S3 3 J<|iL h J J A9 u9 λv4 _ h=>S2 3 J<|S3 3 J<|w8 h λv5 hv5 h=>Iw J (u7 J aa J hv5) J<|S2 2 J<|dr [] s6 (by kernel_rfl) (by kernel_rfl)<|S7 2 J<|w8 h λv6 hv6 h=>Zd J (ir J J3 J hv6) J J J<|S7 2 J<|w8 h λv7 hv7 h=>Zd J (ir J J3 J hv7) J J J<|S7 1 J<|D0 (x':=.agg [.L b8.Pv v5,.sl 41,.L iF a0.Gens,.I a0.Last,.I a0.Places,.I a0.Serial,.L iF a0.Roots,.L k8.Pv a0.b7,.L g8.Pv a0.Pairs,.L g6.Pv a0.Tasks,.L (Ls g7.Pv) a0.Progs]) (cl':=false) J J (.inl J) bL<|S7 1 J<|D0 (x':=.agg [.L b8.Pv v5,.sl 41,.sl 44,.I a0.Last,.I a0.Places,.I a0.Serial,.L iF a0.Roots,.L k8.Pv a0.b7,.L g8.Pv a0.Pairs,.L g6.Pv a0.Tasks,.L (Ls g7.Pv) a0.Progs]) (cl':=false) J J (.inl J) bL<|J1<|k9<|dr [] s6 (by kernel_rfl) (by kernel_rfl)<|S7 3 J<|w8 h λv8 hv8 h=>d0 J (T9 (f:=iF) hv8 J J J J l6 o5 J) J<|d0 J (uo (f:=iF) hv8 J J J G3 J) J<|S8 3 J ?_;refine cN h (λhc h=>?_) λhc h=>?_
  .refine S3 3 J ?_;obtain⟨v9,hv9,h⟩:=rj h;refine y0 J (T9 (f:=iF) hv9 J J J J l6 o5 J)<|ly (f:=iF) (v:=(-1)) hv9 J J (.inl J) o5<|yN<|S4 2 J<|c5 ?_;cases h;exact⟨J,[_],⟨oL J J J A2 w7 nl J,tr⟩,J,io⟩
  .refine c7 ?_;refine S3 3 J<|w8 h λv10 hv10 h=>y0 J (T9 (f:=iF) hv10 J J J J l6 o5 J)<|ly (f:=iF) (v:=0) hv10 J J (.inl J) o5<|yN<|S3 3 J<|y0 J (T9 (f:=iF) hv8 J J J J l6 o5 J)<|y0 J (uo (f:=iF) hv8 J J J G3 J)<|S1 1 J<|y0 J (T9 (f:=iF) hv8 J J J J l6 o5 J)<|ly (f:=iF) (v:=u4 (v8+1)) hv8 J J (.inl J) o5<|yN<|S4 2 J<|c5 ?_;cases h;exact⟨J,[_],⟨oL J J J A2 w7 nl J,tr⟩,J,io⟩
theorem oB{a0 a1}:PO Tryz.prog 87 [a8.Pv a0,.L iF a1] (fk a0 a1) λr=>a8.Pv r:=by
 refine pO Tryz.func87 λr h _ _=>?_;refine S4 3 J<|S3 3 J<|cF h rK J J λv1 _ h=>S2 6 J<|S4 3 J<|S3 2 J<|w8 h λv2 hv2 h=>Iw J (u7 J Y4 J hv2) J<|S2 1 J<|S3 3 J<|y0 J (I4 (f:=(Ls g6.Pv)) (l:=[a0.Tasks,v2]) J nc vi Ux J J nl J J)<|cF h dc J J λv3 _ h=>S2 2 J<|S3 3 J<|w8 h λv4 hv4 h=>Iw J (u7 J aH J hv4) J<|S2 2 J ?_;refine jq h (λj14=>St.of [(2,.ptr 2 0 0),(4,.ptr 4 0 0)] [(4,vR (.agg [.nl,.nl,.nl,.I 0,.I 0,.I 0,.nl,.nl,.nl,.nl,.nl]) 11),(2,vR (a8.Pv j14) 11)]) (λj14 h=>?_) λκ13 h=>?_
 .refine S4 2 J ?_;refine c5 ?_;cases h;exact⟨J,[_],⟨oL J J J A2 w7 nl J,tr⟩,J,io⟩
 .refine S3 1 J ?_;refine nL J l6<|S2 1 J<|k7<|lq h (λq=>St.of [(2,.ptr 2 0 0),(4,.ptr 4 0 0),(33,.L iF a1),(34,.I (a1.length:Int)),(35,.I q.1)] [(4,vR (.agg [.nl,.nl,.nl,.I 0,.I 0,.I 0,.nl,.nl,.nl,.nl,.nl]) 11),(2,vR (a8.Pv q.2) 11)]) W λq19 x18 h hx14=>?_;obtain⟨s16,s17⟩:=q19;refine S4 1 J<|k9 ?_;refine cN h (λhc h=>?_) λhc h=>?_
  .refine c7 ?_;refine k9<|k7<|sR<|iL h J J l6 o5 λv20 _ h=>S2 2 J<|S3 2 J<|cF h fq J J λv21 _ h=>S2 1 J<|S5 2 J<|cF h lh J J λv22 _ h=>S2 1 J<|S6 2 J ?_;exact eL h W
  .refine o0 ?_;refine e6<|e6<|l7 ?_;have h:=xL hx14 h;exact eJ h W
theorem ss{a0 a1}:PO Tryz.prog 158 [b8.Pv a0,.rptr (a8.Pc a1)] (aU a0 a1) λr=>.bool r:=by
 refine pO Tryz.func158 λr h _ _=>?_;unfold aU at h;refine S4 2 J<|S3 3 J<|m7 J (λhg=>oF J BE J)<|m7 J (λhg=>oS (ct hg) J J oZ J)<|m7 J (λhg=>eC (ct hg) J)<|y0 J (C4 J J J (λq=>jg q))<|S1 1 J<|m7 J (λhg=>FM J A2 w7 nl J)<|m7 J (λhg=>oF J vg J)<|m7 J (λhg=>oS (ct hg) J J G3 J)<|w8 h λv1 hv1 h=>m7 J (λhg=>P8 J jY (Y1 (ct hg) (Y1 (ct hg) J)) (Y3 hv1 hg))<|m7 J (λhg=>A7 (ct hg) J J)<|y0 J (C4 J J J (λq=>jg q))<|S2 1 J<|c5 ?_;cases h;exact f1
theorem O0{a0 a1}:PO Tryz.prog 157 [.L b8.Pv a0,.fn (.func 158) [.rptr (a8.Pc a1)]] (x8 a0 a1) λr=>.I r:=by
 refine pO Tryz.func157 λr h _ _=>?_;refine S4 1 J ?_;refine jq h (λ_=>St.of [] []) (λq7 h=>?_) λκ6 h=>?_
 .refine S4 1 J ?_;refine c5 ?_;cases h;exact f1
 .refine S3 1 J ?_;refine nL J A9<|S2 1 J<|k7<|lq h (λs9=>St.of [(0,.L b8.Pv a0),(1,.fn (.func 158) [.rptr (a8.Pc a1)]),(7,.I (a0.length:Int)),(8,.I s9)] []) W λs9 x10 h hx9=>S4 1 J<|k9 ?_;refine cN h (λhc h=>?_) λhc h=>?_
  .refine c7 ?_;refine k9<|k7<|S4 2 J<|S3 3 J<|iL h J J A9 u9 λv11 _ h=>S1 1 J<|cA h ss J J λv12 _ h=>yN ?_;refine cN h (λhc h=>?_) λhc h=>?_
   .refine S4 2 J ?_;refine c5 ?_;have h:=xL hx9 h;cases h;exact f1
   .refine c7 ?_;refine S6 2 J ?_;exact eL h W
  .refine o0 ?_;refine e6<|e6<|l7 ?_;have h:=xL hx9 h;exact eJ h W
theorem N8{a0}:PO Tryz.prog 86 [a8.Pv a0] (H6 a0) λr=>a8.Pv r:=by
 refine pO Tryz.func86 λr h _ _=>?_;refine S4 2 J<|k7<|lq h (λs2=>St.of [(1,.ptr 1 0 0),(2,.ptr 2 0 0)] [(2,vR (.agg [.nl,.nl,.nl,.I 0,.I 0,.I 0,.nl,.nl,.nl,.nl,.nl]) 11),(1,vR (a8.Pv s2) 11)]) W λs2 x3 h hx3=>k7<|S3 3 J<|cA h O0 J J λv4 _ h=>S2 1 J<|k9<|S4 2 J ?_;refine cN h (λhc h=>?_) λhc h=>?_
 .refine S4 2 J ?_;refine c5 ?_;have h:=xL hx3 h;cases h;exact⟨J,[_],⟨oL J J J A2 w7 nl J,tr⟩,J,io⟩
 .refine c7 ?_;refine S3 3 J<|iL h J J A9 u9 λv5 _ h=>S2 3 J<|S3 1 J<|cA h ml J J λv6 _ h=>yN ?_;refine cN h (λhc h=>?_) λhc h=>?_
  .refine S5 3 J ?_;refine cF h mn J J λv7 _ h=>S2 1 J ?_;exact eL h W
  .refine S5 3 J ?_;refine y0 J (I4 (f:=iF) (l:=[v5.Serial]) J l6 o5 C0 J J nl J J)<|cF h oB J J λv8 _ h=>S2 1 J ?_;exact eL h W
theorem fi{a0}:PO Tryz.prog 24 [a8.Pv a0] (aw a0) λr=>.L iF r:=by
 refine pO Tryz.func24 λr h _ _=>?_;refine S4 2 J<|S3 2 J<|cF h M6 J J λv1 _ h=>cF h cG J J λv2 _ h=>S2 1 J<|c5 ?_;cases h;exact f1
theorem sj{a0}:PO Tryz.prog 51 [a8.Pv a0] (dB a0) λr=>.tup [a8.Pv r.1,g9.Pv r.2]:=by
 refine pO Tryz.func51 λr h _ _=>?_;refine S4 3 J<|S3 1 J<|cF h vI J J λv1 _ h=>S2 2 J<|S3 3 J<|w8 h λv2 hv2 h=>Iw J (u7 J Y5 J hv2) J<|S2 1 J<|S3 1 J<|cF h aT J J λv3 _ h=>cF h cG J J λv4 _ h=>S2 1 J ?_;refine jq h (λj13=>St.of [(1,.ptr 1 0 0),(2,.ptr 2 0 0),(3,.ptr 3 0 0),(5,.L b8.Pv v2),(6,.L iF v4)] [(3,vR (.agg [.I 0,.I 0]) 2),(2,vR (.agg [.nl,.nl,.nl,.I 0,.I 0,.I 0,.nl,.nl,.nl,.nl,.nl]) 11),(1,vR (a8.Pv j13) 11)]) (λj13 h=>?_) λκ12 h=>?_
 .refine k9 ?_;refine S3 1 J<|nL J l6<|S2 1 J ?_;refine cN h (λhc h=>?_) λhc h=>?_
  .refine S3 2 J ?_;refine nL J l6<|y0 J (.neg _ _ _ _ J)<|y0 J (o7 (cs:=[.I (u4 (0-(v4.length:Int))),.I 0]) J bm U8 J J J)<|S2 2 J<|c5 ?_;cases h;exact⟨J,[_,_],⟨oL J J J A2 w7 nl J,⟨oL J J J H0 B0 nl J,tr⟩⟩,J,io⟩
  .refine c7 ?_;refine dr [] s6 (by kernel_rfl) (by kernel_rfl)<|S7 2 J<|w8 h λv14 hv11 h=>dX J (u7 J cG J hv11) J<|w8 h λv15 hv12 h=>dX J (u7 J oB J hv12) J<|w8 h λv16 hv13 h=>dX J (u7 J N8 J hv13) J<|S7 1 J<|D0 (x':=a8.Pv v16) (cl':=true) J J (.inr J) w7<|J1<|dr [3,6] s6 (by kernel_rfl) (by kernel_rfl)<|S7 2 J<|w8 h λv17 hv14 h=>dX J (u7 J fi J hv14) J<|d7 J (λ_ hN=>Y2 (f:=iF) J l6) J<|S7 1 J<|w8 h λv18 hv15 h=>dX J (u7 J fi J hv15) J<|d7 J (λ_ hN=>Y2 (f:=iF) J l6) J<|S7 1 J<|d7 J (λ_ hN=>o7 (cs:=[.I (u4 ((v17.length:Int)-(v18.length:Int))),.I 0]) J bm U8 J J J) J<|D0 (x':=a8.Pv v16) (cl':=true) J J (.inr J) w7<|D0 (x':=.agg [.I (u4 ((v17.length:Int)-(v18.length:Int))),.I 0]) (cl':=true) J J (.inl J) B0<|J1<|c5 ?_;cases h;exact⟨J,[_,_],⟨oL J J J A2 w7 nl J,⟨oL J J J H0 B0 nl J,tr⟩⟩,J,io⟩
 .refine S3 1 J ?_;refine nL J l6<|S2 1 J<|k7<|lq h (λq=>St.of [(1,.ptr 1 0 0),(2,.ptr 2 0 0),(3,.ptr 3 0 0),(5,.L b8.Pv v2),(6,.L iF v4),(19,.L iF v4),(20,.I (v4.length:Int)),(21,.I q.1)] [(3,vR (.agg [.I 0,.I 0]) 2),(2,vR (.agg [.nl,.nl,.nl,.I 0,.I 0,.I 0,.nl,.nl,.nl,.nl,.nl]) 11),(1,vR (a8.Pv q.2) 11)]) W λq23 x22 h hx18=>?_;obtain⟨s20,s21⟩:=q23;refine S4 1 J<|k9 ?_;refine cN h (λhc h=>?_) λhc h=>?_
  .refine c7 ?_;refine k9<|k7<|sR<|iL h J J l6 o5 λv24 _ h=>S2 2 J<|S5 2 J<|cF h mn J J λv25 _ h=>S2 1 J<|S6 2 J ?_;exact eL h W
  .refine o0 ?_;refine e6<|e6<|l7 ?_;have h:=xL hx18 h;exact eJ h W
theorem lE{a0 a1}:PO Tryz.prog 168 [.L (Ls g7.Pv) a0,.I a1] (dH a0 a1) λr=>.L g7.Pv r:=by
 refine pO Tryz.func168 λr h _ _=>?_;refine S4 1 J<|k9<|S3 3 J<|m7 J (λhg=>mI J)<|m7 J (λhg=>om (d:=.L (Ls g7.Pv) a0) J)<|m7 J (λhg=>Y2 (f:=(Ls g7.Pv)) (ct hg) nb)<|m7 J (λhg=>A7 (ct hg) (ct hg) J)<|y0 J (H9 J J J (λq=>kB q))<|yN ?_;refine cN h (λhc h=>?_) λhc h=>?_
 .refine S4 1 J ?_;refine c5 ?_;cases h;exact f1
 .refine c7 ?_;refine S3 2 J<|iL h J J nb xu λv1 _ h=>S2 2 J<|c5 ?_;cases h;exact f1
theorem rq{a0 a1}:PO Tryz.prog 88 [.L (Ls g7.Pv) a0,g6.Pv a1] (bO a0 a1) λr=>.I r:=by
 refine pO Tryz.func88 λr h _ _=>?_;refine S4 2 J<|S3 3 J<|cF h lE J J λv1 _ h=>nL J gE<|S2 2 J<|c5 ?_;cases h;exact f1
theorem iQ{a0 a1 a2}:PO Tryz.prog 169 [a8.Pv a0,.I a1,.I a2] (V9 a0 a1 a2) λr=>a8.Pv r:=by
 refine pO Tryz.func169 λr h _ _=>?_;refine S4 2 J<|S3 2 J<|cF h gN J J λv1 _ h=>S2 1 J<|S3 2 J<|w8 h λv2 hv2 h=>Kz J (ir J J3 J hv2) J J<|S2 2 J<|S3 4 J<|w8 h λv3 hv3 h=>y0 J (T9 (f:=iF) hv3 J J J J l6 o5 J)<|ly (f:=iF) (v:=a2) hv3 J J (.inl J) o5<|yN<|S4 2 J<|c5 ?_;cases h;exact⟨J,[_],⟨oL J J J A2 w7 nl J,tr⟩,J,io⟩
theorem R5{a0}:PO Tryz.prog 328 [j5.Pv a0] (M2 a0) λr=>.I r:=by
 refine pO Tryz.func328 λr h _ _=>?_;unfold M2 at h;refine S4 2 J<|S3 2 J<|nL J I9<|S2 1 J<|c5 ?_;cases h;exact f1
theorem af{a0 a1 a2}:PO Tryz.prog 329 [.L g6.Pv a0,.I a1,.I a2] (H3 a0 a1 a2) λr=>.lst true (List.map g6.Pv r):=by
 refine pO Tryz.func329 λr h _ _=>?_;unfold H3 at h;refine S4 1 J<|S3 4 J<|w8 h λv1 hv1 h=>y0 J (Oz (f:=g6.Pv) hv1 J ⟨_,J⟩ ⟨_,J⟩ ⟨_,J⟩ J J I9 D2 (λ_=>J))<|S2 1 J<|c5 ?_;cases h;exact f1
theorem lK{a0 a1}:PO Tryz.prog 316 [j5.Pv a0,.I a1] (bu a0 a1) λr=>.tup [j5.Pv r.1,.L g6.Pv r.2]:=by
 refine pO Tryz.func316 λr h _ _=>?_;refine S4 3 J<|S3 2 J<|cA h R5 J J λv1 hv1 h=>y0 J (TX J J J)<|y0 J (OA J J J)<|S2 1 J<|S3 3 J<|cF h af J J λv2 _ h=>S2 1 J<|dr [] s6 (by kernel_rfl) (by kernel_rfl)<|S7 4 J<|d2 J (P8 J R5 J hv1) J<|w8 h λv3 hv3 h=>dX J (u7 J af J hv3) J<|S7 1 J<|D0 (x':=.agg [.L g6.Pv v3,.I a0.Cap]) (cl':=true) J J (.inr J) vi<|J1<|S4 4 J<|c5 ?_;cases h;exact⟨J,[_,_],⟨oL J J J jK cV nl J,⟨J,tr⟩⟩,J,io⟩
theorem nJ{a0}:PO Tryz.prog 270 [j5.Pv a0] (da a0) λr=>.tup [j5.Pv r.1,g6.Pv r.2.1,.I r.2.2]:=by
 refine pO Tryz.func270 λr h _ _=>?_;refine S4 4 J<|S3 1 J<|cF h lK J J λv1 _ h=>S2 6 J<|k9<|S3 1 J<|nL J I9<|S2 1 J ?_;refine cN h (λhc h=>?_) λhc h=>?_
 .refine S4 1 J ?_;refine dr [1,1007] s6 (by kernel_rfl) (by kernel_rfl)<|S7 1 J<|d7 J (λ_ hN=>nD (cs:=[.I 0,.I 0,.I 0]) hN J J J J cm D2 nl J) J<|D0 (x':=j5.Pv a0) (cl':=true) J J (.inr J) cV<|D0 (x':=.agg [.I 0,.I 0,.I 0]) (cl':=true) J J (.inl J) D2<|S8 1 J<|c5 ?_;cases h;exact⟨J,[_,_,_],⟨oL J J J jK cV nl J,⟨oL J J J cm D2 nl J,⟨J,tr⟩⟩⟩,J,io⟩
 .refine c7 ?_;refine dr [2,3] s6 (by kernel_rfl) (by kernel_rfl)<|S7 2 J<|w8 h λv2 hv2 h=>d7 J (λ_ hN=>J9 (f:=g6.Pv) (cs:=g6.Pc v2) hv2 J J I9 D2 J J) J<|d7 J (λ_ hN=>FM J cm D2 nl J) J<|D0 (x':=j5.Pv v1.1) (cl':=true) J J (.inr J) cV<|D0 (x':=g6.Pv v2) (cl':=true) J J (.inl J) D2<|S8 1 J<|c5 ?_;cases h;exact⟨J,[_,_,_],⟨oL J J J jK cV nl J,⟨oL J J J cm D2 nl J,⟨J,tr⟩⟩⟩,J,io⟩
theorem jv{a0}:PO Tryz.prog 170 [j5.Pv a0] (bg a0) λr=>.tup [j5.Pv r.1,g6.Pv r.2.1,.I r.2.2]:=by
 refine pO Tryz.func170 λr h _ _=>?_;refine S4 4 J<|S3 1 J<|cF h nJ J J λv1 _ h=>S2 6 J<|c5 ?_;cases h;exact⟨J,[_,_,_],⟨oL J J J jK cV nl J,⟨oL J J J cm D2 nl J,⟨J,tr⟩⟩⟩,J,io⟩
theorem dq{a0 a1}:PO Tryz.prog 91 [a8.Pv a0,.I a1] (T8 a0 a1) λr=>.I r:=by
 refine pO Tryz.func91 λr h _ _=>?_;refine S4 2 J<|k9<|S4 2 J ?_;refine cN h (λhc h=>?_) λhc h=>?_
 .refine S4 1 J ?_;refine c5 ?_;cases h;exact f1
 .refine c7 ?_;refine S3 3 J<|iL h J J l6 o5 λv1 _ h=>S2 2 J<|c5 ?_;cases h;exact f1
theorem dC{a0 a1}:PO Tryz.prog 172 [a8.Pv a0,.I a1] (O7 a0 a1) λr=>.tup [b8.Pv r.1,.I r.2]:=by
 refine pO Tryz.func172 λr h _ _=>?_;refine S4 3 J<|k9<|S3 2 J<|cA h dq J J λv1 hv1 h=>S2 1 J ?_;refine cN h (λhc h=>?_) λhc h=>?_
 .refine sR ?_;refine y0 J (o7 (cs:=[.I 0,.I 0,.I 0,.bool false,.bool false,.bool false,.nl]) J II ay J J J)<|jc (x':=.agg [.I 0,.I 0,.I 0,.bool false,.bool false,.bool false,.nl]) (cl':=true) J J (.inl J) u9<|S2 1 J<|c5 ?_;cases h;exact⟨J,[_,_],⟨oL J J J gD u9 nl J,⟨J,tr⟩⟩,J,io⟩
 .refine c7 ?_;refine dr [] s6 (by kernel_rfl) (by kernel_rfl)<|S7 5 J<|d2 J (P8 J dq J hv1) J<|w8 h λv2 hv2 h=>d2 J (P8 J R8 J hv2) J<|w8 h λv3 hv3 h=>d0 J (J9 (f:=b8.Pv) (cs:=b8.Pc v3) hv3 J J A9 u9 J J) J<|S7 1 J<|D0 (x':=b8.Pv v3) (cl':=true) J J (.inr J) u9<|S8 1 J<|c5 ?_;cases h;exact⟨J,[_,_],⟨oL J J J gD u9 nl J,⟨J,tr⟩⟩,J,io⟩
theorem AQ{a0 a1}:PO Tryz.prog 271 [.L iF a0,.I a1] (gS a0 a1) λr=>.bool r:=by
 refine pO Tryz.func271 λr h _ _=>?_;unfold gS at h;refine S4 1 J<|S3 3 J<|m7 J (λhg=>mI J)<|m7 J (λhg=>om (d:=.L iF a0) J)<|m7 J (λhg=>Y2 (f:=iF) (ct hg) l6)<|m7 J (λhg=>A7 (ct hg) (ct hg) J)<|y0 J (C4 J J J (λq=>jg q))<|S2 1 J<|c5 ?_;cases h;exact f1
theorem wL{a0 a1 a2}:PO Tryz.prog 173 [.L iF a0,.I a1,.I a2] (mR a0 a1 a2) λr=>.tup [.L iF r.1,.I r.2]:=by
 refine pO Tryz.func173 λr h _ _=>?_;refine S4 2 J<|k9<|S3 2 J<|cA h AQ J J λv1 _ h=>S2 1 J ?_;refine cN h (λhc h=>?_) λhc h=>?_
 .refine S4 3 J ?_;refine c5 ?_;cases h;exact f2
 .refine c7 ?_;refine S3 1 J<|nL J l6<|w8 h λv2 hv2 h=>y1 J (Br (f:=iF) hv2 J J J l6 o5 C0 O9 J J J) J<|S2 1 J<|S3 2 J<|w8 h λv3 hv3 h=>YD (f:=iF) hv3 J J J (.inl ⟨_,J,J⟩) l6 o5 (λ_=>J) (by decide)<|yN<|S3 3 J<|w8 h λv4 hv4 h=>y0 J (T9 (f:=iF) hv4 J J J J l6 o5 J)<|ly (f:=iF) (v:=a2) hv4 J J (.inl J) o5<|yN<|S4 3 J<|c5 ?_;cases h;exact f2
theorem uh{a0 a1}:PO Tryz.prog 174 [b8.Pv a0,.rptr [.L iF a1]] (fy a0 a1) λr=>b8.Pv r:=by
 refine pO Tryz.func174 λr h _ _=>?_;unfold fy at h;refine S4 2 J<|S4 3 J<|S4 2 J<|c5 ?_;cases h;exact⟨J,[_],⟨oL J J J gD u9 nl J,tr⟩,J,io⟩
theorem fu{a0 a1 a2}:PO Tryz.prog 154 [a8.Pv a0,.I a1,.fn (.func 174) [.rptr [.L iF a2]]] (P2 a0 a1 a2) λr=>a8.Pv r:=by
 refine pO Tryz.func154 λr h _ _=>?_;refine S4 2 J<|S3 2 J<|cA h R8 J J λv1 _ h=>S2 1 J<|S3 2 J<|w8 h λv2 hv2 h=>Kz J (ir J B2 J hv2) J J<|S2 2 J<|dr [] s6 (by kernel_rfl) (by kernel_rfl)<|S7 7 J<|w8 h λv3 hv3 h=>d0 J (T9 (f:=b8.Pv) hv3 J J J J A9 u9 J) J<|d0 J (JM (f:=b8.Pv) (cs:=b8.Pc v3) hv3 J J J gD u9 nl J) J<|w8 h λv4 hv4 h=>dX J (u7 J uh J hv4) J<|d0 J (T9 (f:=b8.Pv) hv3 J J J J A9 u9 J) J<|Jg (f:=b8.Pv) (v:=v4) hv3 J J (.inr J) u9<|J1<|S4 2 J<|c5 ?_;cases h;exact⟨J,[_],⟨oL J J J A2 w7 nl J,tr⟩,J,io⟩
theorem xi{a0 a1 a2}:PO Tryz.prog 92 [a8.Pv a0,.I a1,g7.Pv a2] (jl a0 a1 a2) λr=>.tup [a8.Pv r.1,.I r.2]:=by
 refine pO Tryz.func92 λr h _ _=>?_;refine S4 4 J<|S3 3 J<|cF h dC J J λv1 _ h=>S2 6 J<|k9<|S4 2 J ?_;refine cN h (λhc h=>?_) λhc h=>?_
 .refine S4 4 J ?_;refine c5 ?_;cases h;exact⟨J,[_,_],⟨oL J J J A2 w7 nl J,⟨J,tr⟩⟩,J,io⟩
 .refine c7 ?_;refine S3 5 J<|cF h wL J J λv2 _ h=>S2 6 J<|k9<|S4 2 J ?_;refine cN h (λhc h=>?_) λhc h=>?_
  .refine S4 4 J ?_;refine c5 ?_;cases h;exact⟨J,[_,_],⟨oL J J J A2 w7 nl J,⟨J,tr⟩⟩,J,io⟩
  .refine c7 ?_;refine S3 2 J<|cF h gN J J λv3 _ h=>S2 1 J<|S3 4 J<|w8 h λv4 hv4 h=>Iw J (u7 J fu J hv4) J<|S2 2 J<|c5 ?_;cases h;exact⟨J,[_,_],⟨oL J J J A2 w7 nl J,⟨J,tr⟩⟩,J,io⟩
theorem gn{a0 a1 a2}:PO Tryz.prog 90 [a8.Pv a0,.I a1,g7.Pv a2,.fn (.func 92) []] (K3 a0 a1 a2) λr=>.tup [a8.Pv r.1,g9.Pv r.2]:=by
 refine pO Tryz.func90 λr h _ _=>?_;refine S4 4 J<|S3 4 J<|cF h xi J J λv1 _ h=>S2 6 J<|k9<|S4 2 J ?_;refine cN h (λhc h=>?_) λhc h=>?_
 .refine S3 2 J ?_;refine y0 J (o7 (cs:=[.I 0,.I v1.2]) J bm U8 J J J)<|S2 2 J<|c5 ?_;cases h;exact⟨J,[_,_],⟨oL J J J A2 w7 nl J,⟨oL J J J H0 B0 nl J,tr⟩⟩,J,io⟩
 .refine c7 ?_;refine S3 1 J<|cF h N8 J J λv2 _ h=>S1 1 J<|y0 J (o7 (cs:=[.I a1,.I 0]) J bm U8 J J J)<|S2 2 J<|c5 ?_;cases h;exact⟨J,[_,_],⟨oL J J J A2 w7 nl J,⟨oL J J J H0 B0 nl J,tr⟩⟩,J,io⟩
end Go.Proofs.YtmgbbnfgfmfgaaaGreat.Ok
