/- A part. -/
import Derived.Test.YtjlokngooekbcaaGreatP21fPwC
import Derived.Test.YtjlokngooekbcaaGreatP21fPwD
import Derived.Test.YtjlokngooekbcaaGreatSrt
import Derived.Test.YtjlokngooekbcaaGreatSrtI
import Derived.Test.YtjlokngooekbcaaGreatP21fSh
import Derived.Test.YtjlokngooekbcaaGreatProg
set_option linter.unusedVariables false
set_option linter.unusedSimpArgs false
set_option linter.unusedSectionVars false
namespace Go.Proofs.YtjlokngooekbcaaGreat.Ok
open Go Go.Pw Go.Sh Go.Proofs
set_option maxRecDepth 100000
set_option maxHeartbeats 4000000
abbrev _root_.Go.Sh.c9.Pc(x:c9):List PV:=[.I x.Kind,.I x.A,.I x.B,.I x.C]
abbrev _root_.Go.Sh.c9.Pv(x:c9):PV:=.agg x.Pc
abbrev _root_.Go.Sh.k9.Pc(x:k9):List PV:=[.I x.Serial,.I x.Strong,.I x.Weak,.I x.Prog,.bool x.Started,.L iF x.Fields]
abbrev _root_.Go.Sh.k9.Pv(x:k9):PV:=.agg x.Pc
abbrev _root_.Go.Sh.b7.Pc(x:b7):List PV:=[.I x.State,.I x.Gen,.I x.Val.Serial,.I x.Val.Strong,.I x.Val.Weak,.I x.Val.Prog,.bool x.Val.Started,.L iF x.Val.Fields]
abbrev _root_.Go.Sh.b7.Pv(x:b7):PV:=.agg x.Pc
abbrev _root_.Go.Sh.c7.Pc(x:c7):List PV:=[.I x.Target,.bool x.Intact,.I x.Call]
abbrev _root_.Go.Sh.c7.Pv(x:c7):PV:=.agg x.Pc
abbrev _root_.Go.Sh.b8.Pc(x:b8):List PV:=[.I x.State,.I x.Key,.I x.Val]
abbrev _root_.Go.Sh.b8.Pv(x:b8):PV:=.agg x.Pc
abbrev _root_.Go.Sh.g9.Pc(x:g9):List PV:=[.I x.Kind,.I x.At,.I x.Prog]
abbrev _root_.Go.Sh.g9.Pv(x:g9):PV:=.agg x.Pc
abbrev _root_.Go.Sh.g5.Pc(x:g5):List PV:=[ql x.part,.I x.least,.I x.most,.I x.e]
abbrev _root_.Go.Sh.g5.Pv(x:g5):PV:=.agg x.Pc
abbrev _root_.Go.Sh.c4.Pc(x:c4):List PV:=[.L b7.Pv x.a8,.I x.Last]
abbrev _root_.Go.Sh.c4.Pv(x:c4):PV:=.agg x.Pc
abbrev _root_.Go.Sh.a7.Pc(x:a7):List PV:=[.L b7.Pv x.S.a8,.I x.S.Last,.I x.Serial]
abbrev _root_.Go.Sh.a7.Pv(x:a7):PV:=.agg x.Pc
abbrev _root_.Go.Sh.c5.Pc(x:c5):List PV:=[.L g9.Pv x.L,.I x.Cap]
abbrev _root_.Go.Sh.c5.Pv(x:c5):PV:=.agg x.Pc
abbrev _root_.Go.Sh.b6.Pc(x:b6):List PV:=[.L b7.Pv x.S.S.a8,.I x.S.S.Last,.I x.S.Serial,.L iF x.Roots,.L c7.Pv x.a8,.L b8.Pv x.T,.L g9.Pv x.Q.L,.I x.Q.Cap]
abbrev _root_.Go.Sh.b6.Pv(x:b6):PV:=.agg x.Pc
abbrev _root_.Go.Sh.n9.Pc(x:n9):List PV:=[.L b7.Pv x.X.S.S.a8,.I x.X.S.S.Last,.I x.X.S.Serial,.L iF x.X.Roots,.L c7.Pv x.X.a8,.L b8.Pv x.X.T,.L g9.Pv x.X.Q.L,.I x.X.Q.Cap,.L (Ls c9.Pv) x.Progs]
abbrev _root_.Go.Sh.n9.Pv(x:n9):PV:=.agg x.Pc
abbrev _root_.Go.Sh.j5.Pc(x:j5):List PV:=[.I x.V,.I x.E]
abbrev _root_.Go.Sh.j5.Pv(x:j5):PV:=.agg x.Pc
abbrev _root_.Go.Sh.p6.Pc(x:p6):List PV:=[.L b7.Pv x.x.S.S.a8,.I x.x.S.S.Last,.I x.x.S.Serial,.L iF x.x.Roots,.L c7.Pv x.x.a8,.L b8.Pv x.x.T,.L g9.Pv x.x.Q.L,.I x.x.Q.Cap,.I x.o.Kind,.I x.o.A,.I x.o.B,.I x.o.C]
abbrev _root_.Go.Sh.p6.Pv(x:p6):PV:=.agg x.Pc
abbrev _root_.Go.Sh.G4.Pc(x:G4):List PV:=[.I x.r,.I x.h]
abbrev _root_.Go.Sh.G4.Pv(x:G4):PV:=.agg x.Pc
abbrev _root_.Go.Sh.F0.Pc(x:F0):List PV:=[.I x.h,.I x.k,.I x.v]
abbrev _root_.Go.Sh.F0.Pv(x:F0):PV:=.agg x.Pc
abbrev _root_.Go.Sh.G3.Pc(x:G3):List PV:=[.L b8.Pv x.t]
abbrev _root_.Go.Sh.G3.Pv(x:G3):PV:=.agg x.Pc
abbrev _root_.Go.Sh.m9.Pc(x:m9):List PV:=[.I x.Key,.I x.Val]
abbrev _root_.Go.Sh.m9.Pv(x:m9):PV:=.agg x.Pc
abbrev _root_.Go.Sh.k7.Pc(x:k7):List PV:=[.L iF x.L,.I x.Cap]
abbrev _root_.Go.Sh.k7.Pv(x:k7):PV:=.agg x.Pc
abbrev _root_.Go.Sh.B7.Pc(x:B7):List PV:=[.I x.Serial,.I x.Strong,.I x.Weak,.I x.Prog,.bool x.Started,.L iF x.Fields]
abbrev _root_.Go.Sh.B7.Pv(x:B7):PV:=.agg x.Pc
abbrev _root_.Go.Sh.o6.Pc(x:o6):List PV:=[.I x.State,.I x.Gen,.I x.Val.Serial,.I x.Val.Strong,.I x.Val.Weak,.I x.Val.Prog,.bool x.Val.Started,.L iF x.Val.Fields]
abbrev _root_.Go.Sh.o6.Pv(x:o6):PV:=.agg x.Pc
abbrev _root_.Go.Sh.o7.Pc(x:o7):List PV:=[.I x.Target,.bool x.Intact,.I x.Call]
abbrev _root_.Go.Sh.o7.Pv(x:o7):PV:=.agg x.Pc
abbrev _root_.Go.Sh.l6.Pc(x:l6):List PV:=[.I x.State,.I x.Key,.I x.Val]
abbrev _root_.Go.Sh.l6.Pv(x:l6):PV:=.agg x.Pc
abbrev _root_.Go.Sh.u5.Pc(x:u5):List PV:=[.I x.Kind,.I x.At,.I x.Prog]
abbrev _root_.Go.Sh.u5.Pv(x:u5):PV:=.agg x.Pc
abbrev _root_.Go.Sh.n7.Pc(x:n7):List PV:=[.L o6.Pv x.a8,.I x.Last,.I x.Serial]
abbrev _root_.Go.Sh.n7.Pv(x:n7):PV:=.agg x.Pc
abbrev _root_.Go.Sh.u7.Pc(x:u7):List PV:=[.L u5.Pv x.L,.I x.Cap]
abbrev _root_.Go.Sh.u7.Pv(x:u7):PV:=.agg x.Pc
abbrev _root_.Go.Sh.g6.Pc(x:g6):List PV:=[.L o6.Pv x.S.a8,.I x.S.Last,.I x.S.Serial,.L iF x.Roots,.L o7.Pv x.a8,.L l6.Pv x.T,.L u5.Pv x.Q.L,.I x.Q.Cap]
abbrev _root_.Go.Sh.g6.Pv(x:g6):PV:=.agg x.Pc
abbrev _root_.Go.Sh.n8.Pc(x:n8):List PV:=[.I x.V,.I x.E]
abbrev _root_.Go.Sh.n8.Pv(x:n8):PV:=.agg x.Pc
abbrev _root_.Go.Sh.H7.Pc(x:H7):List PV:=[.I x.Kind,.I x.A,.I x.B,.I x.C]
abbrev _root_.Go.Sh.H7.Pv(x:H7):PV:=.agg x.Pc
abbrev _root_.Go.Sh.E8.Pc(x:E8):List PV:=[.I x.State,.I x.Gen,.I x.Val]
abbrev _root_.Go.Sh.E8.Pv(x:E8):PV:=.agg x.Pc
abbrev _root_.Go.Sh.C3.Pc(x:C3):List PV:=[.L E8.Pv x.a8,.I x.Last]
abbrev _root_.Go.Sh.C3.Pv(x:C3):PV:=.agg x.Pc
abbrev _root_.Go.Sh.A0.Pc(x:A0):List PV:=[.L o6.Pv x.X.S.a8,.I x.X.S.Last,.I x.X.S.Serial,.L iF x.X.Roots,.L o7.Pv x.X.a8,.L l6.Pv x.X.T,.L u5.Pv x.X.Q.L,.I x.X.Q.Cap,.L (Ls H7.Pv) x.Progs]
abbrev _root_.Go.Sh.A0.Pv(x:A0):PV:=.agg x.Pc
abbrev _root_.Go.Sh.Z1.Pc(x:Z1):List PV:=[.I x.Key,.I x.Val]
abbrev _root_.Go.Sh.Z1.Pv(x:Z1):PV:=.agg x.Pc
def pa(t:Nat):Nat:=if t=132 then 4 else if t=136 then 0 else if t=140 then 1 else 0
theorem F1:F8 Tryz.prog 3=some false:=by kernel_rfl
theorem uU:F8 Tryz.prog 4=some false:=by kernel_rfl
theorem Rx:F8 Tryz.prog 25=some false:=by kernel_rfl
theorem eE:F8 Tryz.prog 27=some true:=by kernel_rfl
theorem jM:F8 Tryz.prog 29=some true:=by kernel_rfl
theorem lV:F8 Tryz.prog 30=some false:=by kernel_rfl
theorem JJ:F8 Tryz.prog 31=some false:=by kernel_rfl
theorem uT:F8 Tryz.prog 32=some false:=by kernel_rfl
theorem Ry:F8 Tryz.prog 33=some false:=by kernel_rfl
theorem iA:F8 Tryz.prog 35=some true:=by kernel_rfl
theorem p9:F8 Tryz.prog 37=some true:=by kernel_rfl
theorem eF:F8 Tryz.prog 39=some true:=by kernel_rfl
theorem oZ:F8 Tryz.prog 40=some false:=by kernel_rfl
theorem rJ:F8 Tryz.prog 43=some false:=by kernel_rfl
theorem Rz:F8 Tryz.prog 45=some true:=by kernel_rfl
theorem JK:F8 Tryz.prog 46=some false:=by kernel_rfl
theorem JL:F8 Tryz.prog 47=some false:=by kernel_rfl
theorem JM:F8 Tryz.prog 48=some false:=by kernel_rfl
theorem El:F8 Tryz.prog 50=some true:=by kernel_rfl
theorem RA:F8 Tryz.prog 52=some true:=by kernel_rfl
theorem iB:F8 Tryz.prog 66=some true:=by kernel_rfl
theorem JN:F8 Tryz.prog 73=some true:=by kernel_rfl
theorem Em:F8 Tryz.prog 96=some true:=by kernel_rfl
theorem tZ:F8 Tryz.prog 110=some true:=by kernel_rfl
theorem pP:F8 Tryz.prog 150=some true:=by kernel_rfl
theorem bT:F8 Tryz.prog 191=some true:=by kernel_rfl
theorem fi:F8 Tryz.prog 251=some true:=by kernel_rfl
theorem Gq:F8 Tryz.prog 331=some false:=by kernel_rfl
theorem nn:F8 Tryz.prog 430=some true:=by kernel_rfl
theorem Y4:H2 Tryz.prog 3=some 8:=by kernel_rfl
theorem JO:H2 Tryz.prog 30=some 24:=by kernel_rfl
theorem RB:H2 Tryz.prog 66=some 16:=by kernel_rfl
theorem En:H2 Tryz.prog 69=some 16:=by kernel_rfl
theorem Ny:H2 Tryz.prog 101=some 80:=by kernel_rfl
theorem Gr:H2 Tryz.prog 180=some 80:=by kernel_rfl
theorem Nz:H2 Tryz.prog 183=some 24:=by kernel_rfl
theorem NA:H2 Tryz.prog 185=some 24:=by kernel_rfl
theorem NB:H2 Tryz.prog 187=some 24:=by kernel_rfl
theorem Gs:H2 Tryz.prog 189=some 24:=by kernel_rfl
theorem Gt:H2 Tryz.prog 190=some 24:=by kernel_rfl
theorem NC:H2 Tryz.prog 191=some 24:=by kernel_rfl
theorem Gu:H2 Tryz.prog 445=some 16:=by kernel_rfl
theorem jN:y9 Tryz.prog 22=some 109:=by kernel_rfl
theorem L1:y9 Tryz.prog 25=some 180:=by kernel_rfl
theorem l7:y9 Tryz.prog 30=some 3:=by kernel_rfl
theorem P9:y9 Tryz.prog 31=some 189:=by kernel_rfl
theorem W5:y9 Tryz.prog 32=some 190:=by kernel_rfl
theorem fQ:y9 Tryz.prog 33=some 191:=by kernel_rfl
theorem eG:y9 Tryz.prog 43=some 101:=by kernel_rfl
theorem lW:y9 Tryz.prog 46=some 183:=by kernel_rfl
theorem lX:y9 Tryz.prog 47=some 185:=by kernel_rfl
theorem lY:y9 Tryz.prog 48=some 187:=by kernel_rfl
theorem jP:y9 Tryz.prog 82=some 30:=by kernel_rfl
theorem bh:y9 Tryz.prog 84=some 66:=by kernel_rfl
theorem eH:y9 Tryz.prog 87=some 69:=by kernel_rfl
theorem gI:y9 Tryz.prog 109=some 110:=by kernel_rfl
theorem af:y9 Tryz.prog 245=some 251:=by kernel_rfl
theorem jO:y9 Tryz.prog 443=some 445:=by kernel_rfl
theorem JP:M9 Tryz.prog 27 0=some (0,25):=by kernel_rfl
theorem JQ:M9 Tryz.prog 35 0=some (0,33):=by kernel_rfl
theorem uV:M9 Tryz.prog 37 1=some (3,30):=by kernel_rfl
theorem Cd:M9 Tryz.prog 37 2=some (4,31):=by kernel_rfl
theorem JR:M9 Tryz.prog 37 3=some (5,32):=by kernel_rfl
theorem Ce:M9 Tryz.prog 37 4=some (6,35):=by kernel_rfl
theorem pQ:M9 Tryz.prog 39 0=some (0,37):=by kernel_rfl
theorem iV:M9 Tryz.prog 45 0=some (0,43):=by kernel_rfl
theorem Cf:M9 Tryz.prog 45 2=some (2,3):=by kernel_rfl
theorem Cg:M9 Tryz.prog 50 0=some (0,48):=by kernel_rfl
theorem Ch:M9 Tryz.prog 52 1=some (3,30):=by kernel_rfl
theorem Ci:M9 Tryz.prog 52 2=some (4,46):=by kernel_rfl
theorem Cj:M9 Tryz.prog 52 3=some (5,47):=by kernel_rfl
theorem Ck:M9 Tryz.prog 52 4=some (6,50):=by kernel_rfl
theorem lZ:M9 Tryz.prog 66 0=some (0,3):=by kernel_rfl
theorem Cm:M9 Tryz.prog 66 1=some (1,40):=by kernel_rfl
theorem Cn:M9 Tryz.prog 96 1=some (1,3):=by kernel_rfl
theorem Co:M9 Tryz.prog 96 2=some (2,3):=by kernel_rfl
theorem Cp:M9 Tryz.prog 96 3=some (3,3):=by kernel_rfl
theorem Cq:M9 Tryz.prog 96 4=some (4,4):=by kernel_rfl
theorem Cr:M9 Tryz.prog 96 5=some (5,30):=by kernel_rfl
theorem xE:M9 Tryz.prog 101 1=some (1,3):=by kernel_rfl
theorem xF:M9 Tryz.prog 101 2=some (2,96):=by kernel_rfl
theorem Ik:M9 Tryz.prog 110 0=some (0,3):=by kernel_rfl
theorem Il:M9 Tryz.prog 150 1=some (1,3):=by kernel_rfl
theorem Im:M9 Tryz.prog 150 2=some (2,3):=by kernel_rfl
theorem xG:M9 Tryz.prog 150 4=some (4,4):=by kernel_rfl
theorem xH:M9 Tryz.prog 180 0=some (0,3):=by kernel_rfl
theorem Io:M9 Tryz.prog 180 2=some (2,150):=by kernel_rfl
theorem xI:M9 Tryz.prog 189 0=some (0,3):=by kernel_rfl
theorem Ip:M9 Tryz.prog 189 1=some (1,4):=by kernel_rfl
theorem Iq:M9 Tryz.prog 190 1=some (1,3):=by kernel_rfl
theorem Ir:M9 Tryz.prog 251 2=some (2,3):=by kernel_rfl
theorem It:M9 Tryz.prog 445 0=some (0,3):=by kernel_rfl
theorem xJ:M9 Tryz.prog 445 1=some (1,3):=by kernel_rfl
theorem QF:Na Tryz.prog 3=some .i64:=by kernel_rfl
theorem RC:A7 Tryz.prog 70:=kC Tryz.func70 J
theorem ND:A7 Tryz.prog 109:=kC Tryz.func109 J
theorem NF:A7 Tryz.prog 123:=kC Tryz.func123 J
theorem NG:A7 Tryz.prog 124:=kC Tryz.func124 J
theorem Gv:A7 Tryz.prog 172:=kC Tryz.func172 J
theorem NH:A7 Tryz.prog 178:=kC Tryz.func178 J
theorem NI:A7 Tryz.prog 303:=kC Tryz.func303 J
theorem NJ:A7 Tryz.prog 310:=kC Tryz.func310 J
theorem NK:A7 Tryz.prog 320:=kC Tryz.func320 J
theorem NL:A7 Tryz.prog 331:=kC Tryz.func331 J
theorem NM:A7 Tryz.prog 332:=kC Tryz.func332 J
theorem NN:A7 Tryz.prog 361:=kC Tryz.func361 J
theorem NO:A7 Tryz.prog 363:=kC Tryz.func363 J
theorem Gw:A7 Tryz.prog 364:=kC Tryz.func364 J
theorem Gx:A7 Tryz.prog 367:=kC Tryz.func367 J
theorem NP:A7 Tryz.prog 387:=kC Tryz.func387 J
theorem Gy:A7 Tryz.prog 388:=kC Tryz.func388 J
theorem Y5:ry Tryz.prog 196=some (3,194):=by kernel_rfl
theorem uW:ry Tryz.prog 222=some (3,3):=by kernel_rfl
theorem R5:ry Tryz.prog 247=some (3,245):=by kernel_rfl
theorem dR:ry Tryz.prog 331=some (3,4):=by kernel_rfl
theorem JS:B4 Tryz.prog 27=some (λi=>(#[(0,1),(1,1)]:Array (Nat × Nat))[i]?):=by kernel_rfl
theorem JT:B4 Tryz.prog 29=some (λi=>(#[(0,2),(2,1)]:Array (Nat × Nat))[i]?):=by kernel_rfl
theorem RD:B4 Tryz.prog 35=some (λi=>(#[(0,1),(1,1)]:Array (Nat × Nat))[i]?):=by kernel_rfl
theorem JU:B4 Tryz.prog 37=some (λi=>(#[(0,3),(3,1),(4,1),(5,1),(6,2)]:Array (Nat × Nat))[i]?):=by kernel_rfl
theorem Eo:B4 Tryz.prog 39=some (λi=>(#[(0,8),(8,1)]:Array (Nat × Nat))[i]?):=by kernel_rfl
theorem RE:B4 Tryz.prog 45=some (λi=>(#[(0,1),(1,1),(2,1)]:Array (Nat × Nat))[i]?):=by kernel_rfl
theorem RF:B4 Tryz.prog 50=some (λi=>(#[(0,1),(1,1)]:Array (Nat × Nat))[i]?):=by kernel_rfl
theorem RG:B4 Tryz.prog 52=some (λi=>(#[(0,3),(3,1),(4,1),(5,1),(6,2)]:Array (Nat × Nat))[i]?):=by kernel_rfl
theorem JV:B4 Tryz.prog 66=some (λi=>(#[(0,1),(1,1)]:Array (Nat × Nat))[i]?):=by kernel_rfl
theorem RH:B4 Tryz.prog 73=some (λi=>some (i*1,1)):=by kernel_rfl
theorem RI:B4 Tryz.prog 96=some (λi=>(#[(0,1),(1,1),(2,1),(3,1),(4,1),(5,1)]:Array (Nat × Nat))[i]?):=by kernel_rfl
theorem NQ:B4 Tryz.prog 101=some (λi=>(#[(0,1),(1,1),(2,6)]:Array (Nat × Nat))[i]?):=by kernel_rfl
theorem ua:B4 Tryz.prog 110=some (λi=>(#[(0,1),(1,1),(2,1),(3,1)]:Array (Nat × Nat))[i]?):=by kernel_rfl
theorem NR:B4 Tryz.prog 132=some (λi=>(#[(0,4)]:Array (Nat × Nat))[i]?):=by kernel_rfl
theorem NS:B4 Tryz.prog 136=some (λi=>(#[]:Array (Nat × Nat))[i]?):=by kernel_rfl
theorem NT:B4 Tryz.prog 140=some (λi=>(#[(0,1)]:Array (Nat × Nat))[i]?):=by kernel_rfl
theorem NU:B4 Tryz.prog 150=some (λi=>(#[(0,1),(1,1),(2,1),(3,1),(4,1),(5,1)]:Array (Nat × Nat))[i]?):=by kernel_rfl
theorem ub:B4 Tryz.prog 180=some (λi=>(#[(0,1),(1,1),(2,6)]:Array (Nat × Nat))[i]?):=by kernel_rfl
theorem NV:B4 Tryz.prog 189=some (λi=>(#[(0,1),(1,1),(2,1)]:Array (Nat × Nat))[i]?):=by kernel_rfl
theorem Gz:B4 Tryz.prog 190=some (λi=>(#[(0,1),(1,1),(2,1)]:Array (Nat × Nat))[i]?):=by kernel_rfl
theorem yO:B4 Tryz.prog 191=some (λi=>(#[(0,1),(1,1),(2,1)]:Array (Nat × Nat))[i]?):=by kernel_rfl
theorem NW:B4 Tryz.prog 200=some (λi=>(#[(0,8),(8,4)]:Array (Nat × Nat))[i]?):=by kernel_rfl
theorem bU:B4 Tryz.prog 251=some (λi=>(#[(0,1),(1,1),(2,1),(3,1)]:Array (Nat × Nat))[i]?):=by kernel_rfl
theorem NX:B4 Tryz.prog 374=some (λi=>(#[(0,1),(1,1),(2,1)]:Array (Nat × Nat))[i]?):=by kernel_rfl
theorem NY:B4 Tryz.prog 382=some (λi=>(#[(0,1)]:Array (Nat × Nat))[i]?):=by kernel_rfl
theorem NZ:B4 Tryz.prog 398=some (λi=>(#[(0,1)]:Array (Nat × Nat))[i]?):=by kernel_rfl
theorem Oa:B4 Tryz.prog 400=some (λi=>(#[(0,1),(1,1)]:Array (Nat × Nat))[i]?):=by kernel_rfl
theorem Ob:B4 Tryz.prog 430=some (λi=>(#[(0,1),(1,1)]:Array (Nat × Nat))[i]?):=by kernel_rfl
theorem GA:B4 Tryz.prog 445=some (λi=>(#[(0,1),(1,1)]:Array (Nat × Nat))[i]?):=by kernel_rfl
theorem RJ:eN Tryz.prog 66=some [1,1]:=by kernel_rfl
theorem RK:eN Tryz.prog 69=some [1,1]:=by kernel_rfl
theorem RL:eN Tryz.prog 73=some [1,1,1,1]:=by kernel_rfl
theorem GB:pw Tryz.prog 132=true:=by kernel_rfl
theorem GC:pw Tryz.prog 136=true:=by kernel_rfl
theorem GD:pw Tryz.prog 140=true:=by kernel_rfl
theorem Oc:eN Tryz.prog 183=some [1,0,1]:=by kernel_rfl
theorem Od:eN Tryz.prog 185=some [1,1,1]:=by kernel_rfl
theorem Oe:eN Tryz.prog 187=some [1,1,1]:=by kernel_rfl
theorem JW:FW Tryz.prog 73=some (4,3):=by kernel_rfl
theorem r8:o9 Tryz.prog 3=some 1:=by kernel_rfl
theorem UH:o9 Tryz.prog 4=some 1:=by kernel_rfl
theorem bV:o9 Tryz.prog 27=some 2:=by kernel_rfl
theorem jQ:o9 Tryz.prog 29=some 3:=by kernel_rfl
theorem jR:o9 Tryz.prog 30=some 1:=by kernel_rfl
theorem JX:o9 Tryz.prog 33=some 1:=by kernel_rfl
theorem bW:o9 Tryz.prog 35=some 2:=by kernel_rfl
theorem o5:o9 Tryz.prog 37=some 8:=by kernel_rfl
theorem U4:o9 Tryz.prog 39=some 9:=by kernel_rfl
theorem RM:o9 Tryz.prog 45=some 3:=by kernel_rfl
theorem Ep:o9 Tryz.prog 50=some 2:=by kernel_rfl
theorem JY:o9 Tryz.prog 52=some 8:=by kernel_rfl
theorem J7:o9 Tryz.prog 66=some 2:=by kernel_rfl
theorem jS:o9 Tryz.prog 69=some 2:=by kernel_rfl
theorem JZ:o9 Tryz.prog 73=some 4:=by kernel_rfl
theorem Es:o9 Tryz.prog 96=some 6:=by kernel_rfl
theorem fk:o9 Tryz.prog 101=some 8:=by kernel_rfl
theorem uc:o9 Tryz.prog 109=some 1:=by kernel_rfl
theorem gJ:o9 Tryz.prog 110=some 4:=by kernel_rfl
theorem Of:o9 Tryz.prog 136=some 0:=by kernel_rfl
theorem gK:o9 Tryz.prog 150=some 6:=by kernel_rfl
theorem O6:o9 Tryz.prog 180=some 8:=by kernel_rfl
theorem pR:o9 Tryz.prog 183=some 3:=by kernel_rfl
theorem pS:o9 Tryz.prog 185=some 3:=by kernel_rfl
theorem pT:o9 Tryz.prog 187=some 3:=by kernel_rfl
theorem U3:o9 Tryz.prog 189=some 3:=by kernel_rfl
theorem ah:o9 Tryz.prog 190=some 3:=by kernel_rfl
theorem I7:o9 Tryz.prog 191=some 3:=by kernel_rfl
theorem I8:o9 Tryz.prog 251=some 4:=by kernel_rfl
theorem gL:o9 Tryz.prog 430=some 2:=by kernel_rfl
theorem pU:o9 Tryz.prog 445=some 2:=by kernel_rfl
theorem J8:Tryz.prog.underlying 3=some (.int .i64):=by kernel_rfl
theorem UI:Tryz.prog.underlying 4=some (.bool):=by kernel_rfl
theorem QG:Tryz.prog.underlying 5=some (.int .u8):=by kernel_rfl
theorem D5:x4 Tryz.prog 3=some ((.I 0)):=by kernel_rfl
theorem Cs:x4 Tryz.prog 4=some ((.bool false)):=by kernel_rfl
theorem Ka:x4 Tryz.prog 27=some ((.agg #[(.slice none 0 0),(.I 0)])):=by kernel_rfl
theorem Kb:x4 Tryz.prog 29=some ((.agg #[(.slice none 0 0),(.I 0),(.I 0)])):=by kernel_rfl
theorem Et:x4 Tryz.prog 30=some ((.slice none 0 0)):=by kernel_rfl
theorem RN:x4 Tryz.prog 35=some ((.agg #[(.slice none 0 0),(.I 0)])):=by kernel_rfl
theorem Kc:x4 Tryz.prog 37=some ((.agg #[(.slice none 0 0),(.I 0),(.I 0),(.slice none 0 0),(.slice none 0 0),(.slice none 0 0),(.slice none 0 0),(.I 0)])):=by kernel_rfl
theorem Eu:x4 Tryz.prog 39=some ((.agg #[(.slice none 0 0),(.I 0),(.I 0),(.slice none 0 0),(.slice none 0 0),(.slice none 0 0),(.slice none 0 0),(.I 0),(.slice none 0 0)])):=by kernel_rfl
theorem RO:x4 Tryz.prog 45=some ((.agg #[(.slice none 0 0),(.I 0),(.I 0)])):=by kernel_rfl
theorem RP:x4 Tryz.prog 50=some ((.agg #[(.slice none 0 0),(.I 0)])):=by kernel_rfl
theorem RQ:x4 Tryz.prog 52=some ((.agg #[(.slice none 0 0),(.I 0),(.I 0),(.slice none 0 0),(.slice none 0 0),(.slice none 0 0),(.slice none 0 0),(.I 0)])):=by kernel_rfl
theorem yR:x4 Tryz.prog 66=some ((.agg #[(.I 0),(.I 0)])):=by kernel_rfl
theorem uX:x4 Tryz.prog 69=some ((.agg #[(.I 0),(.I 0)])):=by kernel_rfl
theorem RR:x4 Tryz.prog 73=some ((.agg #[(.I 0),(.I 0),(.I 0),(.I 0)])):=by kernel_rfl
theorem RS:x4 Tryz.prog 96=some ((.agg #[(.I 0),(.I 0),(.I 0),(.I 0),(.bool false),(.slice none 0 0)])):=by kernel_rfl
theorem yP:x4 Tryz.prog 101=some ((.agg #[(.I 0),(.I 0),(.I 0),(.I 0),(.I 0),(.I 0),(.bool false),(.slice none 0 0)])):=by kernel_rfl
theorem Og:x4 Tryz.prog 109=some ((.slice none 0 0)):=by kernel_rfl
theorem pV:x4 Tryz.prog 110=some ((.agg #[(.I 0),(.I 0),(.I 0),(.I 0)])):=by kernel_rfl
theorem GF:x4 Tryz.prog 132=some ((.agg #[(.I 0),(.I 0),(.I 0),(.I 0)])):=by kernel_rfl
theorem GG:x4 Tryz.prog 136=some ((.agg #[])):=by kernel_rfl
theorem GH:x4 Tryz.prog 140=some ((.agg #[(.I 0)])):=by kernel_rfl
theorem Oi:x4 Tryz.prog 150=some ((.agg #[(.I 0),(.I 0),(.I 0),(.I 0),(.bool false),(.slice none 0 0)])):=by kernel_rfl
theorem np:x4 Tryz.prog 180=some ((.agg #[(.I 0),(.I 0),(.I 0),(.I 0),(.I 0),(.I 0),(.bool false),(.slice none 0 0)])):=by kernel_rfl
theorem GI:x4 Tryz.prog 183=some ((.agg #[(.I 0),(.bool false),(.I 0)])):=by kernel_rfl
theorem GJ:x4 Tryz.prog 185=some ((.agg #[(.I 0),(.I 0),(.I 0)])):=by kernel_rfl
theorem GK:x4 Tryz.prog 187=some ((.agg #[(.I 0),(.I 0),(.I 0)])):=by kernel_rfl
theorem yQ:x4 Tryz.prog 189=some ((.agg #[(.I 0),(.bool false),(.I 0)])):=by kernel_rfl
theorem ud:x4 Tryz.prog 190=some ((.agg #[(.I 0),(.I 0),(.I 0)])):=by kernel_rfl
theorem pW:x4 Tryz.prog 191=some ((.agg #[(.I 0),(.I 0),(.I 0)])):=by kernel_rfl
theorem Oj:x4 Tryz.prog 194=some (.nilFunc):=by kernel_rfl
theorem Ol:x4 Tryz.prog 200=some ((.agg #[(.slice none 0 0),(.I 0),(.I 0),(.slice none 0 0),(.slice none 0 0),(.slice none 0 0),(.slice none 0 0),(.I 0),(.I 0),(.I 0),(.I 0),(.I 0)])):=by kernel_rfl
theorem Om:x4 Tryz.prog 245=some ((.slice none 0 0)):=by kernel_rfl
theorem H8:x4 Tryz.prog 251=some ((.agg #[.nilFunc,(.I 0),(.I 0),(.I 0)])):=by kernel_rfl
theorem On:x4 Tryz.prog 374=some ((.agg #[(.I 0),(.I 0),(.I 0)])):=by kernel_rfl
theorem Oo:x4 Tryz.prog 382=some ((.agg #[(.slice none 0 0)])):=by kernel_rfl
theorem Oq:x4 Tryz.prog 398=some ((.agg #[.nilFunc])):=by kernel_rfl
theorem Ot:x4 Tryz.prog 400=some ((.agg #[(.I 0),(.I 0)])):=by kernel_rfl
theorem Ou:x4 Tryz.prog 430=some ((.agg #[(.slice none 0 0),(.I 0)])):=by kernel_rfl
theorem nq:x4 Tryz.prog 445=some ((.agg #[(.I 0),(.I 0)])):=by kernel_rfl
theorem w9:Tryz.prog.follows .mixedOrders=true:=by kernel_rfl
def tb:TB:=⟨[((27,0),(0,25)),((27,1),(1,3)),((29,0),(0,27)),((29,1),(2,3)),((35,0),(0,33)),((35,1),(1,3)),((37,0),(0,29)),((37,1),(3,30)),((37,2),(4,31)),((37,3),(5,32)),((37,4),(6,35)),((39,0),(0,37)),((39,1),(8,22)),((45,0),(0,43)),((45,1),(1,3)),((50,0),(0,48)),((50,1),(1,3)),((52,0),(0,45)),((66,0),(0,3)),((66,1),(1,40)),((96,0),(0,3)),((101,0),(0,3)),((110,0),(0,3)),((110,1),(1,3)),((110,2),(2,3)),((110,3),(3,3)),((132,0),(0,110)),((140,0),(0,3)),((150,0),(0,3)),((150,1),(1,3)),((150,2),(2,3)),((150,3),(3,3)),((150,4),(4,4)),((150,5),(5,30)),((180,0),(0,3)),((180,1),(1,3)),((180,2),(2,150)),((189,0),(0,3)),((189,1),(1,4)),((189,2),(2,3)),((190,0),(0,3)),((190,1),(1,3)),((190,2),(2,3)),((191,0),(0,3)),((191,1),(1,3)),((191,2),(2,3)),((200,0),(0,37)),((200,1),(8,110)),((251,0),(0,249)),((251,1),(1,3)),((251,3),(3,40)),((374,0),(0,3)),((374,1),(1,3)),((374,2),(2,3)),((382,0),(0,32)),((398,0),(0,396)),((400,0),(0,3)),((400,1),(1,3)),((430,0),(0,30)),((430,1),(1,3)),((445,0),(0,3)),((445,1),(1,3))],[(3,false),(4,false),(22,false),(25,false),(27,true),(29,true),(30,false),(31,false),(32,false),(33,false),(35,true),(37,true),(39,true),(40,false),(43,false),(45,true),(48,false),(66,true),(69,true),(73,true),(109,false),(110,true),(150,true),(180,true),(183,true),(185,true),(187,true),(189,true),(190,true),(191,true),(200,true),(222,false),(249,false),(251,true),(331,false),(396,false),(398,true),(430,true),(443,false),(445,true),(453,false)],[(3,1),(4,1),(25,1),(27,2),(29,3),(30,1),(31,1),(32,1),(35,2),(37,8),(39,9),(40,1),(45,3),(50,2),(66,2),(69,2),(73,4),(96,6),(110,4),(132,4),(140,1),(150,6),(180,8),(183,3),(185,3),(187,3),(189,3),(190,3),(191,3),(200,12),(222,1),(251,4),(331,1),(398,1),(430,2),(443,1),(445,2)],[(3,.I 0),(4,.bool false),(27,.agg [.lst true (List.map b7.Pv []),.I 0]),(29,.agg [.lst true (List.map b7.Pv []),.I 0,.I 0]),(30,.lst true (List.map iF [])),(32,.lst true (List.map b8.Pv [])),(35,.agg [.lst true (List.map g9.Pv []),.I 0]),(37,.agg [.lst true (List.map b7.Pv []),.I 0,.I 0,.lst true (List.map iF []),.lst true (List.map c7.Pv []),.lst true (List.map b8.Pv []),.lst true (List.map g9.Pv []),.I 0]),(39,.agg [.lst true (List.map b7.Pv []),.I 0,.I 0,.lst true (List.map iF []),.lst true (List.map c7.Pv []),.lst true (List.map b8.Pv []),.lst true (List.map g9.Pv []),.I 0,.lst true (List.map (Ls c9.Pv) [])]),(40,.I 0),(45,.agg [.lst true (List.map o6.Pv []),.I 0,.I 0]),(50,.agg [.lst true (List.map u5.Pv []),.I 0]),(52,.agg [.lst true (List.map o6.Pv []),.I 0,.I 0,.lst true (List.map iF []),.lst true (List.map o7.Pv []),.lst true (List.map l6.Pv []),.lst true (List.map u5.Pv []),.I 0]),(66,.agg [.I 0,.I 0]),(73,.agg [.I 0,.I 0,.I 0,.I 0]),(96,.agg [.I 0,.I 0,.I 0,.I 0,.bool false,.lst true (List.map iF [])]),(110,.agg [.I 0,.I 0,.I 0,.I 0]),(132,.agg [.I 0,.I 0,.I 0,.I 0]),(136,.agg []),(140,.agg [.I 0]),(150,.agg [.I 0,.I 0,.I 0,.I 0,.bool false,.lst true (List.map iF [])]),(180,.agg [.I 0,.I 0,.I 0,.I 0,.I 0,.I 0,.bool false,.lst true (List.map iF [])]),(189,.agg [.I 0,.bool false,.I 0]),(190,.agg [.I 0,.I 0,.I 0]),(191,.agg [.I 0,.I 0,.I 0]),(222,.abs Ei),(251,.agg [.nilfn,.I 0,.I 0,.I 0]),(331,.abs Ei),(398,.agg [.nilfn]),(430,.agg [.lst true (List.map iF []),.I 0]),(443,.lst true (List.map m9.Pv [])),(445,.agg [.I 0,.I 0])]⟩
theorem Tb:TB.Ok Tryz.prog tb:=⟨by kernel_rfl,by kernel_rfl,by kernel_rfl,by kernel_rfl⟩
section
variable{X:Ctx}{ops:Array Oper}{K:Ctx->St->Prop}{i n:Nat}{l l':List Oper}{env env':Nat->PV}{σ σ':Nat->Option Row}{Q:PX->Ctx->St->Prop}{y:Code}{KD:St->Prop}{bar:List Nat}
theorem S1(n:Nat)(h:run tb n l env σ=some (l',env',σ'))(k:Sq X ops (i+n) l' K ⟨env',σ'⟩)(hb:TB.Ok X.P tb:=by exact Tb):Sq X ops i l K ⟨env,σ⟩:=Ub hb n h k
theorem S2(n:Nat)(h:run tb n l env σ=some ([],env',σ'))(k:K X ⟨env',σ'⟩)(hb:TB.Ok X.P tb:=by exact Tb):Sq X ops i l K ⟨env,σ⟩:=Ub hb n h (yN k)
theorem S3{id:Nat}(n:Nat)(h:run tb n l env σ=some (l',env',σ'))(k:Sq X l.toArray (0+n) l' (λX' s=>U0 X' y Q s) ⟨env',σ'⟩)(hd:dU X.N l.toArray=true:=by kernel_rfl)(hb:TB.Ok X.P tb:=by exact Tb):U0 X (.seq (.region id l.toArray false) y) Q ⟨env,σ⟩:=sr hd (Ub hb n h k)
theorem S4{id:Nat}(n:Nat)(h:run tb n l env σ=some ([],env',σ'))(k:U0 X y Q ⟨env',σ'⟩)(hd:dU X.N l.toArray=true:=by kernel_rfl)(hb:TB.Ok X.P tb:=by exact Tb):U0 X (.seq (.region id l.toArray false) y) Q ⟨env,σ⟩:=sr hd (Ub hb n h (yN k))
theorem S5{id:Nat}(n:Nat)(h:run tb n l env σ=some (l',env',σ'))(k:Sq X l.toArray (0+n) l' (Q .normal) ⟨env',σ'⟩)(hd:dU X.N l.toArray=true:=by kernel_rfl)(hb:TB.Ok X.P tb:=by exact Tb):U0 X (.region id l.toArray false) Q ⟨env,σ⟩:=Ro hd (Ub hb n h k)
theorem S6{id:Nat}(n:Nat)(h:run tb n l env σ=some ([],env',σ'))(k:Q .normal X ⟨env',σ'⟩)(hd:dU X.N l.toArray=true:=by kernel_rfl)(hb:TB.Ok X.P tb:=by exact Tb):U0 X (.region id l.toArray false) Q ⟨env,σ⟩:=Ro hd (Ub hb n h (yN k))
theorem S7(n:Nat)(h:PY tb bar n i l env σ=some (l',env',σ'))(k:Ex X.P ops bar true (i+n) l' ⟨env',σ'⟩ KD)(hb:TB.Ok X.P tb:=by exact Tb):Ex X.P ops bar true i l ⟨env,σ⟩ KD:=dG hb n h k
theorem S8(n:Nat)(h:PY tb bar n i l env σ=some ([],env',σ'))(k:KD ⟨env',σ'⟩)(hb:TB.Ok X.P tb:=by exact Tb):Ex X.P ops bar true i l ⟨env,σ⟩ KD:=dG hb n h k
end
theorem Ue:yM Tryz.prog (Tryz.sortF_ren.f 6):=Jv Tryz.sortF
theorem Qi:tY Tryz.prog (Tryz.sortI_ren.f 5):=FU Tryz.sortI
theorem DW{a0}:PO Tryz.prog 10 [.L (Ls c9.Pv) a0] (nk a0) λr=>.bool r:=by
 refine pO Tryz.func10 λr h _ _=>?_;refine S4 1 J ?_;refine jq h (λ_=>St.of [(0,.L (Ls c9.Pv) a0)] []) (λq6 h=>?_) λκ5 h=>?_
 .refine S3 1 J ?_;refine nL J jN<|S2 2 J<|b9 ?_;cases h;exact f1
 .refine S4 1 J ?_;refine g8<|lq h (λs8=>St.of [(0,.L (Ls c9.Pv) a0),(3,.I s8)] []) W λs8 x9 h hx8=>g7<|S3 2 J<|nL J jN<|S1 2 J<|l5 J (λhg=>mI J)<|l5 J (λhg=>B5 (ct hg) J J)<|y0 J (B0 J J J (λq=>fW q))<|yN ?_;refine cN h (λhc h=>?_) λhc h=>?_
  .refine c8 ?_;refine g7<|g8<|S3 2 J<|iL h J J jN uc λv10 _ h=>S1 1 J<|nL J gI<|S2 1 J ?_;refine cN h (λhc h=>?_) λhc h=>?_
   .refine S4 1 J ?_;refine b9 ?_;have h:=xL hx8 h;cases h;exact f1
   .refine c8 ?_;refine S6 3 J ?_;exact eL h W
  .refine r7 ?_;refine e6<|e6<|m7 ?_;have h:=xL hx8 h;exact eJ h W
theorem rE{a0 a1}:PO Tryz.prog 31 [.L (Ls iF) a0,.I a1] (T9 a0 a1) λr=>.bool r:=by
 refine pO Tryz.func31 λr h _ _=>?_;refine S4 1 J ?_;refine jq h (λ_=>St.of [(0,.L (Ls iF) a0),(1,.I a1)] []) (λq6 h=>?_) λκ5 h=>?_
 .refine S3 1 J ?_;refine nL J jP<|S2 3 J<|b9 ?_;cases h;exact f1
 .refine S4 1 J ?_;refine g8<|lq h (λs8=>St.of [(0,.L (Ls iF) a0),(1,.I a1),(5,.I s8)] []) W λs8 x9 h hx8=>g7<|S3 2 J<|nL J jP<|S1 2 J<|l5 J (λhg=>mI J)<|l5 J (λhg=>B5 (ct hg) J J)<|y0 J (B0 J J J (λq=>fW q))<|yN ?_;refine cN h (λhc h=>?_) λhc h=>?_
  .refine c8 ?_;refine g7<|g8<|S3 2 J<|iL h J J jP jR λv10 _ h=>S1 1 J<|nL J l7<|S2 1 J ?_;refine cN h (λhc h=>?_) λhc h=>?_
   .refine S4 1 J ?_;refine b9 ?_;have h:=xL hx8 h;cases h;exact f1
   .refine c8 ?_;refine S6 3 J ?_;exact eL h W
  .refine r7 ?_;refine e6<|e6<|m7 ?_;have h:=xL hx8 h;exact eJ h W
theorem xk{a0}:PO Tryz.prog 88 [c9.Pv a0] (db a0) λr=>.bool r:=by
 refine pO Tryz.func88 λr h _ _=>?_;unfold db at h;refine S4 2 J<|S3 4 J<|l5 J (λhg=>oF J Ik J)<|l5 J (λhg=>oS (ct hg) J J F1 J)<|l5 J (λhg=>B5 (ct hg) J J)<|y0 J (B0 J J J (λq=>fW q))<|S2 1 J<|b9 ?_;cases h;exact f1
theorem y7:PO Tryz.prog 232 [.fn (.func 233) []] (W9) λr=>g5.Pv r:=by
 refine pO Tryz.func232 λr h _ _=>?_;unfold W9 at h;refine S4 1 J<|S3 1 J<|y0 J (s7 (cs:=[.fn (.func 233) [],.I 0,.I 5,.I 6]) J bU H8 J J J)<|Q9 (lK 4 (d':=.agg [ql (some 233),.I 0,.I 5,.I 6]) J)<|S2 1 J<|b9 ?_;cases h;exact⟨J,[_],⟨oL J J J fi I8 nl J,tr⟩,J,io⟩
theorem X8:PO Tryz.prog 235 [.fn (.func 236) []] (Q1) λr=>g5.Pv r:=by
 refine pO Tryz.func235 λr h _ _=>?_;unfold Q1 at h;refine S4 1 J<|S3 1 J<|y0 J (s7 (cs:=[.fn (.func 236) [],.I (-1),.I 5,.I 13]) J bU H8 J J J)<|Q9 (lK 4 (d':=.agg [ql (some 236),.I (-1),.I 5,.I 13]) J)<|S2 1 J<|b9 ?_;cases h;exact⟨J,[_],⟨oL J J J fi I8 nl J,tr⟩,J,io⟩
theorem D0{a0}:PO Tryz.prog 231 [.L g5.Pv a0] (H5 a0) λr=>.L g5.Pv r:=by
 refine pO Tryz.func231 λr h _ _=>?_;unfold H5 at h;refine S4 1 J<|S4 2 J<|b9 ?_;cases h;exact f1
theorem J1:PO Tryz.prog 232 [.fn (.func 234) []] (X0) λr=>g5.Pv r:=by
 refine pO Tryz.func232 λr h _ _=>?_;unfold X0 at h;refine S4 1 J<|S3 1 J<|y0 J (s7 (cs:=[.fn (.func 234) [],.I 0,.I 5,.I 6]) J bU H8 J J J)<|Q9 (lK 4 (d':=.agg [ql (some 234),.I 0,.I 5,.I 6]) J)<|S2 1 J<|b9 ?_;cases h;exact⟨J,[_],⟨oL J J J fi I8 nl J,tr⟩,J,io⟩
theorem gE:PO Tryz.prog 237 [.fn (.func 236) []] (U6) λr=>g5.Pv r:=by
 refine pO Tryz.func237 λr h _ _=>?_;unfold U6 at h;refine S4 1 J<|S3 1 J<|y0 J (s7 (cs:=[.fn (.func 236) [],.I 0,.I 3,.I 5]) J bU H8 J J J)<|Q9 (lK 4 (d':=.agg [ql (some 236),.I 0,.I 3,.I 5]) J)<|S2 1 J<|b9 ?_;cases h;exact⟨J,[_],⟨oL J J J fi I8 nl J,tr⟩,J,io⟩
theorem gD:PO Tryz.prog 237 [.fn (.func 234) []] (U5) λr=>g5.Pv r:=by
 refine pO Tryz.func237 λr h _ _=>?_;unfold U5 at h;refine S4 1 J<|S3 1 J<|y0 J (s7 (cs:=[.fn (.func 234) [],.I 0,.I 3,.I 5]) J bU H8 J J J)<|Q9 (lK 4 (d':=.agg [ql (some 234),.I 0,.I 3,.I 5]) J)<|S2 1 J<|b9 ?_;cases h;exact⟨J,[_],⟨oL J J J fi I8 nl J,tr⟩,J,io⟩
theorem dc:PO Tryz.prog 238 [.fn (.func 236) []] (L9) λr=>g5.Pv r:=by
 refine pO Tryz.func238 λr h _ _=>?_;unfold L9 at h;refine S4 1 J<|S3 1 J<|y0 J (s7 (cs:=[.fn (.func 236) [],.I (-1),.I 5,.I 6]) J bU H8 J J J)<|Q9 (lK 4 (d':=.agg [ql (some 236),.I (-1),.I 5,.I 6]) J)<|S2 1 J<|b9 ?_;cases h;exact⟨J,[_],⟨oL J J J fi I8 nl J,tr⟩,J,io⟩
theorem iE:PO Tryz.prog 239 [.fn (.func 233) []] (W7) λr=>g5.Pv r:=by
 refine pO Tryz.func239 λr h _ _=>?_;unfold W7 at h;refine S4 1 J<|S3 1 J<|y0 J (s7 (cs:=[.fn (.func 233) [],.I 0,.I 5,.I 7]) J bU H8 J J J)<|Q9 (lK 4 (d':=.agg [ql (some 233),.I 0,.I 5,.I 7]) J)<|S2 1 J<|b9 ?_;cases h;exact⟨J,[_],⟨oL J J J fi I8 nl J,tr⟩,J,io⟩
theorem R6:PO Tryz.prog 238 [.fn (.func 234) []] (L8) λr=>g5.Pv r:=by
 refine pO Tryz.func238 λr h _ _=>?_;unfold L8 at h;refine S4 1 J<|S3 1 J<|y0 J (s7 (cs:=[.fn (.func 234) [],.I (-1),.I 5,.I 6]) J bU H8 J J J)<|Q9 (lK 4 (d':=.agg [ql (some 234),.I (-1),.I 5,.I 6]) J)<|S2 1 J<|b9 ?_;cases h;exact⟨J,[_],⟨oL J J J fi I8 nl J,tr⟩,J,io⟩
theorem iG:PO Tryz.prog 239 [.fn (.func 234) []] (W8) λr=>g5.Pv r:=by
 refine pO Tryz.func239 λr h _ _=>?_;unfold W8 at h;refine S4 1 J<|S3 1 J<|y0 J (s7 (cs:=[.fn (.func 234) [],.I 0,.I 5,.I 7]) J bU H8 J J J)<|Q9 (lK 4 (d':=.agg [ql (some 234),.I 0,.I 5,.I 7]) J)<|S2 1 J<|b9 ?_;cases h;exact⟨J,[_],⟨oL J J J fi I8 nl J,tr⟩,J,io⟩
theorem tJ:PO Tryz.prog 147 [] (jZ) λr=>.abs (U9 (List.map (fV iF (Ls g5.Pv)) r)):=by
 refine pO Tryz.func147 λr h _ _=>?_;refine S4 1 J<|sR<|Ed (KT:=Int) (VT:=List g5) (EK:=iF) (E:=(Ls g5.Pv)) 5000001 J J<|cF h y7 J J λv1 hv1 h=>y0 J (s7 (cs:=[.fn (.func 234) [],.I 0,.I 4,.I 1]) J bU H8 J J J)<|Q9 (lK 3 (d':=.agg [ql (some 234),.I 0,.I 4,.I 1]) J)<|cF h X8 J J λv2 hv2 h=>y0 J (N2 (f:=g5.Pv) (l:=[v1,(⟨(some 234),0,4,1⟩:g5),v2]) J af I8 H8 J J nl J J)<|cF h D0 J J λv3 _ h=>aM (es:=[]) (k:=1) (v:=v3) (E:=(Ls g5.Pv)) (EK:=iF) (.inr J) J J J J J J R5 (y8 J8)<|yc J (A3 J y7 J hv1)<|cF h J1 J J λv4 hv4 h=>y0 J (N2 (f:=g5.Pv) (l:=[v1,v4]) J af I8 H8 J J nl J J)<|cF h D0 J J λv5 hv5 h=>aM (es:=(o8 [] 1 v3)) (k:=2) (v:=v5) (E:=(Ls g5.Pv)) (EK:=iF) (.inr J) J J J J J J R5 (y8 J8)<|yc J (A3 J y7 J hv1)<|y0 J (N2 (f:=g5.Pv) (l:=[v1]) J af I8 H8 J J nl J J)<|cF h D0 J J λv6 _ h=>aM (es:=(o8 (o8 [] 1 v3) 2 v5)) (k:=3) (v:=v6) (E:=(Ls g5.Pv)) (EK:=iF) (.inr J) J J J J J J R5 (y8 J8)<|yc J (A3 J y7 J hv1)<|yc J (A3 J J1 J hv4)<|cF h gE J J λv7 _ h=>y0 J (N2 (f:=g5.Pv) (l:=[v1,v4,v7]) J af I8 H8 J J nl J J)<|cF h D0 J J λv8 _ h=>aM (es:=(o8 (o8 (o8 [] 1 v3) 2 v5) 3 v6)) (k:=4) (v:=v8) (E:=(Ls g5.Pv)) (EK:=iF) (.inr J) J J J J J J R5 (y8 J8)<|yc J (A3 J y7 J hv1)<|cF h gD J J λv9 _ h=>cF h dc J J λv10 _ h=>y0 J (N2 (f:=g5.Pv) (l:=[v1,v9,v10]) J af I8 H8 J J nl J J)<|cF h D0 J J λv11 _ h=>?_;refine aM (es:=(o8 (o8 (o8 (o8 [] 1 v3) 2 v5) 3 v6) 4 v8)) (k:=5) (v:=v11) (E:=(Ls g5.Pv)) (EK:=iF) (.inr J) J J J J J J R5 (y8 J8)<|cF h iE J J λv12 _ h=>cF h R6 J J λv13 hv13 h=>yc J (A3 J X8 J hv2)<|y0 J (N2 (f:=g5.Pv) (l:=[v12,v13,v2]) J af I8 H8 J J nl J J)<|cF h D0 J J λv14 _ h=>aM (es:=(o8 (o8 (o8 (o8 (o8 [] 1 v3) 2 v5) 3 v6) 4 v8) 5 v11)) (k:=6) (v:=v14) (E:=(Ls g5.Pv)) (EK:=iF) (.inr J) J J J J J J R5 (y8 J8)<|yc J (A3 J y7 J hv1)<|cF h iG J J λv15 _ h=>y0 J (N2 (f:=g5.Pv) (l:=[v1,v15]) J af I8 H8 J J nl J J)<|cF h D0 J J λv16 _ h=>aM (es:=(o8 (o8 (o8 (o8 (o8 (o8 [] 1 v3) 2 v5) 3 v6) 4 v8) 5 v11) 6 v14)) (k:=7) (v:=v16) (E:=(Ls g5.Pv)) (EK:=iF) (.inr J) J J J J J J R5 (y8 J8)<|yc J (A3 J y7 J hv1)<|yc J (A3 J R6 J hv13)<|y0 J (N2 (f:=g5.Pv) (l:=[v1,v13]) J af I8 H8 J J nl J J)<|cF h D0 J J λv17 _ h=>aM (es:=(o8 (o8 (o8 (o8 (o8 (o8 (o8 [] 1 v3) 2 v5) 3 v6) 4 v8) 5 v11) 6 v14) 7 v16)) (k:=8) (v:=v17) (E:=(Ls g5.Pv)) (EK:=iF) (.inr J) J J J J J J R5 (y8 J8)<|yc J (A3 J y7 J hv1)<|yc J (A3 J J1 J hv4)<|y0 J (N2 (f:=g5.Pv) (l:=[v1,v4]) J af I8 H8 J J nl J J)<|yc J (A3 J D0 J hv5)<|aM (es:=(o8 (o8 (o8 (o8 (o8 (o8 (o8 (o8 [] 1 v3) 2 v5) 3 v6) 4 v8) 5 v11) 6 v14) 7 v16) 8 v17)) (k:=9) (v:=v5) (E:=(Ls g5.Pv)) (EK:=iF) (.inr J) J J J J J J R5 (y8 J8)<|yc J (A3 J y7 J hv1)<|yc J (A3 J J1 J hv4)<|y0 J (N2 (f:=g5.Pv) (l:=[v1,v4]) J af I8 H8 J J nl J J)<|yc J (A3 J D0 J hv5)<|aM (es:=(o8 (o8 (o8 (o8 (o8 (o8 (o8 (o8 (o8 [] 1 v3) 2 v5) 3 v6) 4 v8) 5 v11) 6 v14) 7 v16) 8 v17) 9 v5)) (k:=10) (v:=v5) (E:=(Ls g5.Pv)) (EK:=iF) (.inr J) J J J J J J R5 (y8 J8)<|cF h D0 J J λv18 _ h=>aM (es:=(o8 (o8 (o8 (o8 (o8 (o8 (o8 (o8 (o8 (o8 [] 1 v3) 2 v5) 3 v6) 4 v8) 5 v11) 6 v14) 7 v16) 8 v17) 9 v5) 10 v5)) (k:=11) (v:=v18) (E:=(Ls g5.Pv)) (EK:=iF) (.inr J) J J J J J J R5 (y8 J8)<|y0 J (s7 (cs:=[.fn (.func 233) [],.I 0,.I 200,.I 12]) J bU H8 J J J) ?_;refine Q9 (lK 46 (d':=.agg [ql (some 233),.I 0,.I 200,.I 12]) J)<|y0 J (N2 (f:=g5.Pv) (l:=[(⟨(some 233),0,200,12⟩:g5)]) J af I8 H8 J J nl J J)<|cF h D0 J J λv19 _ h=>aM (es:=(o8 (o8 (o8 (o8 (o8 (o8 (o8 (o8 (o8 (o8 (o8 [] 1 v3) 2 v5) 3 v6) 4 v8) 5 v11) 6 v14) 7 v16) 8 v17) 9 v5) 10 v5) 11 v18)) (k:=12) (v:=v19) (E:=(Ls g5.Pv)) (EK:=iF) (.inr J) J J J J J J R5 (y8 J8)<|S2 2 J<|cX (Gj 0 5000001 J J)<|b9 ?_;cases h;exact f1
theorem oH{a0}:PO Tryz.prog 233 [c9.Pv a0] (pe a0) λr=>.I r:=by
 refine pO Tryz.func233 λr h _ _=>?_;unfold pe at h;refine S4 2 J<|S4 3 J<|b9 ?_;cases h;exact f1
theorem oI{a0}:PO Tryz.prog 234 [c9.Pv a0] (pf a0) λr=>.I r:=by
 refine pO Tryz.func234 λr h _ _=>?_;unfold pf at h;refine S4 2 J<|S4 3 J<|b9 ?_;cases h;exact f1
theorem oJ{a0}:PO Tryz.prog 236 [c9.Pv a0] (pg a0) λr=>.I r:=by
 refine pO Tryz.func236 λr h _ _=>?_;unfold pg at h;refine S4 2 J<|S4 3 J<|b9 ?_;cases h;exact f1
theorem EP{f:Fv}{a0:c9}{r:Int}(h:qm f a0=some r):∃n,f=some n/\A7 Tryz.prog n/\W4 Tryz.prog n [c9.Pv a0] (.I r):=by
 unfold qm at h;by_cases e233:f=some 233
 .rw[zb e233] at h;exact⟨233,e233,(@oH a0).1,(@oH a0).2 _ h⟩
 rw[za e233] at h;by_cases e234:f=some 234
 .rw[zb e234] at h;exact⟨234,e234,(@oI a0).1,(@oI a0).2 _ h⟩
 rw[za e234] at h;by_cases e236:f=some 236
 .rw[zb e236] at h;exact⟨236,e236,(@oJ a0).1,(@oJ a0).2 _ h⟩
 rw[za e236] at h;cases h
theorem iD{a0}:PO Tryz.prog 89 [c9.Pv a0] (Q0 a0) λr=>.I r:=by
 refine pO Tryz.func89 λr h _ _=>?_;unfold Q0 at h;refine S4 2 J<|dr [] w9 (by kernel_rfl) (by kernel_rfl)<|A5 h λv1 hv1 h=>iS J (A3 J tJ J hv1) J<|S7 2 J<|d4 J (Db (es:=v1) (k:=a0.Kind) (E:=(Ls g5.Pv)) (EK:=iF) (d:=.tup [.L g5.Pv ((A6 v1 a0.Kind).getD ([]:List g5)),.bool ((A6 v1 a0.Kind).isSome)]) J J R5 (y8 J8) Om J (Xn _ _ ([]:List g5))) J<|S8 5 J<|g7<|S4 2 J ?_;refine cN h (λhc h=>?_) λhc h=>?_
 .refine S4 1 J ?_;refine b9 ?_;cases h;exact f1
 .refine c8 ?_;refine jq h (λ_=>St.of [] []) (λq9 h=>?_) λκ8 h=>?_
  .refine S4 1 J ?_;refine b9 ?_;cases h;exact f1
  .refine S3 1 J ?_;refine nL J af<|S2 1 J<|g8<|lq h (λs11=>St.of [(1,.ptr 1 0 0),(17,.L g5.Pv ((A6 v1 a0.Kind).getD ([]:List g5))),(18,.I (((A6 v1 a0.Kind).getD ([]:List g5)).length:Int)),(19,.I s11)] [(1,vR (c9.Pv a0) 4)]) W λs11 x12 h hx13=>S4 1 J<|g7 ?_;refine cN h (λhc h=>?_) λhc h=>?_
   .refine c8 ?_;refine g7<|g8<|sR<|iL h J J af I8 λv13 _ h=>S2 3 J<|S3 3 J ?_;obtain⟨v14,hv15,h⟩:=oE h;obtain⟨n15,he16,hk17,hp18⟩:=EP hv15;refine Q9 (Ru 24 J he16)<|y0 J (Ff J hk17 J hp18)<|S2 1 J<|S3 5 J<|l5 J (λhg=>mI J)<|l5 J (λhg=>oF J Ir J)<|l5 J (λhg=>oS (ct hg) J J F1 J)<|l5 J (λhg=>B5 (ct hg) (ct hg) J)<|y0 J (I0 J J J (λq=>lM q))<|yN ?_;refine cN h (λhc h=>?_) λhc h=>?_
    .refine S4 3 J ?_;refine b9 ?_;have h:=xL hx13 h;cases h;exact f1
    .refine c8 ?_;refine S6 2 J ?_;exact eL h W
   .refine r7 ?_;refine e6<|e6<|m7 ?_;have h:=xL hx13 h;exact eJ h W
theorem xl{a0}:PO Tryz.prog 42 [.L (Ls c9.Pv) a0] (fR a0) λr=>.bool r:=by
 refine pO Tryz.func42 λr h _ _=>?_;refine S4 1 J<|g7<|S3 1 J<|nL J jN<|S2 1 J ?_;refine cN h (λhc h=>?_) λhc h=>?_
 .refine S4 1 J ?_;refine b9 ?_;cases h;exact f1
 .refine c8 ?_;refine jq h (λ_=>St.of [] []) (λq21 h=>?_) λκ20 h=>?_
  .refine S4 1 J ?_;refine b9 ?_;cases h;exact f1
  .refine S3 1 J ?_;refine nL J jN<|S2 1 J<|g8<|lq h (λs23=>St.of [(10,.L (Ls c9.Pv) a0),(11,.I (a0.length:Int)),(12,.I s23)] []) W λs23 x24 h hx22=>S4 1 J<|g7 ?_;refine cN h (λhc h=>?_) λhc h=>?_
   .refine c8 ?_;refine jq h (λ_=>St.of [(10,.L (Ls c9.Pv) a0),(11,.I (a0.length:Int)),(12,.I s23)] []) (λq33 h=>?_) λκ32 h=>?_
    .refine S6 2 J ?_;exact eL h W
    .refine g8 ?_;refine sR<|iL h J J jN uc λv34 _ h=>S2 2 J<|g7<|S3 1 J<|nL J gI<|S2 1 J ?_;refine cN h (λhc h=>?_) λhc h=>?_
     .refine S4 1 J ?_;refine b9 ?_;have h:=xL hx22 h;cases h;exact f1
     .refine c8 ?_;refine S3 1 J<|nL J gI<|S2 1 J<|g8<|lq h (λs36=>St.of [(10,.L (Ls c9.Pv) a0),(11,.I (a0.length:Int)),(12,.I s23),(19,.L c9.Pv v34),(20,.I (v34.length:Int)),(21,.I s36)] []) W λs36 x37 h hx34=>S4 1 J<|g7 ?_;refine cN h (λhc h=>?_) λhc h=>?_
      .refine c8 ?_;refine g7<|g8<|sR<|iL h J J gI gJ λv38 _ h=>S2 3 J<|S3 1 J<|cA h xk J J λv39 _ h=>S1 2 J<|l5 J (λhg=>oL J J J tZ gJ nl J)<|A5 h λv40 hv37 h=>l5 J (λhg=>N3 J iD (G1 (ct hg) J) (K7 hv37 hg))<|l5 J (λhg=>B5 (ct hg) J J)<|y0 J (I0 J J J (λq=>lM q))<|yN ?_;refine cN h (λhc h=>?_) λhc h=>?_
       .refine S4 1 J ?_;refine b9 ?_;have h:=xL hx34 h;have h:=xL hx22 h;cases h;exact f1
       .refine c8 ?_;refine S6 2 J ?_;exact eL h W
      .refine r7 ?_;refine e6<|e6<|m7 ?_;have h:=xL hx34 h;exact eJ h W
   .refine r7 ?_;refine e6<|e6<|m7 ?_;have h:=xL hx22 h;exact eJ h W
theorem lQ{a0 a1}:PO Tryz.prog 148 [.I a0,.I a1] (O3 a0 a1) λr=>c4.Pv r:=by
 refine pO Tryz.func148 λr h _ _=>?_;refine S4 1 J<|g7<|S3 3 J<|l5 J (λhg=>mI J)<|l5 J (λhg=>B5 (ct hg) J J)<|y0 J (I0 J J J (λq=>lM q))<|S1 1 J<|l5 J (λhg=>mI J)<|l5 J (λhg=>B5 (ct hg) J J)<|y0 J (I0 J J J (λq=>lM q))<|S1 1 J<|l5 J (λhg=>mI J)<|l5 J (λhg=>B5 (ct hg) J J)<|y0 J (I0 J J J (λq=>lM q))<|yN ?_;refine cN h (λhc h=>?_) λhc h=>?_
 .refine sR ?_;refine y0 J (s7 (cs:=[.nl,.I 0]) J JS Ka J J J)<|nm (x':=.agg [.nl,.I 0]) (cl':=true) J J (.inl J) bV<|yN<|b9 ?_;cases h;exact⟨J,[_],⟨oL J J J eE bV nl J,tr⟩,J,io⟩
 .refine c8 ?_;refine S3 1 J<|A5 h λv1 hv1 h=>y1 J (Fg (f:=b7.Pv) hv1 J J J L1 O6 np Gr J J J) J<|S1 1 J<|y0 J (s7 (cs:=[.sl 21,.I a1]) J JS Ka J J J)<|S2 1 J<|b9 ?_;cases h;exact⟨J,[_],⟨oL J J J eE bV nl J,tr⟩,J,io⟩
theorem BC{a0 a1}:PO Tryz.prog 90 [.I a0,.I a1] (bP a0 a1) λr=>a7.Pv r:=by
 refine pO Tryz.func90 λr h _ _=>?_;refine S4 1 J<|S3 2 J<|cF h lQ J J λv1 _ h=>y0 J (s7 (cs:=[.L b7.Pv v1.a8,.I v1.Last,.I 0]) J JT Kb J J J)<|S2 1 J<|b9 ?_;cases h;exact⟨J,[_],⟨oL J J J jM jQ nl J,tr⟩,J,io⟩
theorem Ea{a0}:PO Tryz.prog 91 [.I a0] (DZ a0) λr=>.L c7.Pv r:=by
 refine pO Tryz.func91 λr h _ _=>?_;refine S4 1 J<|g7<|S3 3 J<|l5 J (λhg=>mI J)<|l5 J (λhg=>B5 (ct hg) J J)<|y0 J (I0 J J J (λq=>lM q))<|yN ?_;refine cN h (λhc h=>?_) λhc h=>?_
 .refine S4 1 J ?_;refine b9 ?_;cases h;exact f1
 .refine c8 ?_;refine S3 1 J<|A5 h λv1 hv1 h=>y1 J (Fg (f:=c7.Pv) hv1 J J J P9 U3 yQ Gs J J J) J<|S2 1 J ?_;refine jq h (λj9=>St.of [(3,.sl 12)] [(12,⟨List.map c7.Pv j9,0,true,3,true⟩)]) (λj9 h=>?_) λκ8 h=>?_
  .refine S4 2 J ?_;refine b9 ?_;cases h;exact f1
  .refine S3 1 J ?_;refine y0 J (LQ (f:=c7.Pv) J J J P9)<|S2 1 J<|g8<|lq h (λq=>St.of [(3,.sl 12),(14,.I (v1.length:Int)),(15,.I q.1)] [(12,⟨List.map c7.Pv q.2,0,true,3,true⟩)]) W λq14 x13 h hx9=>?_;obtain⟨s11,s12⟩:=q14;refine S4 1 J<|g7 ?_;refine cN h (λhc h=>?_) λhc h=>?_
   .refine c8 ?_;refine g7<|g8<|S4 2 J<|S5 2 J<|A5 h λv15 hv10 h=>y0 J (oR (f:=c7.Pv) hv10 J J J J P9 U3 J)<|S1 1 J<|xa (f:=c7.Pv) (v:=(⟨v15.Target,v15.Intact,(-1)⟩:c7)) hv10 J J (.inl J) r8<|yN<|S6 2 J ?_;exact eL h W
   .refine r7 ?_;refine e6<|e6<|m7 ?_;have h:=xL hx9 h;exact eJ h W
theorem CL{a0}:PO Tryz.prog 92 [.I a0] (qv a0) λr=>.L b8.Pv r:=by
 refine pO Tryz.func92 λr h _ _=>?_;refine S4 1 J<|g7<|S3 3 J<|l5 J (λhg=>mI J)<|l5 J (λhg=>B5 (ct hg) J J)<|y0 J (I0 J J J (λq=>lM q))<|yN ?_;refine cN h (λhc h=>?_) λhc h=>?_
 .refine S4 1 J ?_;refine b9 ?_;cases h;exact f1
 .refine c8 ?_;refine S3 1 J<|A5 h λv1 hv1 h=>y1 J (Fg (f:=b8.Pv) hv1 J J J W5 ah ud Gt J J J) J<|S2 1 J<|b9 ?_;cases h;exact f1
theorem kO{a0}:PO Tryz.prog 149 [.I a0] (aJ a0) λr=>c5.Pv r:=by
 refine pO Tryz.func149 λr h _ _=>?_;unfold aJ at h;refine S4 1 J<|S3 1 J<|y0 J (s7 (cs:=[.nl,.I a0]) J RD RN J J J)<|nm (x':=.agg [.nl,.I a0]) (cl':=true) J J (.inl J) bW<|yN<|b9 ?_;cases h;exact⟨J,[_],⟨oL J J J iA bW nl J,tr⟩,J,io⟩
theorem DO:PO Tryz.prog 93 [] (DN) λr=>c5.Pv r:=by
 refine pO Tryz.func93 λr h _ _=>?_;refine S4 1 J<|sR<|cF h kO J J λv1 _ h=>S2 1 J<|b9 ?_;cases h;exact⟨J,[_],⟨oL J J J iA bW nl J,tr⟩,J,io⟩
theorem CN{a0 a1 a2}:PO Tryz.prog 43 [.I a0,.I a1,.I a2] (cg a0 a1 a2) λr=>b6.Pv r:=by
 refine pO Tryz.func43 λr h _ _=>?_;refine S4 1 J<|g7<|S3 3 J<|l5 J (λhg=>mI J)<|l5 J (λhg=>B5 (ct hg) J J)<|y0 J (I0 J J J (λq=>lM q))<|S1 1 J<|l5 J (λhg=>mI J)<|l5 J (λhg=>B5 (ct hg) J J)<|y0 J (I0 J J J (λq=>lM q))<|S1 1 J<|l5 J (λhg=>mI J)<|l5 J (λhg=>B5 (ct hg) J J)<|y0 J (I0 J J J (λq=>lM q))<|S1 1 J<|l5 J (λhg=>mI J)<|l5 J (λhg=>B5 (ct hg) J J)<|y0 J (I0 J J J (λq=>lM q))<|S1 1 J<|l5 J (λhg=>mI J)<|l5 J (λhg=>B5 (ct hg) J J)<|y0 J (I0 J J J (λq=>lM q))<|yN ?_;refine cN h (λhc h=>?_) λhc h=>?_
 .refine sR ?_;refine y0 J (s7 (cs:=[.nl,.I 0,.I 0,.nl,.nl,.nl,.nl,.I 0]) J JU Kc J J J)<|nm (x':=.agg [.nl,.I 0,.I 0,.nl,.nl,.nl,.nl,.I 0]) (cl':=true) J J (.inl J) o5<|yN<|b9 ?_;cases h;exact⟨J,[_],⟨oL J J J p9 o5 nl J,tr⟩,J,io⟩
 .refine c8 ?_;refine dr [] w9 (by kernel_rfl) (by kernel_rfl)<|S7 2 J<|A5 h λv1 hv1 h=>iS J (A3 J BC J hv1) J<|A5 h λv2 hv2 h=>d1 J (Fg (f:=iF) hv2 J J J l7 r8 D5 Y4 J J J) J J J<|A5 h λv3 hv3 h=>iS J (A3 J Ea J hv3) J<|S7 1 J<|A5 h λv4 hv4 h=>iS J (A3 J CL J hv4) J<|A5 h λv5 hv5 h=>iS J (A3 J DO J hv5) J<|d7 J (λ_ hN=>s7 (cs:=[.L b7.Pv v1.S.a8,.I v1.S.Last,.I v1.Serial,.sl 33,.L c7.Pv v3,.L b8.Pv v4,.L g9.Pv v5.L,.I v5.Cap]) J JU Kc J J J) J<|E6 (x':=.agg [.L b7.Pv v1.S.a8,.I v1.S.Last,.I v1.Serial,.sl 33,.L c7.Pv v3,.L b8.Pv v4,.L g9.Pv v5.L,.I v5.Cap]) (cl':=false) J J (.inr J) o5<|V1<|b9 ?_;cases h;exact⟨J,[_],⟨oL J J J p9 o5 nl J,tr⟩,J,io⟩
theorem dH{a0 a1 a2 a3}:PO Tryz.prog 12 [.I a0,.I a1,.I a2,.L (Ls c9.Pv) a3] (N6 a0 a1 a2 a3) λr=>.tup [n9.Pv r.1,.I r.2]:=by
 refine pO Tryz.func12 λr h _ _=>?_;refine S4 2 J<|g7<|S3 1 J<|cA h xl J J λv1 _ h=>S2 1 J ?_;refine cN h (λhc h=>?_) λhc h=>?_
 .refine sR ?_;refine y0 J (s7 (cs:=[.nl,.I 0,.I 0,.nl,.nl,.nl,.nl,.I 0,.nl]) J Eo Eu J J J)<|nm (x':=.agg [.nl,.I 0,.I 0,.nl,.nl,.nl,.nl,.I 0,.nl]) (cl':=true) J J (.inl J) U4<|S2 1 J<|b9 ?_;cases h;exact⟨J,[_,_],⟨oL J J J eF U4 nl J,⟨J,tr⟩⟩,J,io⟩
 .refine c8 ?_;refine S3 3 J<|cF h CN J J λv2 _ h=>S2 2 J<|g7<|S3 2 J<|nL J l7<|S2 1 J ?_;refine cN h (λhc h=>?_) λhc h=>?_
  .refine sR ?_;refine y0 J (s7 (cs:=[.nl,.I 0,.I 0,.nl,.nl,.nl,.nl,.I 0,.nl]) J Eo Eu J J J)<|nm (x':=.agg [.nl,.I 0,.I 0,.nl,.nl,.nl,.nl,.I 0,.nl]) (cl':=true) J J (.inl J) U4<|S2 1 J<|b9 ?_;cases h;exact⟨J,[_,_],⟨oL J J J eF U4 nl J,⟨J,tr⟩⟩,J,io⟩
  .refine c8 ?_;refine S3 2 J<|y0 J (s7 (cs:=[.L b7.Pv v2.S.S.a8,.I v2.S.S.Last,.I v2.S.Serial,.L iF v2.Roots,.L c7.Pv v2.a8,.L b8.Pv v2.T,.L g9.Pv v2.Q.L,.I v2.Q.Cap,.L (Ls c9.Pv) a3]) J Eo Eu J J J)<|S2 2 J<|b9 ?_;cases h;exact⟨J,[_,_],⟨oL J J J eF U4 nl J,⟨J,tr⟩⟩,J,io⟩
theorem vb{a0}:PO Tryz.prog 57 [.L iF a0] (U2 a0) λr=>.tup [c9.Pv r.1,.I r.2]:=by
 refine pO Tryz.func57 λr h _ _=>?_;refine S4 2 J<|g7<|S3 1 J<|nL J l7<|S2 1 J ?_;refine cN h (λhc h=>?_) λhc h=>?_
 .refine sR ?_;refine y0 J (s7 (cs:=[.I 0,.I 0,.I 0,.I 0]) J ua pV J J J)<|S2 2 J<|b9 ?_;cases h;exact⟨J,[_,_],⟨oL J J J tZ gJ nl J,⟨J,tr⟩⟩,J,io⟩
 .refine c8 ?_;refine dr [] w9 (by kernel_rfl) (by kernel_rfl)<|S7 1 J<|A5 h λv1 hv1 h=>d0 J (F2 (f:=iF) (cs:=[.I v1]) hv1 J J l7 r8 J J) J<|S7 2 J<|A5 h λv2 hv2 h=>d0 J (F2 (f:=iF) (cs:=[.I v2]) hv2 J J l7 r8 J J) J<|S7 2 J<|A5 h λv3 hv3 h=>d0 J (F2 (f:=iF) (cs:=[.I v3]) hv3 J J l7 r8 J J) J<|S7 2 J<|A5 h λv4 hv4 h=>d0 J (F2 (f:=iF) (cs:=[.I v4]) hv4 J J l7 r8 J J) J<|S7 1 J<|d7 J (λ_ hN=>s7 (cs:=[.I v1,.I v2,.I v3,.I v4]) J ua pV J J J) J<|S7 1 J<|E6 (x':=.agg [.I v1,.I v2,.I v3,.I v4]) (cl':=true) J J (.inl J) gJ<|V1<|g7<|S3 1 J<|cA h iD J J λv5 _ h=>S2 1 J<|S4 2 J ?_;refine cN h (λhc h=>?_) λhc h=>?_
  .refine sR ?_;refine y0 J (s7 (cs:=[.I 0,.I 0,.I 0,.I 0]) J ua pV J J J)<|S2 3 J<|b9 ?_;cases h;exact⟨J,[_,_],⟨oL J J J tZ gJ nl J,⟨J,tr⟩⟩,J,io⟩
  .refine c8 ?_;refine S4 3 J<|b9 ?_;cases h;exact⟨J,[_,_],⟨oL J J J tZ gJ nl J,⟨J,tr⟩⟩,J,io⟩
theorem tN{a0}:PO Tryz.prog 58 [c9.Pv a0] (kf a0) λr=>Vh pa r:=by
 refine pO Tryz.func58 λr h _ _=>?_;refine S4 2 J<|g7<|S4 2 J<|g8<|S4 2 J ?_;refine cN h (λhc h=>?_) λhc h=>?_
 .refine sR ?_;refine y0 J (s7 (cs:=[]) J NS GG J J J)<|y0 J (Fh (n:=pa) (T:=136) (xs:=[]) J GC J)<|S2 1 J<|b9 ?_;cases h;exact f1
 .refine S4 2 J ?_;refine cN h (λhc h=>?_) λhc h=>?_
  .refine S3 2 J ?_;refine y0 J (s7 (cs:=[.I a0.A]) J NT GH J J J)<|y0 J (Fh (n:=pa) (T:=140) (xs:=[a0.A]) J GD J)<|S2 1 J<|b9 ?_;cases h;exact f1
  .refine c8 ?_;refine S3 1 J<|y0 J (s7 (cs:=[.I a0.Kind,.I a0.A,.I a0.B,.I a0.C]) J NR GF J J J)<|y0 J (Fh (n:=pa) (T:=132) (xs:=[a0.Kind,a0.A,a0.B,a0.C]) J GB J)<|S2 1 J<|b9 ?_;cases h;exact f1
theorem sg:PO Tryz.prog 102 [] (dM) λr=>.abs (U9 (List.map (fV iF ql) r)):=by
 refine pO Tryz.func102 λr h _ _=>?_;unfold dM at h;refine S4 1 J<|sR<|Ed (KT:=Int) (VT:=Fv) (EK:=iF) (E:=ql) 5000001 J J<|iQ (es:=[]) (k:=1) (v:=(some 151)) (E:=ql) (EK:=iF) (.inr J) J J J J J J Y5 (y8 J8)<|iQ (es:=(o8 [] 1 (some 151))) (k:=2) (v:=(some 152)) (E:=ql) (EK:=iF) (.inr J) J J J J J J Y5 (y8 J8)<|iQ (es:=(o8 (o8 [] 1 (some 151)) 2 (some 152))) (k:=3) (v:=(some 153)) (E:=ql) (EK:=iF) (.inr J) J J J J J J Y5 (y8 J8)<|iQ (es:=(o8 (o8 (o8 [] 1 (some 151)) 2 (some 152)) 3 (some 153))) (k:=4) (v:=(some 154)) (E:=ql) (EK:=iF) (.inr J) J J J J J J Y5 (y8 J8)<|iQ (es:=(o8 (o8 (o8 (o8 [] 1 (some 151)) 2 (some 152)) 3 (some 153)) 4 (some 154))) (k:=5) (v:=(some 155)) (E:=ql) (EK:=iF) (.inr J) J J J J J J Y5 (y8 J8)<|iQ (es:=(o8 (o8 (o8 (o8 (o8 [] 1 (some 151)) 2 (some 152)) 3 (some 153)) 4 (some 154)) 5 (some 155))) (k:=6) (v:=(some 156)) (E:=ql) (EK:=iF) (.inr J) J J J J J J Y5 (y8 J8)<|iQ (es:=(o8 (o8 (o8 (o8 (o8 (o8 [] 1 (some 151)) 2 (some 152)) 3 (some 153)) 4 (some 154)) 5 (some 155)) 6 (some 156))) (k:=7) (v:=(some 157)) (E:=ql) (EK:=iF) (.inr J) J J J J J J Y5 (y8 J8)<|iQ (es:=(o8 (o8 (o8 (o8 (o8 (o8 (o8 [] 1 (some 151)) 2 (some 152)) 3 (some 153)) 4 (some 154)) 5 (some 155)) 6 (some 156)) 7 (some 157))) (k:=8) (v:=(some 158)) (E:=ql) (EK:=iF) (.inr J) J J J J J J Y5 (y8 J8)<|iQ (es:=(o8 (o8 (o8 (o8 (o8 (o8 (o8 (o8 [] 1 (some 151)) 2 (some 152)) 3 (some 153)) 4 (some 154)) 5 (some 155)) 6 (some 156)) 7 (some 157)) 8 (some 158))) (k:=9) (v:=(some 159)) (E:=ql) (EK:=iF) (.inr J) J J J J J J Y5 (y8 J8)<|iQ (es:=(o8 (o8 (o8 (o8 (o8 (o8 (o8 (o8 (o8 [] 1 (some 151)) 2 (some 152)) 3 (some 153)) 4 (some 154)) 5 (some 155)) 6 (some 156)) 7 (some 157)) 8 (some 158)) 9 (some 159))) (k:=10) (v:=(some 160)) (E:=ql) (EK:=iF) (.inr J) J J J J J J Y5 (y8 J8)<|S2 2 J<|cX (Gj 0 5000001 J J)<|b9 ?_;cases h;exact f1
theorem Gc{a0}:PO Tryz.prog 297 [.I a0] (BK a0) λr=>.tup [.L iF r.1,.I r.2]:=by
 refine pO Tryz.func297 λr h _ _=>?_;refine S4 2 J<|g7<|S3 3 J<|l5 J (λhg=>mI J)<|l5 J (λhg=>B5 (ct hg) J J)<|y0 J (I0 J J J (λq=>lM q))<|yN ?_;refine cN h (λhc h=>?_) λhc h=>?_
 .refine S4 2 J ?_;refine b9 ?_;cases h;exact f2
 .refine c8 ?_;refine S3 1 J<|A5 h λv1 hv1 h=>y1 J (Fg (f:=iF) hv1 J J J l7 r8 D5 Y4 J J J) J<|S2 2 J<|b9 ?_;cases h;exact f2
theorem ng{a0}:PO Tryz.prog 298 [.I a0] (P5 a0) λr=>.bool r:=by
 refine pO Tryz.func298 λr h _ _=>?_;unfold P5 at h;refine S4 1 J<|S3 3 J<|l5 J (λhg=>mI J)<|l5 J (λhg=>B5 (ct hg) J J)<|y0 J (B0 J J J (λq=>fW q))<|S2 1 J<|b9 ?_;cases h;exact f1
theorem ld{a0}:PO Tryz.prog 342 [c4.Pv a0] (L7 a0) λr=>.fn (.func 361) [.rptr (c4.Pc r)]:=by
 refine pO Tryz.func342 λr h _ _=>?_;unfold L7 at h;refine S4 2 J<|S4 2 J<|b9 ?_;cases h;exact f1
theorem K5{a0}:QE Tryz.prog 348 [.L b7.Pv a0] (w8 a0) λr=>⟨List.map b7.Pv r,0,true,8,true⟩:=by
 refine Uy Tryz.func348 λr h _ _=>?_;unfold w8 at h;refine S4 1 J<|g7<|S3 1 J<|BR J L1 λb hb=>yN ?_;refine G7 b J (λhc=>?_) (λhc=>?_)
 .obtain rfl:a0 = []:=by simpa using hb hc
  refine S4 1 J<|cX (M7 (t:=2) (l:=920000) (z:=8) J J)<|b9 ?_;cases h;exact⟨J,_,_,J,J,J,J⟩
 .refine c8 ?_;refine sR<|y0 J (aT J L1 O6)<|S1 1 J<|y1 J (yn (f:=b7.Pv) h J J (.inl ⟨_,J,J⟩) L1 O6 Gr np J (λ_=>J)) J<|S2 1 J<|b9 ?_;exact⟨J,_,_,J,J,J,J⟩
theorem H0{a0 a1 a2}:PO Tryz.prog 312 [c4.Pv a0,.I a1,b7.Pv a2] (B8 a0 a1 a2) λr=>c4.Pv r:=by
 refine pO Tryz.func312 λr h _ _=>?_;unfold B8 at h;refine S4 3 J<|S3 2 J<|A5 h λv1 hv1 h=>UC J (vN J K5 J hv1) J J<|S2 2 J<|S3 4 J<|A5 h λv2 hv2 h=>y0 J (oR (f:=b7.Pv) hv2 J J J J L1 O6 J)<|xa (f:=b7.Pv) (v:=a2) hv2 J J (.inr J) O6<|yN<|S4 2 J<|b9 ?_;cases h;exact⟨J,[_],⟨oL J J J eE bV nl J,tr⟩,J,io⟩
theorem mn{a0 a1}:PO Tryz.prog 122 [.I a0,.I a1] (bF a0 a1) λr=>.I r:=by
 refine pO Tryz.func122 λr h _ _=>?_;refine S4 1 J<|g7<|S3 3 J<|l5 J (λhg=>mI J)<|l5 J (λhg=>B5 (ct hg) J J)<|y0 J (I0 J J J (λq=>lM q))<|S1 1 J<|l5 J (λhg=>mI J)<|l5 J (λhg=>B5 (ct hg) J J)<|y0 J (I0 J J J (λq=>lM q))<|S1 1 J<|l5 J (λhg=>mI J)<|l5 J (λhg=>B5 (ct hg) J J)<|y0 J (I0 J J J (λq=>lM q))<|yN ?_;refine cN h (λhc h=>?_) λhc h=>?_
 .refine S4 1 J ?_;refine b9 ?_;cases h;exact f1
 .refine c8 ?_;refine S4 7 J<|b9 ?_;cases h;exact f1
theorem la{a0 a1}:PO Tryz.prog 299 [c4.Pv a0,k9.Pv a1] (H4 a0 a1) λr=>.tup [c4.Pv r.1,.I r.2.1,.I r.2.2]:=by
 refine pO Tryz.func299 λr h _ _=>?_;refine S4 5 J ?_;refine jq h (λ_=>St.of [(2,.ptr 2005 0 0),(4,.ptr 2003 0 0),(5,.ptr 2002 0 0),(6,.ptr 2001 0 0)] [(2001,vR (.I 0) 1),(2002,vR (.I 0) 1),(2003,vR (.agg [.nl,.I 0]) 2),(2005,vR (c4.Pv a0) 2)]) (λq10 h=>?_) λκ9 h=>?_
 .refine S4 4 J ?_;refine b9 ?_;cases h;exact⟨J,[_,_,_],⟨oL J J J eE bV nl J,⟨oS J J J F1 J,⟨oS J J J oZ J,tr⟩⟩⟩,J,io⟩
 .refine S3 1 J ?_;refine cF h ld J J λv11 _ h=>yN<|g8<|cX (uY (λl=>if l=2006 then 6 else if l=2007 then 5 else if l=2008 then 4 else if l=2009 then 3 else if l=2010 then 2 else l) [(2,.ptr 2010 0 0),(3,.ptr 2009 0 0),(4,.ptr 2008 0 0),(5,.ptr 2007 0 0),(6,.ptr 2006 0 0),(10,.fn (.func 361) [.rptr (c4.Pc v11)])] [(2006,vR (.I 0) 1),(2007,vR (.I 0) 1),(2008,vR (.agg [.nl,.I 0]) 2),(2009,vR (k9.Pv a1) 6),(2010,vR (c4.Pv a0) 2)]) ?_;refine cC (fn:=Tryz.f361) (N1:=23) J Tryz.func361 J J nl J NN J J (λl19 e20 o21 hR22=>?_);refine S3 2 J<|nL J L1<|S2 1 J<|g8<|lq h (λs13=>St.of [(1000002,.ptr 2010 0 0),(1000003,.ptr 2009 0 0),(1000004,.ptr 2008 0 0),(1000005,.ptr 2007 0 0),(1000006,.ptr 2006 0 0),(1000010,.fn (.func 361) [.rptr (c4.Pc v11)]),(0,.fn (.yield l19) []),(6,.L b7.Pv v11.a8),(7,.I (v11.a8.length:Int)),(8,.I s13)] [(2006,vR (.I 0) 1),(2007,vR (.I 0) 1),(2008,vR (.agg [.nl,.I 0]) 2),(2009,vR (k9.Pv a1) 6),(2010,vR (c4.Pv a0) 2)]) W λs13 x14 h hx25=>S4 1 J<|g7 ?_;refine cN h (λhc h=>?_) λhc h=>?_
  .refine c8 ?_;refine g7<|g8<|S3 1 J<|iL h J J L1 O6 λv15 _ h=>S2 4 J<|S3 4 J<|l5 J (λhg=>om (d:=.fn (.yield l19) []) J)<|l5 J (λhg=>mI J) ?_;rcases zam ((v15.State==0)==true) with hg27 | hg27
   .have h:=QS h hg27;refine Q9 (WE [(1000002,.ptr 2010 0 0),(1000003,.ptr 2009 0 0),(1000004,.ptr 2008 0 0),(1000005,.ptr 2007 0 0),(1000006,.ptr 2006 0 0),(1000010,.fn (.func 361) [.rptr (c4.Pc v11)]),(0,.fn (.yield l19) []),(6,.L b7.Pv v11.a8),(7,.I (v11.a8.length:Int)),(8,.I s13),(16,.bool (v15.State==0)),(17,.fn (.yield l19) []),(18,.I s13)] [(2006,vR (.I 0) 1),(2007,vR (.I 0) 1),(2008,vR (.agg [.nl,.I 0]) 2),(2009,vR (k9.Pv a1) 6),(2010,vR (c4.Pv a0) 2)]) ?_;refine lx hR22 (t6 some hg27) J J J J J (λe28 o29 o30=>?_);refine S6 1 J ?_;refine⟨J,?_⟩;refine g8<|S3 3 J<|iL h J J L1 O6 λv16 _ h=>S2 3 J<|S3 4 J<|y0 J (s7 (cs:=[.I 1,.I v16.Gen,.I a1.Serial,.I a1.Strong,.I a1.Weak,.I a1.Prog,.bool a1.Started,.L iF a1.Fields]) J ub np J J J)<|cF h H0 J J λv17 _ h=>S1 2 J<|cA h mn J J λv18 _ h=>S2 3 J<|b9 ?_;refine⟨J,?_⟩;refine Q9 (WE [(1000002,.ptr 2010 0 0),(1000003,.ptr 2009 0 0),(1000004,.ptr 2008 0 0),(1000005,.ptr 2007 0 0),(1000006,.ptr 2006 0 0),(1000010,.fn (.func 361) [.rptr (c4.Pc v11)]),(0,.fn (.yield l19) []),(6,.L b7.Pv v11.a8),(7,.I (v11.a8.length:Int)),(8,.I s13),(16,.bool (v15.State==0)),(19,.bool false)] [(2006,vR (.I 0) 1),(2007,vR (.I v18) 1),(2008,vR (c4.Pv v17) 2),(2009,vR (k9.Pv a1) 6),(2010,vR (c4.Pv a0) 2)])<|y0 (t6 some hg27) (fg J J)<|y0 J (ic J J hg27)<|yN ?_;refine G7 true J (λ_=>?_) (λq=>nomatch q);refine b9 ?_;refine .inr ⟨.ret,J,OU ?_⟩;have h:=xL hx25 h;cases h;exact⟨J,[_,_,_],⟨oL J J J eE bV nl J,⟨oS J J J F1 J,⟨oS J J J oZ J,tr⟩⟩⟩,J,io⟩
   .have h:=QR h hg27;refine cR (t6 some hg27)<|cR (t6 some hg27)<|y0 J (kK J J hg27)<|yN ?_;refine G7 false J (λq=>nomatch q) (λ_=>?_);refine c8<|S6 2 J ?_;exact eL h W
  .refine r7 ?_;refine e6<|e6<|m7 ?_;refine .inl ⟨J,?_⟩;have h:=xL hx25 h;exact eJ h (WP (λl=>if l=2005 then 2010 else if l=2003 then 2008 else if l=2002 then 2007 else if l=2001 then 2006 else l))
theorem xz{a0 a1 a2}:PO Tryz.prog 240 [a7.Pv a0,.I a1,.I a2] (Q8 a0 a1 a2) λr=>.tup [a7.Pv r.1,.I r.2.1,.I r.2.2]:=by
 refine pO Tryz.func240 λr h _ _=>?_;refine S4 4 J<|S3 1 J<|cF h Gc J J λv1 _ h=>S2 5 J<|g7<|S4 2 J ?_;refine cN h (λhc h=>?_) λhc h=>?_
 .refine S4 5 J ?_;refine b9 ?_;cases h;exact⟨J,[_,_,_],⟨oL J J J jM jQ nl J,⟨J,⟨J,tr⟩⟩⟩,J,io⟩
 .refine c8 ?_;refine g7<|S3 1 J<|cA h ng J J λv2 _ h=>S2 1 J ?_;refine cN h (λhc h=>?_) λhc h=>?_
  .refine S4 4 J ?_;refine b9 ?_;cases h;exact⟨J,[_,_,_],⟨oL J J J jM jQ nl J,⟨J,⟨J,tr⟩⟩⟩,J,io⟩
  .refine c8 ?_;refine S3 7 J<|y0 J (s7 (cs:=[.I (u4 (a0.Serial+1)),.I 0,.I 0,.I a2,.bool false,.L iF v1.1]) J NU Oi J J J)<|cF h la J J λv3 _ h=>S2 8 J<|g7<|S4 2 J ?_;refine cN h (λhc h=>?_) λhc h=>?_
   .refine S4 5 J ?_;refine b9 ?_;cases h;exact⟨J,[_,_,_],⟨oL J J J jM jQ nl J,⟨J,⟨J,tr⟩⟩⟩,J,io⟩
   .refine c8 ?_;refine S3 4 J<|y0 J (s7 (cs:=[.L b7.Pv v3.1.a8,.I v3.1.Last,.I (u4 (a0.Serial+1))]) J JT Kb J J J)<|S2 4 J<|b9 ?_;cases h;exact⟨J,[_,_,_],⟨oL J J J jM jQ nl J,⟨J,⟨J,tr⟩⟩⟩,J,io⟩
theorem lB{a0}:PO Tryz.prog 353 [.I a0] (cd a0) λr=>.tup [.I r.1,.I r.2.1,.bool r.2.2]:=by
 refine pO Tryz.func353 λr h _ _=>?_;refine S4 3 J<|g7<|S4 2 J ?_;refine cN h (λhc h=>?_) λhc h=>?_
 .refine S4 3 J ?_;refine b9 ?_;cases h;exact f3
 .refine c8 ?_;refine S3 2 J<|A5 h λv1 hv1 h=>y0 J (tl J J hv1)<|A5 h λv2 hv2 h=>y0 J (tl J J hv2)<|S1 2 J<|A5 h λv3 hv3 h=>y0 J (tl J J hv3)<|S2 2 J<|g7<|S3 3 J<|l5 J (λhg=>mI J)<|l5 J (λhg=>B5 (ct hg) J J)<|y0 J (I0 J J J (λq=>lM q))<|yN ?_;refine cN h (λhc h=>?_) λhc h=>?_
  .refine S4 3 J ?_;refine b9 ?_;cases h;exact f3
  .refine c8 ?_;refine S4 5 J<|b9 ?_;cases h;exact f3
theorem mo{a0}:PO Tryz.prog 323 [.I a0] (dW a0) λr=>.I r:=by
 refine pO Tryz.func323 λr h _ _=>?_;refine S4 1 J<|S3 1 J<|cA h lB J J λv1 _ h=>S2 7 J<|S4 2 J<|b9 ?_;cases h;exact f1
theorem oO{a0}:PO Tryz.prog 324 [.I a0] (fZ a0) λr=>.I r:=by
 refine pO Tryz.func324 λr h _ _=>?_;refine S4 1 J<|S3 1 J<|cA h lB J J λv1 _ h=>S2 7 J<|S4 2 J<|b9 ?_;cases h;exact f1
theorem G9{a0 a1}:PO Tryz.prog 288 [c4.Pv a0,.I a1] (u6 a0 a1) λr=>.tup [.I r.1,.I r.2]:=by
 refine pO Tryz.func288 λr h _ _=>?_;refine S4 3 J<|g7<|S4 2 J ?_;refine cN h (λhc h=>?_) λhc h=>?_
 .refine S4 2 J ?_;refine b9 ?_;cases h;exact f2
 .refine c8 ?_;refine S3 1 J<|cA h mo J J λv1 _ h=>S2 1 J<|g7<|S3 3 J<|l5 J (λhg=>mI J)<|l5 J (λhg=>oF J JP J)<|l5 J (λhg=>oS (ct hg) J J Rx J)<|l5 J (λhg=>bI (f:=b7.Pv) (ct hg) L1)<|l5 J (λhg=>B5 (ct hg) (ct hg) J)<|y0 J (I0 J J J (λq=>lM q))<|yN ?_;refine cN h (λhc h=>?_) λhc h=>?_
  .refine S4 2 J ?_;refine b9 ?_;cases h;exact f2
  .refine c8 ?_;refine S3 3 J<|iL h J J L1 O6 λv2 _ h=>S2 3 J<|g7<|dr [] w9 (by kernel_rfl) (by kernel_rfl)<|S7 3 J<|A5 h λv3 hv3 h=>d2 J (N3 J oO J hv3) J<|S7 2 J<|R7 J (λhg _ hN=>oF J xH J) J ?_;refine aQ J (λhg=>oS (ct hg) J J F1 J) J<|R7 J (λhg _ hN=>B5 (ct hg) J J) J<|R7 J (λhg _ hN=>om (d:=.bool (v2.State != 1)) (ct hg)) J<|R7 (Ng J J J) (λhg _ hN=>oF J xH J) J ?_;refine aQ (Ng J J J) (λhg=>oS (ct hg) J J F1 J) J<|R7 (Ng J J J) (λhg _ hN=>B5 (ct hg) J J) J<|R7 J (λhg _ hN=>B0 (ct hg) J J (λq=>Wr hg (fW q))) J<|d7 J (λ_ hN=>I0 J J J (λq=>lM q)) J<|V1 ?_;refine cN h (λhc h=>?_) λhc h=>?_
   .refine S4 2 J ?_;refine b9 ?_;cases h;exact f2
   .refine c8 ?_;refine S4 3 J<|b9 ?_;cases h;exact f2
theorem cY{a0 a1}:PO Tryz.prog 210 [c4.Pv a0,.I a1] (C6 a0 a1) λr=>.tup [k9.Pv r.1,.I r.2]:=by
 refine pO Tryz.func210 λr h _ _=>?_;refine S4 3 J<|S4 1 J<|S3 2 J<|cA h G9 J J λv1 _ h=>S2 5 J<|g7<|S4 2 J ?_;refine cN h (λhc h=>?_) λhc h=>?_
 .refine S3 2 J ?_;refine nm (x':=.agg [.I 0,.I 0,.I 0,.I 0,.bool false,.nl]) (cl':=true) J J (.inl J) gK<|S2 1 J<|b9 ?_;cases h;exact⟨J,[_,_],⟨oL J J J pP gK nl J,⟨J,tr⟩⟩,J,io⟩
 .refine c8 ?_;refine g7<|S3 3 J<|iL h J J L1 O6 λv2 hv2 h=>S2 3 J ?_;refine cN h (λhc h=>?_) λhc h=>?_
  .refine S3 1 J ?_;refine nm (x':=.agg [.I 0,.I 0,.I 0,.I 0,.bool false,.nl]) (cl':=true) J J (.inl J) gK<|S2 1 J<|b9 ?_;cases h;exact⟨J,[_,_],⟨oL J J J pP gK nl J,⟨J,tr⟩⟩,J,io⟩
  .refine c8 ?_;refine S3 3 J<|y0 J (F2 (f:=b7.Pv) (cs:=b7.Pc v2) hv2 J J L1 O6 J J)<|S2 4 J<|b9 ?_;cases h;exact⟨J,[_,_],⟨oL J J J pP gK nl J,⟨J,tr⟩⟩,J,io⟩
theorem B1{a0 a1}:PO Tryz.prog 126 [a7.Pv a0,.I a1] (u9 a0 a1) λr=>.tup [k9.Pv r.1,.I r.2]:=by
 refine pO Tryz.func126 λr h _ _=>?_;refine S4 3 J<|S3 3 J<|cF h cY J J λv1 _ h=>S2 4 J<|b9 ?_;cases h;exact⟨J,[_,_],⟨oL J J J pP gK nl J,⟨J,tr⟩⟩,J,io⟩
theorem vC{a0 a1}:PO Tryz.prog 344 [b6.Pv a0,.I a1] (gT a0 a1) λr=>.bool r:=by
 refine pO Tryz.func344 λr h _ _=>?_;refine S4 2 J<|S3 3 J<|cF h B1 J J λv1 _ h=>S2 6 J<|S4 3 J<|b9 ?_;cases h;exact f1
theorem S9{a0 a1}:PO Tryz.prog 301 [b6.Pv a0,.I a1] (J2 a0 a1) λr=>.bool r:=by
 refine pO Tryz.func301 λr h _ _=>?_;unfold J2 at h;refine S4 2 J<|S3 3 J<|l5 J (λhg=>oL J J J p9 o5 nl J)<|l5 J (λhg=>mI J)<|A5 h λv1 hv1 h=>l5 J (λhg=>N3 J vC (G1 (ct hg) (G1 (ct hg) J)) (K7 hv1 hg))<|y0 J (I0 J J J (λq=>lM q))<|S2 1 J<|b9 ?_;cases h;exact f1
theorem Y6{a0}:PO Tryz.prog 349 [.I a0] (E3 a0) λr=>.bool r:=by
 refine pO Tryz.func349 λr h _ _=>?_;unfold E3 at h;refine S4 1 J<|S4 3 J<|b9 ?_;cases h;exact f1
theorem qe{a0}:PO Tryz.prog 315 [.I a0] (fS a0) λr=>.tup [.I r.1,.I r.2]:=by
 refine pO Tryz.func315 λr h _ _=>?_;refine S4 2 J<|g7<|S3 1 J<|cA h Y6 J J λv1 _ h=>yN ?_;refine cN h (λhc h=>?_) λhc h=>?_
 .refine S4 2 J ?_;refine b9 ?_;cases h;exact f2
 .refine c8 ?_;refine S3 1 J<|y0 J (LR J J J)<|S2 3 J<|b9 ?_;cases h;exact f2
theorem Ab{a0}:PO Tryz.prog 252 [.I a0] (nr a0) λr=>.I r:=by
 refine pO Tryz.func252 λr h _ _=>?_;refine S4 1 J<|S3 1 J<|cA h qe J J λv1 _ h=>S2 5 J<|S4 2 J<|b9 ?_;cases h;exact f1
theorem lR{a0 a1 a2}:PO Tryz.prog 249 [c4.Pv a0,.I a1,k9.Pv a2] (I4 a0 a1 a2) λr=>.tup [c4.Pv r.1,.I r.2]:=by
 refine pO Tryz.func249 λr h _ _=>?_;refine S4 4 J<|S3 2 J<|cA h G9 J J λv1 _ h=>S2 5 J<|g7<|S4 2 J ?_;refine cN h (λhc h=>?_) λhc h=>?_
 .refine S4 4 J ?_;refine b9 ?_;cases h;exact⟨J,[_,_],⟨oL J J J eE bV nl J,⟨J,tr⟩⟩,J,io⟩
 .refine c8 ?_;refine S3 3 J<|iL h J J L1 O6 λv2 _ h=>S2 3 J<|S4 3 J<|S3 3 J<|cF h H0 J J λv3 _ h=>S2 2 J<|b9 ?_;cases h;exact⟨J,[_,_],⟨oL J J J eE bV nl J,⟨J,tr⟩⟩,J,io⟩
theorem aA{a0 a1 a2}:PO Tryz.prog 167 [a7.Pv a0,.I a1,k9.Pv a2] (I5 a0 a1 a2) λr=>.tup [a7.Pv r.1,.I r.2]:=by
 refine pO Tryz.func167 λr h _ _=>?_;refine S4 4 J<|S4 1 J<|S3 4 J<|cF h lR J J λv1 _ h=>S2 6 J<|S4 4 J<|b9 ?_;cases h;exact⟨J,[_,_],⟨oL J J J jM jQ nl J,⟨J,tr⟩⟩,J,io⟩
theorem gb{a0 a1}:PO Tryz.prog 251 [b6.Pv a0,.I a1,.fn (.func 252) []] (S0 a0 a1) λr=>b6.Pv r:=by
 refine pO Tryz.func251 λr h _ _=>?_;refine S4 2 J<|S3 3 J<|cF h B1 J J λv1 _ h=>S2 6 J<|g7<|S4 2 J ?_;refine cN h (λhc h=>?_) λhc h=>?_
 .refine S3 3 J ?_;refine cA h Ab J J λv2 _ h=>S2 2 J<|S5 4 J<|cF h aA J J λv3 _ h=>S2 5 J<|S4 2 J<|b9 ?_;cases h;exact⟨J,[_],⟨oL J J J p9 o5 nl J,tr⟩,J,io⟩
 .refine c8 ?_;refine S4 2 J<|b9 ?_;cases h;exact⟨J,[_],⟨oL J J J p9 o5 nl J,tr⟩,J,io⟩
theorem cm{a0 a1}:PO Tryz.prog 169 [b6.Pv a0,.I a1] (Y9 a0 a1) λr=>b6.Pv r:=by
 refine pO Tryz.func169 λr h _ _=>?_;refine S4 2 J<|S3 2 J<|cF h gb J J λv1 _ h=>S2 1 J<|b9 ?_;cases h;exact⟨J,[_],⟨oL J J J p9 o5 nl J,tr⟩,J,io⟩
theorem iO{a0}:QE Tryz.prog 359 [.L iF a0] (K4 a0) λr=>⟨List.map iF r,0,true,1,true⟩:=by
 refine Uy Tryz.func359 λr h _ _=>?_;unfold K4 at h;refine S4 1 J<|g7<|S3 1 J<|BR J l7 λb hb=>yN ?_;refine G7 b J (λhc=>?_) (λhc=>?_)
 .obtain rfl:a0 = []:=by simpa using hb hc
  refine S4 1 J<|cX (M7 (t:=2) (l:=920000) (z:=1) J J)<|b9 ?_;cases h;exact⟨J,_,_,J,J,J,J⟩
 .refine c8 ?_;refine sR<|y0 J (aT J l7 r8)<|S1 1 J<|y1 J (yn (f:=iF) h J J (.inl ⟨_,J,J⟩) l7 r8 Y4 D5 J (λ_=>J)) J<|S2 1 J<|b9 ?_;exact⟨J,_,_,J,J,J,J⟩
theorem lO{a0 a1}:PO Tryz.prog 332 [G4.Pv a0,b6.Pv a1] (N7 a0 a1) λr=>b6.Pv r:=by
 refine pO Tryz.func332 λr h _ _=>?_;unfold N7 at h;refine S4 3 J<|S3 2 J<|A5 h λv1 hv1 h=>UC J (vN J iO J hv1) J J<|S2 2 J<|S3 6 J<|A5 h λv2 hv2 h=>y0 J (oR (f:=iF) hv2 J J J J l7 r8 J)<|xa (f:=iF) (v:=a0.h) hv2 J J (.inl J) r8<|yN<|S4 2 J<|b9 ?_;cases h;exact⟨J,[_],⟨oL J J J p9 o5 nl J,tr⟩,J,io⟩
theorem oi{a0}:PO Tryz.prog 325 [.I a0] (dd a0) λr=>.tup [.I r.1,.I r.2]:=by
 refine pO Tryz.func325 λr h _ _=>?_;refine S4 2 J<|g7<|S3 1 J<|cA h Y6 J J λv1 _ h=>yN ?_;refine cN h (λhc h=>?_) λhc h=>?_
 .refine S4 2 J ?_;refine b9 ?_;cases h;exact f2
 .refine c8 ?_;refine g7<|S4 2 J ?_;refine cN h (λhc h=>?_) λhc h=>?_
  .refine S4 2 J ?_;refine b9 ?_;cases h;exact f2
  .refine c8 ?_;refine S4 4 J<|b9 ?_;cases h;exact f2
theorem Aa{a0}:PO Tryz.prog 259 [.I a0] (rP a0) λr=>.tup [.I r.1,.I r.2]:=by
 refine pO Tryz.func259 λr h _ _=>?_;refine S4 2 J<|S3 1 J<|cA h oi J J λv1 _ h=>S2 5 J<|S4 4 J<|b9 ?_;cases h;exact f2
theorem qy{a0}:PO Tryz.prog 258 [.I a0] (ck a0) λr=>.I r:=by
 refine pO Tryz.func258 λr h _ _=>?_;refine S4 1 J<|S3 1 J<|cA h Aa J J λv1 _ h=>S2 5 J<|g7<|S4 2 J ?_;refine cN h (λhc h=>?_) λhc h=>?_
 .refine S4 2 J ?_;refine b9 ?_;cases h;exact f1
 .refine c8 ?_;refine S4 2 J<|b9 ?_;cases h;exact f1
theorem cT{a0 a1}:PO Tryz.prog 251 [b6.Pv a0,.I a1,.fn (.func 258) []] (L3 a0 a1) λr=>b6.Pv r:=by
 refine pO Tryz.func251 λr h _ _=>?_;refine S4 2 J<|S3 3 J<|cF h B1 J J λv1 _ h=>S2 6 J<|g7<|S4 2 J ?_;refine cN h (λhc h=>?_) λhc h=>?_
 .refine S3 3 J ?_;refine cA h qy J J λv2 _ h=>S2 2 J<|S5 4 J<|cF h aA J J λv3 _ h=>S2 5 J<|S4 2 J<|b9 ?_;cases h;exact⟨J,[_],⟨oL J J J p9 o5 nl J,tr⟩,J,io⟩
 .refine c8 ?_;refine S4 2 J<|b9 ?_;cases h;exact⟨J,[_],⟨oL J J J p9 o5 nl J,tr⟩,J,io⟩
theorem V2{a0 a1}:PO Tryz.prog 176 [b6.Pv a0,.I a1] (B6 a0 a1) λr=>b6.Pv r:=by
 refine pO Tryz.func176 λr h _ _=>?_;refine S4 2 J<|S3 2 J<|cF h cT J J λv1 _ h=>S2 1 J<|b9 ?_;cases h;exact⟨J,[_],⟨oL J J J p9 o5 nl J,tr⟩,J,io⟩
theorem bn{a0 a1 a2 a3}:PO Tryz.prog 302 [b6.Pv a0,.I a1,.I a2,.abs (QC 332 [G4.Pv a3])] (D7 a0 a1 a2 a3) λr=>b6.Pv r:=by
 refine pO Tryz.func302 λr h _ _=>?_;refine S4 2 J<|S3 3 J<|cF h cm J J λv1 _ h=>A5 h λv2 hv2 h=>BQ (xs:=[b6.Pv v1]) J J NM J (lO.2 _ hv2)<|S1 1 J<|cF h V2 J J λv3 _ h=>S2 1 J<|b9 ?_;cases h;exact⟨J,[_],⟨oL J J J p9 o5 nl J,tr⟩,J,io⟩
theorem kr{a0 a1 a2}:PO Tryz.prog 263 [b6.Pv a0,.I a1,.I a2] (al a0 a1 a2) λr=>.tup [b6.Pv r.1,.I r.2]:=by
 refine pO Tryz.func263 λr h _ _=>?_;refine S4 3 J<|g7<|S3 3 J<|l5 J (λhg=>mI J)<|l5 J (λhg=>oF J uV J)<|l5 J (λhg=>oS (ct hg) J J lV J)<|l5 J (λhg=>bI (f:=iF) (ct hg) l7)<|l5 J (λhg=>B5 (ct hg) (ct hg) J)<|y0 J (I0 J J J (λq=>lM q))<|yN ?_;refine cN h (λhc h=>?_) λhc h=>?_
 .refine S4 3 J ?_;refine b9 ?_;cases h;exact⟨J,[_,_],⟨oL J J J p9 o5 nl J,⟨J,tr⟩⟩,J,io⟩
 .refine c8 ?_;refine g7<|S3 2 J<|cA h S9 J J λv1 _ h=>S2 1 J ?_;refine cN h (λhc h=>?_) λhc h=>?_
  .refine S4 3 J ?_;refine b9 ?_;cases h;exact⟨J,[_,_],⟨oL J J J p9 o5 nl J,⟨J,tr⟩⟩,J,io⟩
  .refine c8 ?_;refine dr [] w9 (by kernel_rfl) (by kernel_rfl)<|S7 4 J<|A5 h λv2 hv2 h=>d0 J (F2 (f:=iF) (cs:=[.I v2]) hv2 J J l7 r8 J J) J<|S7 4 J<|d7 J (λ_ hN=>s7 (cs:=[.I a1,.I a2]) J Oa Ot J J J) J<|d7 J (λ_ hN=>ss (d:=.agg [.I a1,.I a2]) J) J<|A5 h λv3 hv3 h=>iS J (A3 J bn J hv3) J<|E6 (x':=b6.Pv v3) (cl':=true) J J (.inr J) o5<|S8 1 J<|b9 ?_;cases h;exact⟨J,[_,_],⟨oL J J J p9 o5 nl J,⟨J,tr⟩⟩,J,io⟩
theorem F4{a0 a1 a2}:PO Tryz.prog 241 [p6.Pv a0,.I a1,.I a2] (A9 a0 a1 a2) λr=>.tup [b6.Pv r.1,.I r.2]:=by
 refine pO Tryz.func241 λr h _ _=>?_;refine S4 3 J<|g7<|S4 2 J ?_;refine cN h (λhc h=>?_) λhc h=>?_
 .refine S4 5 J ?_;refine b9 ?_;cases h;exact⟨J,[_,_],⟨oL J J J p9 o5 nl J,⟨J,tr⟩⟩,J,io⟩
 .refine c8 ?_;refine S3 6 J<|cF h kr J J λv1 _ h=>S2 4 J<|b9 ?_;cases h;exact⟨J,[_,_],⟨oL J J J p9 o5 nl J,⟨J,tr⟩⟩,J,io⟩
theorem cu{a0}:PO Tryz.prog 151 [p6.Pv a0] (R1 a0) λr=>.tup [b6.Pv r.1,.I r.2]:=by
 refine pO Tryz.func151 λr h _ _=>?_;refine S4 3 J<|S3 9 J<|cF h xz J J λv1 _ h=>S2 8 J<|g7<|S4 2 J ?_;refine cN h (λhc h=>?_) λhc h=>?_
 .refine S4 5 J ?_;refine b9 ?_;cases h;exact⟨J,[_,_],⟨oL J J J p9 o5 nl J,⟨J,tr⟩⟩,J,io⟩
 .refine c8 ?_;refine S4 4 J<|S3 2 J<|cF h F4 J J λv2 _ h=>S2 4 J<|b9 ?_;cases h;exact⟨J,[_,_],⟨oL J J J p9 o5 nl J,⟨J,tr⟩⟩,J,io⟩
theorem L4{a0 a1}:PO Tryz.prog 164 [b6.Pv a0,.I a1] (J4 a0 a1) λr=>.I r:=by
 refine pO Tryz.func164 λr h _ _=>?_;refine S4 2 J<|g7<|S3 3 J<|l5 J (λhg=>mI J)<|l5 J (λhg=>oF J uV J)<|l5 J (λhg=>oS (ct hg) J J lV J)<|l5 J (λhg=>bI (f:=iF) (ct hg) l7)<|l5 J (λhg=>B5 (ct hg) (ct hg) J)<|y0 J (I0 J J J (λq=>lM q))<|yN ?_;refine cN h (λhc h=>?_) λhc h=>?_
 .refine S4 1 J ?_;refine b9 ?_;cases h;exact f1
 .refine c8 ?_;refine S3 3 J<|iL h J J l7 r8 λv1 _ h=>S2 2 J<|b9 ?_;cases h;exact f1
theorem aE{a0}:PO Tryz.prog 152 [p6.Pv a0] (G6 a0) λr=>.tup [b6.Pv r.1,.I r.2]:=by
 refine pO Tryz.func152 λr h _ _=>?_;unfold G6 at h;refine S4 3 J<|dr [] w9 (by kernel_rfl) (by kernel_rfl)<|S7 6 J<|A5 h λv1 hv1 h=>d2 J (N3 J L4 J hv1) J<|A5 h λv2 hv2 h=>iS J (A3 J F4 J hv2) J<|S7 2 J<|E6 (x':=b6.Pv v2.1) (cl':=true) J J (.inr J) o5<|S8 1 J<|b9 ?_;cases h;exact⟨J,[_,_],⟨oL J J J p9 o5 nl J,⟨J,tr⟩⟩,J,io⟩
theorem dZ{a0}:PO Tryz.prog 153 [p6.Pv a0] (X9 a0) λr=>.tup [b6.Pv r.1,.I r.2]:=by
 refine pO Tryz.func153 λr h _ _=>?_;refine S4 3 J<|S3 1 J<|cF h F4 J J λv1 _ h=>S2 4 J<|b9 ?_;cases h;exact⟨J,[_,_],⟨oL J J J p9 o5 nl J,⟨J,tr⟩⟩,J,io⟩
theorem P0{a0 a1}:PO Tryz.prog 242 [b6.Pv a0,.I a1] (K2 a0 a1) λr=>.tup [.I r.1,.I r.2]:=by
 refine pO Tryz.func242 λr h _ _=>?_;refine S4 3 J<|S3 2 J<|cA h L4 J J λv1 _ h=>S2 1 J<|g7<|S4 2 J ?_;refine cN h (λhc h=>?_) λhc h=>?_
 .refine S4 2 J ?_;refine b9 ?_;cases h;exact f2
 .refine c8 ?_;refine S4 3 J<|b9 ?_;cases h;exact f2
theorem wO{a0 a1}:PO Tryz.prog 343 [.L iF a0,.I a1] (lr a0 a1) λr=>.bool r:=by
 refine pO Tryz.func343 λr h _ _=>?_;unfold lr at h;refine S4 1 J<|S3 3 J<|l5 J (λhg=>mI J)<|l5 J (λhg=>om (d:=.L iF a0) J)<|l5 J (λhg=>bI (f:=iF) (ct hg) l7)<|l5 J (λhg=>B5 (ct hg) (ct hg) J)<|y0 J (B0 J J J (λq=>fW q))<|S2 1 J<|b9 ?_;cases h;exact f1
theorem JD{a0 a1}:PO Tryz.prog 300 [.L iF a0,.I a1] (sZ a0 a1) λr=>.tup [.I r.1,.I r.2]:=by
 refine pO Tryz.func300 λr h _ _=>?_;refine S4 2 J<|g7<|S3 2 J<|cA h wO J J λv1 _ h=>S2 1 J ?_;refine cN h (λhc h=>?_) λhc h=>?_
 .refine S4 2 J ?_;refine b9 ?_;cases h;exact f2
 .refine c8 ?_;refine S3 2 J<|iL h J J l7 r8 λv2 _ h=>S2 3 J<|b9 ?_;cases h;exact f2
theorem nf{a0 a1 a2}:PO Tryz.prog 243 [a7.Pv a0,.I a1,.I a2] (Z8 a0 a1 a2) λr=>.tup [.I r.1,.I r.2]:=by
 refine pO Tryz.func243 λr h _ _=>?_;refine S4 3 J<|S3 2 J<|cF h B1 J J λv1 _ h=>S2 6 J<|g7<|S4 2 J ?_;refine cN h (λhc h=>?_) λhc h=>?_
 .refine S4 3 J ?_;refine b9 ?_;cases h;exact f2
 .refine c8 ?_;refine S3 3 J<|cA h JD J J λv2 _ h=>S2 4 J<|b9 ?_;cases h;exact f2
theorem ed{a0}:PO Tryz.prog 154 [p6.Pv a0] (Y0 a0) λr=>.tup [b6.Pv r.1,.I r.2]:=by
 refine pO Tryz.func154 λr h _ _=>?_;refine S4 3 J<|S3 5 J<|cA h P0 J J λv1 _ h=>S2 5 J<|g7<|S4 2 J ?_;refine cN h (λhc h=>?_) λhc h=>?_
 .refine S4 5 J ?_;refine b9 ?_;cases h;exact⟨J,[_,_],⟨oL J J J p9 o5 nl J,⟨J,tr⟩⟩,J,io⟩
 .refine c8 ?_;refine dr [] w9 (by kernel_rfl) (by kernel_rfl)<|S7 8 J<|A5 h λv2 hv2 h=>d2 J (N3 J nf J hv2) J<|S7 2 J<|A5 h λv3 hv3 h=>iS J (A3 J F4 J hv3) J<|S7 2 J<|E6 (x':=b6.Pv v3.1) (cl':=true) J J (.inr J) o5<|S8 1 J<|b9 ?_;cases h;exact⟨J,[_,_],⟨oL J J J p9 o5 nl J,⟨J,tr⟩⟩,J,io⟩
theorem DV{a0 a1 a2}:PO Tryz.prog 362 [.L iF a0,.I a1,.I a2] (wN a0 a1 a2) λr=>.tup [.L iF r.1,.I r.2]:=by
 refine pO Tryz.func362 λr h _ _=>?_;refine S4 2 J<|g7<|S3 2 J<|cA h wO J J λv1 _ h=>S2 1 J ?_;refine cN h (λhc h=>?_) λhc h=>?_
 .refine S4 3 J ?_;refine b9 ?_;cases h;exact f2
 .refine c8 ?_;refine S3 1 J<|nL J l7<|A5 h λv2 hv2 h=>y1 J (Fg (f:=iF) hv2 J J J l7 r8 D5 Y4 J J J) J<|S2 1 J<|S3 2 J<|A5 h λv3 hv3 h=>Wa (f:=iF) hv3 J J J (.inl ⟨_,J,J⟩) l7 r8 (λ_=>J) (by decide)<|yN<|S3 3 J<|A5 h λv4 hv4 h=>y0 J (oR (f:=iF) hv4 J J J J l7 r8 J)<|xa (f:=iF) (v:=a2) hv4 J J (.inl J) r8<|yN<|S4 3 J<|b9 ?_;cases h;exact f2
theorem BD{a0 a1 a2 a3}:PO Tryz.prog 345 [a7.Pv a0,.I a1,.I a2,.I a3] (nU a0 a1 a2 a3) λr=>.tup [a7.Pv r.1,.I r.2]:=by
 refine pO Tryz.func345 λr h _ _=>?_;refine S4 3 J<|S3 2 J<|cF h B1 J J λv1 _ h=>S2 6 J<|g7<|S4 2 J ?_;refine cN h (λhc h=>?_) λhc h=>?_
 .refine S4 4 J ?_;refine b9 ?_;cases h;exact⟨J,[_,_],⟨oL J J J jM jQ nl J,⟨J,tr⟩⟩,J,io⟩
 .refine c8 ?_;refine g7<|S3 4 J<|cF h DV J J λv2 _ h=>S2 6 J<|S4 2 J ?_;refine cN h (λhc h=>?_) λhc h=>?_
  .refine S4 4 J ?_;refine b9 ?_;cases h;exact⟨J,[_,_],⟨oL J J J jM jQ nl J,⟨J,tr⟩⟩,J,io⟩
  .refine c8 ?_;refine S3 3 J<|cF h aA J J λv3 _ h=>S2 4 J<|b9 ?_;cases h;exact⟨J,[_,_],⟨oL J J J jM jQ nl J,⟨J,tr⟩⟩,J,io⟩
theorem ky{a0 a1}:PO Tryz.prog 303 [F0.Pv a0,b6.Pv a1] (aH a0 a1) λr=>b6.Pv r:=by
 refine pO Tryz.func303 λr h _ _=>?_;refine S4 3 J<|S3 8 J<|cF h BD J J λv1 _ h=>S2 5 J<|S4 2 J<|b9 ?_;cases h;exact⟨J,[_],⟨oL J J J p9 o5 nl J,tr⟩,J,io⟩
theorem aS{a0 a1 a2 a3}:PO Tryz.prog 302 [b6.Pv a0,.I a1,.I a2,.abs (QC 303 [F0.Pv a3])] (G5 a0 a1 a2 a3) λr=>b6.Pv r:=by
 refine pO Tryz.func302 λr h _ _=>?_;refine S4 2 J<|S3 3 J<|cF h cm J J λv1 _ h=>A5 h λv2 hv2 h=>BQ (xs:=[b6.Pv v1]) J J NI J (ky.2 _ hv2)<|S1 1 J<|cF h V2 J J λv3 _ h=>S2 1 J<|b9 ?_;cases h;exact⟨J,[_],⟨oL J J J p9 o5 nl J,tr⟩,J,io⟩
theorem xr{a0 a1 a2 a3}:PO Tryz.prog 244 [b6.Pv a0,.I a1,.I a2,.I a3] (dg a0 a1 a2 a3) λr=>.tup [b6.Pv r.1,.I r.2]:=by
 refine pO Tryz.func244 λr h _ _=>?_;refine S4 3 J<|S3 4 J<|cA h nf J J λv1 _ h=>S2 5 J<|g7<|S4 2 J ?_;refine cN h (λhc h=>?_) λhc h=>?_
 .refine S4 4 J ?_;refine b9 ?_;cases h;exact⟨J,[_,_],⟨oL J J J p9 o5 nl J,⟨J,tr⟩⟩,J,io⟩
 .refine c8 ?_;refine g7<|S3 2 J<|cA h S9 J J λv2 _ h=>S2 1 J ?_;refine cN h (λhc h=>?_) λhc h=>?_
  .refine S4 3 J ?_;refine b9 ?_;cases h;exact⟨J,[_,_],⟨oL J J J p9 o5 nl J,⟨J,tr⟩⟩,J,io⟩
  .refine c8 ?_;refine S3 6 J<|y0 J (s7 (cs:=[.I a1,.I a2,.I a3]) J NX On J J J)<|y0 J (ss (d:=.agg [.I a1,.I a2,.I a3]) J)<|cF h aS J J λv3 _ h=>S2 2 J<|b9 ?_;cases h;exact⟨J,[_,_],⟨oL J J J p9 o5 nl J,⟨J,tr⟩⟩,J,io⟩
theorem cW{a0}:PO Tryz.prog 155 [p6.Pv a0] (U8 a0) λr=>.tup [b6.Pv r.1,.I r.2]:=by
 refine pO Tryz.func155 λr h _ _=>?_;refine S4 3 J<|S3 5 J<|cA h P0 J J λv1 _ h=>S2 5 J<|g7<|S4 2 J ?_;refine cN h (λhc h=>?_) λhc h=>?_
 .refine S4 5 J ?_;refine b9 ?_;cases h;exact⟨J,[_,_],⟨oL J J J p9 o5 nl J,⟨J,tr⟩⟩,J,io⟩
 .refine c8 ?_;refine dr [] w9 (by kernel_rfl) (by kernel_rfl)<|S7 11 J<|A5 h λv2 hv2 h=>d2 J (N3 J L4 J hv2) J<|A5 h λv3 hv3 h=>iS J (A3 J xr J hv3) J<|S7 2 J<|E6 (x':=b6.Pv v3.1) (cl':=true) J J (.inr J) o5<|S8 1 J<|b9 ?_;cases h;exact⟨J,[_,_],⟨oL J J J p9 o5 nl J,⟨J,tr⟩⟩,J,io⟩
theorem FY{a0 a1}:PO Tryz.prog 346 [c5.Pv a0,.I a1] (uK a0 a1) λr=>.fn (.func 363) [.rptr (c5.Pc r.1),.rptr [.I r.2]]:=by
 refine pO Tryz.func346 λr h _ _=>?_;unfold uK at h;refine S4 3 J<|S4 2 J<|b9 ?_;cases h;exact f1
theorem xA{a0 a1}:PO Tryz.prog 304 [c5.Pv a0,.I a1] (gy a0 a1) λr=>.bool r:=by
 refine pO Tryz.func304 λr h _ _=>?_;refine S4 3 J ?_;refine jq h (λ_=>St.of [(4,.ptr 2001 0 0)] [(2001,vR (.bool false) 1)]) (λq7 h=>?_) λκ6 h=>?_
 .refine S4 1 J ?_;refine b9 ?_;cases h;exact⟨J,[_],⟨oS J J J uU J,tr⟩,J,io⟩
 .refine S3 1 J ?_;refine cF h FY J J λv8 _ h=>yN<|g8<|cX (uY (λl=>if l=2003 then 4 else if l=2004 then 3 else l) [(3,.ptr 2004 0 0),(4,.ptr 2003 0 0),(7,.fn (.func 363) [.rptr (c5.Pc v8.1),.rptr [.I v8.2]])] [(2003,vR (.bool false) 1),(2004,vR (.I a1) 1)]) ?_;refine cC (fn:=Tryz.f363) (N1:=24) J Tryz.func363 J J nl J NO J J (λl16 e17 o18 hR19=>?_);refine S3 2 J<|nL J fQ<|S2 1 J<|g8<|lq h (λs10=>St.of [(1000003,.ptr 2004 0 0),(1000004,.ptr 2003 0 0),(1000007,.fn (.func 363) [.rptr (c5.Pc v8.1),.rptr [.I v8.2]]),(0,.fn (.yield l16) []),(2,.rptr [.I v8.2]),(7,.L g9.Pv v8.1.L),(8,.I (v8.1.L.length:Int)),(9,.I s10)] [(2003,vR (.bool false) 1),(2004,vR (.I a1) 1)]) W λs10 x11 h hx22=>S4 1 J<|g7 ?_;refine cN h (λhc h=>?_) λhc h=>?_
  .refine c8 ?_;refine g7<|g8<|sR<|iL h J J fQ I7 λv12 _ h=>S2 3 J<|S3 5 J<|l5 J (λhg=>om (d:=.fn (.yield l16) []) J)<|l5 J (λhg=>oL J J J bT I7 nl J) ?_;rcases zam ((v12.Kind==v8.2)==true) with hg24 | hg24
   .have h:=QS h hg24;refine Q9 (WE [(1000003,.ptr 2004 0 0),(1000004,.ptr 2003 0 0),(1000007,.fn (.func 363) [.rptr (c5.Pc v8.1),.rptr [.I v8.2]]),(0,.fn (.yield l16) []),(2,.rptr [.I v8.2]),(7,.L g9.Pv v8.1.L),(8,.I (v8.1.L.length:Int)),(9,.I s10),(17,.bool (v12.Kind==v8.2)),(18,.fn (.yield l16) []),(19,g9.Pv v12)] [(2003,vR (.bool false) 1),(2004,vR (.I a1) 1)]) ?_;refine lx hR19 (t6 some hg24) J J J J J (λe25 o26 o27=>?_);refine S6 2 J ?_;refine⟨J,?_⟩;refine g8<|S4 4 J ?_;refine cN h (λhc h=>?_) λhc h=>?_
    .refine S4 1 J ?_;refine b9 ?_;refine⟨J,?_⟩;refine Q9 (WE [(1000003,.ptr 2004 0 0),(1000004,.ptr 2003 0 0),(1000007,.fn (.func 363) [.rptr (c5.Pc v8.1),.rptr [.I v8.2]]),(0,.fn (.yield l16) []),(2,.rptr [.I v8.2]),(7,.L g9.Pv v8.1.L),(8,.I (v8.1.L.length:Int)),(9,.I s10),(17,.bool (v12.Kind==v8.2)),(20,.bool false)] [(2003,vR (.bool true) 1),(2004,vR (.I a1) 1)])<|y0 (t6 some hg24) (fg J J)<|y0 J (ic J J hg24)<|yN ?_;refine G7 true J (λ_=>?_) (λq=>nomatch q);refine b9 ?_;refine .inr ⟨.ret,J,OU ?_⟩;have h:=xL hx22 h;cases h;exact⟨J,[_],⟨oS J J J uU J,tr⟩,J,io⟩
    .refine c8 ?_;refine⟨J,?_⟩;refine Q9 (WE [(1000003,.ptr 2004 0 0),(1000004,.ptr 2003 0 0),(1000007,.fn (.func 363) [.rptr (c5.Pc v8.1),.rptr [.I v8.2]]),(0,.fn (.yield l16) []),(2,.rptr [.I v8.2]),(7,.L g9.Pv v8.1.L),(8,.I (v8.1.L.length:Int)),(9,.I s10),(17,.bool (v12.Kind==v8.2)),(20,.bool true)] [(2003,vR (.bool false) 1),(2004,vR (.I a1) 1)])<|y0 (t6 some hg24) (fg J J)<|y0 J (ic J J hg24)<|yN ?_;refine G7 false J (λq=>nomatch q) (λ_=>?_);refine c8<|S6 2 J ?_;exact eL h W
   .have h:=QR h hg24;refine cR (t6 some hg24)<|cR (t6 some hg24)<|y0 J (kK J J hg24)<|yN ?_;refine G7 false J (λq=>nomatch q) (λ_=>?_);refine c8<|S6 2 J ?_;exact eL h W
  .refine r7 ?_;refine e6<|e6<|m7 ?_;refine .inl ⟨J,?_⟩;have h:=xL hx22 h;exact eJ h (WP (λl=>if l=2001 then 2003 else l))
theorem tE{a0 a1}:PO Tryz.prog 308 [.L c7.Pv a0,.I a1] (jI a0 a1) λr=>.bool r:=by
 refine pO Tryz.func308 λr h _ _=>?_;unfold jI at h;refine S4 1 J<|S3 3 J<|l5 J (λhg=>mI J)<|l5 J (λhg=>om (d:=.L c7.Pv a0) J)<|l5 J (λhg=>bI (f:=c7.Pv) (ct hg) P9)<|l5 J (λhg=>B5 (ct hg) (ct hg) J)<|y0 J (B0 J J J (λq=>fW q))<|S2 1 J<|b9 ?_;cases h;exact f1
theorem lJ{a0}:QE Tryz.prog 319 [.L c7.Pv a0] (aa a0) λr=>⟨List.map c7.Pv r,0,true,3,true⟩:=by
 refine Uy Tryz.func319 λr h _ _=>?_;unfold aa at h;refine S4 1 J<|S3 1 J<|nL J P9<|A5 h λv1 hv1 h=>y1 J (Fg (f:=c7.Pv) hv1 J J J P9 U3 yQ Gs J J J) J<|S2 1 J<|S3 2 J<|A5 h λv2 hv2 h=>Wa (f:=c7.Pv) hv2 J J J (.inl ⟨_,J,J⟩) P9 U3 (λ_=>J) (by decide)<|yN<|S4 2 J<|b9 ?_;cases h;exact⟨J,_,_,J,J,J,J⟩
theorem Eb{a0 a1 a2 a3}:PO Tryz.prog 305 [.L c7.Pv a0,.I a1,.I a2,.I a3] (rG a0 a1 a2 a3) λr=>.tup [.L c7.Pv r.1,.I r.2.1,.I r.2.2]:=by
 refine pO Tryz.func305 λr h _ _=>?_;refine S4 3 J<|g7<|S3 2 J<|cA h tE J J λv1 _ h=>S2 1 J ?_;refine cN h (λhc h=>?_) λhc h=>?_
 .refine S4 4 J ?_;refine b9 ?_;cases h;exact f3
 .refine c8 ?_;refine S3 1 J<|A5 h λv2 hv2 h=>UC J (vN J lJ J hv2) J J<|S2 1 J<|S3 6 J<|y0 J (s7 (cs:=[.I a2,.bool (a2 != 0),.I a3]) J NV yQ J J J)<|A5 h λv3 hv3 h=>y0 J (oR (f:=c7.Pv) hv3 J J J J P9 U3 J)<|xa (f:=c7.Pv) (v:=(⟨a2,(a2 != 0),a3⟩:c7)) hv3 J J (.inl J) U3<|yN<|dr [] w9 (by kernel_rfl) (by kernel_rfl)<|S7 3 J<|A5 h λv4 hv4 h=>d0 J (F2 (f:=c7.Pv) (cs:=c7.Pc v4) hv4 J J P9 U3 J J) J<|S8 5 J<|b9 ?_;cases h;exact f3
theorem mw{a0 a1 a2}:PO Tryz.prog 307 [b6.Pv a0,.I a1,.I a2] (bH a0 a1 a2) λr=>b6.Pv r:=by
 refine pO Tryz.func307 λr h _ _=>?_;refine S4 2 J<|S3 4 J<|cA h G9 J J λv1 _ h=>S2 5 J<|g7<|S4 2 J ?_;refine cN h (λhc h=>?_) λhc h=>?_
 .refine S3 5 J ?_;refine iL h J J L1 O6 λv2 _ h=>S2 4 J<|S4 6 J<|S5 4 J<|cF h aA J J λv3 _ h=>S2 5 J<|S4 2 J<|b9 ?_;cases h;exact⟨J,[_],⟨oL J J J p9 o5 nl J,tr⟩,J,io⟩
 .refine c8 ?_;refine S4 2 J<|b9 ?_;cases h;exact⟨J,[_],⟨oL J J J p9 o5 nl J,tr⟩,J,io⟩
theorem cK{a0 a1}:PO Tryz.prog 257 [c4.Pv a0,.I a1] (L6 a0 a1) λr=>.tup [c4.Pv r.1,.I r.2]:=by
 refine pO Tryz.func257 λr h _ _=>?_;refine S4 3 J<|S3 2 J<|cA h G9 J J λv1 _ h=>S2 5 J<|g7<|S4 2 J ?_;refine cN h (λhc h=>?_) λhc h=>?_
 .refine S4 4 J ?_;refine b9 ?_;cases h;exact⟨J,[_,_],⟨oL J J J eE bV nl J,⟨J,tr⟩⟩,J,io⟩
 .refine c8 ?_;refine S3 3 J<|iL h J J L1 O6 λv2 _ h=>S2 3 J<|g7<|S4 4 J ?_;refine cN h (λhc h=>?_) λhc h=>?_
  .refine S3 3 J ?_;refine y0 J (s7 (cs:=[.I 3,.I v2.Gen,.I 0,.I 0,.I 0,.I 0,.bool false,.nl]) J ub np J J J)<|cF h H0 J J λv3 _ h=>S2 2 J<|b9 ?_;cases h;exact⟨J,[_,_],⟨oL J J J eE bV nl J,⟨J,tr⟩⟩,J,io⟩
  .refine c8 ?_;refine S3 4 J<|y0 J (s7 (cs:=[.I 0,.I (u4 (v2.Gen+1)),.I 0,.I 0,.I 0,.I 0,.bool false,.nl]) J ub np J J J)<|cF h H0 J J λv4 _ h=>S2 2 J<|b9 ?_;cases h;exact⟨J,[_,_],⟨oL J J J eE bV nl J,⟨J,tr⟩⟩,J,io⟩
theorem se{a0 a1}:PO Tryz.prog 306 [b6.Pv a0,.I a1] (dL a0 a1) λr=>b6.Pv r:=by
 refine pO Tryz.func306 λr h _ _=>?_;refine S4 2 J<|S3 2 J<|cF h mw J J λv1 _ h=>S2 1 J<|S3 4 J<|cA h G9 J J λv2 _ h=>S2 5 J<|g7<|S4 2 J ?_;refine cN h (λhc h=>?_) λhc h=>?_
 .refine S4 2 J ?_;refine b9 ?_;cases h;exact⟨J,[_],⟨oL J J J p9 o5 nl J,tr⟩,J,io⟩
 .refine c8 ?_;refine g7<|S3 5 J<|iL h J J L1 O6 λv3 _ h=>S2 3 J<|S3 4 J<|l5 J (λhg=>oF J Io J)<|l5 J (λhg=>oF (ct hg) Im J)<|l5 J (λhg=>oS (ct hg) J J F1 J)<|l5 J (λhg=>B5 (ct hg) J J)<|y0 J (B0 J J J (λq=>fW q))<|yN ?_;refine cN h (λhc h=>?_) λhc h=>?_
  .refine S5 4 J ?_;refine cF h cK J J λv4 _ h=>S2 6 J<|S4 2 J<|b9 ?_;cases h;exact⟨J,[_],⟨oL J J J p9 o5 nl J,tr⟩,J,io⟩
  .refine c8 ?_;refine S4 2 J<|b9 ?_;cases h;exact⟨J,[_],⟨oL J J J p9 o5 nl J,tr⟩,J,io⟩
theorem qz{a0 a1 a2 a3}:PO Tryz.prog 245 [b6.Pv a0,.I a1,.I a2,.I a3] (ao a0 a1 a2 a3) λr=>.tup [b6.Pv r.1,.I r.2]:=by
 refine pO Tryz.func245 λr h _ _=>?_;unfold ao at h;refine S4 3 J<|g7<|S3 3 J<|l5 J (λhg=>mI J)<|l5 J (λhg=>oF J Cd J)<|l5 J (λhg=>oS (ct hg) J J JJ J)<|l5 J (λhg=>bI (f:=c7.Pv) (ct hg) P9)<|l5 J (λhg=>B5 (ct hg) (ct hg) J)<|y0 J (I0 J J J (λq=>lM q))<|S1 1 J<|l5 J (λhg=>oF J Ce J)<|l5 J (λhg=>oL (ct hg) J J iA bW nl J)<|l5 J (λhg=>mI J)<|A5 h λv1 hv1 h=>l5 J (λhg=>N3 J xA (G1 (ct hg) (G1 (ct hg) J)) (K7 hv1 hg))<|y0 J (I0 J J J (λq=>lM q))<|yN ?_;refine cN h (λhc h=>?_) λhc h=>?_
 .refine S4 3 J ?_;refine b9 ?_;cases h;exact⟨J,[_,_],⟨oL J J J p9 o5 nl J,⟨J,tr⟩⟩,J,io⟩
 .refine c8 ?_;refine g7<|S3 2 J<|cA h S9 J J λv2 _ h=>S2 1 J ?_;refine cN h (λhc h=>?_) λhc h=>?_
  .refine S4 3 J ?_;refine b9 ?_;cases h;exact⟨J,[_,_],⟨oL J J J p9 o5 nl J,⟨J,tr⟩⟩,J,io⟩
  .refine c8 ?_;refine S3 5 J<|cF h Eb J J λv3 _ h=>S2 7 J<|S4 3 J<|S3 2 J<|cF h mw J J λv4 _ h=>S1 1 J<|cF h se J J λv5 _ h=>S2 2 J<|b9 ?_;cases h;exact⟨J,[_,_],⟨oL J J J p9 o5 nl J,⟨J,tr⟩⟩,J,io⟩
theorem cv{a0}:PO Tryz.prog 156 [p6.Pv a0] (R2 a0) λr=>.tup [b6.Pv r.1,.I r.2]:=by
 refine pO Tryz.func156 λr h _ _=>?_;refine S4 3 J<|g7<|S4 4 J ?_;refine cN h (λhc h=>?_) λhc h=>?_
 .refine S3 8 J ?_;refine cF h qz J J λv1 _ h=>S2 4 J<|b9 ?_;cases h;exact⟨J,[_,_],⟨oL J J J p9 o5 nl J,⟨J,tr⟩⟩,J,io⟩
 .refine c8 ?_;refine S3 5 J<|cA h P0 J J λv2 _ h=>S2 5 J<|g7<|S4 2 J ?_;refine cN h (λhc h=>?_) λhc h=>?_
  .refine S4 5 J ?_;refine b9 ?_;cases h;exact⟨J,[_,_],⟨oL J J J p9 o5 nl J,⟨J,tr⟩⟩,J,io⟩
  .refine c8 ?_;refine S3 9 J<|cF h qz J J λv3 _ h=>S2 4 J<|b9 ?_;cases h;exact⟨J,[_,_],⟨oL J J J p9 o5 nl J,⟨J,tr⟩⟩,J,io⟩
theorem BP{a0 a1}:PO Tryz.prog 246 [.L c7.Pv a0,.I a1] (jH a0 a1) λr=>.tup [.I r.1,.I r.2]:=by
 refine pO Tryz.func246 λr h _ _=>?_;refine S4 2 J<|g7<|S3 2 J<|cA h tE J J λv1 _ h=>S2 1 J ?_;refine cN h (λhc h=>?_) λhc h=>?_
 .refine S4 2 J ?_;refine b9 ?_;cases h;exact f2
 .refine c8 ?_;refine g7<|S3 2 J<|iL h J J P9 U3 λv2 hv2 h=>S1 4 J<|l5 J (λhg=>om (d:=.L c7.Pv a0) J)<|l5 J (λhg=>mI J)<|l5 J (λhg=>F2 (f:=c7.Pv) (cs:=c7.Pc v2) hv2 (ct hg) (ct hg) P9 U3 J J)<|l5 J (λhg=>E0 (ct hg) Ip J)<|l5 J (λhg=>P1 (ct hg) uU J)<|l5 J (λhg=>fg (ct hg) J)<|y0 J (I0 J J J (λq=>lM q))<|yN ?_;refine cN h (λhc h=>?_) λhc h=>?_
  .refine S4 2 J ?_;refine b9 ?_;cases h;exact f2
  .refine c8 ?_;refine S3 2 J<|y0 J (F2 (f:=c7.Pv) (cs:=c7.Pc v2) hv2 J J P9 U3 J J)<|S2 4 J<|b9 ?_;cases h;exact f2
theorem gh{a0}:PO Tryz.prog 157 [p6.Pv a0] (V3 a0) λr=>.tup [b6.Pv r.1,.I r.2]:=by
 refine pO Tryz.func157 λr h _ _=>?_;unfold V3 at h;refine S4 3 J<|dr [] w9 (by kernel_rfl) (by kernel_rfl)<|S7 7 J<|A5 h λv1 hv1 h=>d2 J (N3 J BP J hv1) J<|S7 2 J<|A5 h λv2 hv2 h=>iS J (A3 J F4 J hv2) J<|S7 2 J<|E6 (x':=b6.Pv v2.1) (cl':=true) J J (.inr J) o5<|S8 1 J<|b9 ?_;cases h;exact⟨J,[_,_],⟨oL J J J p9 o5 nl J,⟨J,tr⟩⟩,J,io⟩
theorem qw{a0 a1}:PO Tryz.prog 351 [.I a0,.I a1] (fH a0 a1) λr=>.fn (.func 364) [.rptr [.I r.1],.rptr [.I r.2]]:=by
 refine pO Tryz.func351 λr h _ _=>?_;unfold fH at h;refine S4 3 J<|S4 2 J<|b9 ?_;cases h;exact f1
theorem qt{a0 a1}:PO Tryz.prog 365 [.I a0,.I a1] (ak a0 a1) λr=>.I r:=by
 refine pO Tryz.func365 λr h _ _=>?_;refine S4 1 J<|g7<|S4 2 J ?_;refine cN h (λhc h=>?_) λhc h=>?_
 .refine S4 1 J ?_;refine b9 ?_;cases h;exact f1
 .refine c8 ?_;refine S3 4 J<|A5 h λv1 hv1 h=>y0 J (tl J J hv1)<|S2 1 J<|g7<|S4 2 J ?_;refine cN h (λhc h=>?_) λhc h=>?_
  .refine S6 4 J ?_;refine S4 2 J<|b9 ?_;cases h;exact f1
  .refine c8 ?_;refine S4 2 J<|b9 ?_;cases h;exact f1
theorem ko{a0 a1}:PO Tryz.prog 321 [.L b8.Pv a0,.I a1] (W0 a0 a1) λr=>.I r:=by
 refine pO Tryz.func321 λr h _ _=>?_;refine S4 3 J ?_;refine jq h (λ_=>St.of [(4,.ptr 2001 0 0)] [(2001,vR (.I 0) 1)]) (λq9 h=>?_) λκ8 h=>?_
 .refine S4 1 J ?_;refine b9 ?_;cases h;exact⟨J,[_],⟨oS J J J F1 J,tr⟩,J,io⟩
 .refine S3 1 J ?_;refine nL J W5<|S1 1 J<|cF h qw J J λv10 _ h=>yN<|g8<|cX (uY (λl=>if l=2004 then 4 else if l=2005 then 3 else if l=2006 then 2 else l) [(2,.ptr 2006 0 0),(3,.ptr 2005 0 0),(4,.ptr 2004 0 0),(9,.fn (.func 364) [.rptr [.I v10.1],.rptr [.I v10.2]])] [(2004,vR (.I 0) 1),(2005,vR (.I a1) 1),(2006,vR (.L b8.Pv a0) 1)]) ?_;refine cC (fn:=Tryz.f364) (N1:=20) J Tryz.func364 J J nl J Gw J J (λl17 e18 o19 hR20=>?_);refine S4 2 J<|g8<|lq h (λs12=>St.of [(1000002,.ptr 2006 0 0),(1000003,.ptr 2005 0 0),(1000004,.ptr 2004 0 0),(1000009,.fn (.func 364) [.rptr [.I v10.1],.rptr [.I v10.2]]),(0,.fn (.yield l17) []),(1,.rptr [.I v10.1]),(2,.rptr [.I v10.2]),(5,.I v10.1),(6,.I s12)] [(2004,vR (.I 0) 1),(2005,vR (.I a1) 1),(2006,vR (.L b8.Pv a0) 1)]) W λs12 x13 h hx23=>S4 1 J<|g7 ?_;refine cN h (λhc h=>?_) λhc h=>?_
  .refine c8 ?_;refine g7<|g8<|S4 2 J<|Xm [] 8 w9 (by kernel_rfl) (by kernel_rfl) (by kernel_rfl) (by kernel_rfl) nl<|S7 3 J<|A5 h λv14 hv24 h=>d2 J (N3 J qt J hv24) J<|S7 3 J<|A5 h λv15 hv25 h=>d7 J (λ_ hN=>tl J J hv25) J<|V1<|Mf (WE [(1000002,.ptr 2006 0 0),(1000003,.ptr 2005 0 0),(1000004,.ptr 2004 0 0),(1000009,.fn (.func 364) [.rptr [.I v10.1],.rptr [.I v10.2]]),(0,.fn (.yield l17) []),(1,.rptr [.I v10.1]),(2,.rptr [.I v10.2]),(5,.I v10.1),(6,.I s12),(9,.fn (.yield l17) []),(16,.I v15)] [(2004,vR (.I 0) 1),(2005,vR (.I a1) 1),(2006,vR (.L b8.Pv a0) 1)]) ?_;refine xb J hR20 J J J J J J (λe26 o27 o28=>?_);refine S6 1 J ?_;refine⟨J,?_⟩;refine g8<|g7<|S3 2 J<|iL h J J W5 ah λv16 hv29 h=>S2 3 J ?_;refine cN h (λhc h=>?_) λhc h=>?_
   .refine r7 ?_;refine e6<|jV (by decide) ?_;refine⟨J,?_⟩;refine⟨_,wX [(1000002,.ptr 2006 0 0),(1000003,.ptr 2005 0 0),(1000004,.ptr 2004 0 0),(1000009,.fn (.func 364) [.rptr [.I v10.1],.rptr [.I v10.2]]),(0,.fn (.yield l17) []),(1,.rptr [.I v10.1]),(2,.rptr [.I v10.2]),(5,.I v10.1),(6,.I s12),(17,.bool false)] [(2004,vR (.I 0) 1),(2005,vR (.I a1) 1),(2006,vR (.L b8.Pv a0) 1)] ⟨J,J,J,J,J,J,J,J,J,J,J,J,J,J,J,J,J,J,J,J,J,J,J,J,J,J,J,J,J,J,tr⟩ ⟨rS,rS,rS,tr⟩,?_⟩;refine S8 1 J ?_;refine G7 true J (λ_=>?_) (λq=>nomatch q);refine b9 ?_;refine .inr ⟨.exit 0,J,WS ?_⟩;refine m7 ?_;have h:=xL hx23 h;exact eJ h (WP (λl=>if l=2001 then 2004 else l))
   .refine c8 ?_;refine dr [] w9 (by kernel_rfl) (by kernel_rfl)<|S7 2 J<|d0 J (F2 (f:=b8.Pv) (cs:=b8.Pc v16) hv29 J J W5 ah J J) J<|S7 4 J<|aQ J (λhg=>oS J J J uT J) J<|R7 J (λhg _ hN=>mI J) J ?_;refine aQ J (λhg=>F2 (f:=b8.Pv) (cs:=b8.Pc v16) hv29 (ct hg) (ct hg) W5 ah J J) J<|R7 J (λhg _ hN=>E0 (ct hg) Iq J) J ?_;refine aQ J (λhg=>P1 (ct hg) F1 J) J<|aQ J (λhg=>oS J J J F1 J) J<|R7 J (λhg _ hN=>B5 (ct hg) (ct hg) J) J<|d7 J (λ_ hN=>B0 J J J (λq=>fW q)) J<|V1 ?_;refine cN h (λhc h=>?_) λhc h=>?_
    .refine S4 2 J ?_;refine b9 ?_;refine⟨J,?_⟩;refine⟨_,wX [(1000002,.ptr 2006 0 0),(1000003,.ptr 2005 0 0),(1000004,.ptr 2004 0 0),(1000009,.fn (.func 364) [.rptr [.I v10.1],.rptr [.I v10.2]]),(0,.fn (.yield l17) []),(1,.rptr [.I v10.1]),(2,.rptr [.I v10.2]),(5,.I v10.1),(6,.I s12),(17,.bool false)] [(2004,vR (.I v15) 1),(2005,vR (.I a1) 1),(2006,vR (.L b8.Pv a0) 1)] ⟨J,J,J,J,J,J,J,J,J,J,J,J,J,J,J,J,J,J,J,J,J,J,J,J,J,J,J,J,J,J,tr⟩ ⟨rS,rS,rS,tr⟩,?_⟩;refine S8 1 J ?_;refine G7 true J (λ_=>?_) (λq=>nomatch q);refine b9 ?_;refine .inr ⟨.ret,J,OU ?_⟩;have h:=xL hx23 h;cases h;exact⟨J,[_],⟨oS J J J F1 J,tr⟩,J,io⟩
    .refine c8 ?_;refine⟨J,?_⟩;refine⟨_,wX [(1000002,.ptr 2006 0 0),(1000003,.ptr 2005 0 0),(1000004,.ptr 2004 0 0),(1000009,.fn (.func 364) [.rptr [.I v10.1],.rptr [.I v10.2]]),(0,.fn (.yield l17) []),(1,.rptr [.I v10.1]),(2,.rptr [.I v10.2]),(5,.I v10.1),(6,.I s12),(17,.bool true)] [(2004,vR (.I 0) 1),(2005,vR (.I a1) 1),(2006,vR (.L b8.Pv a0) 1)] ⟨J,J,J,J,J,J,J,J,J,J,J,J,J,J,J,J,J,J,J,J,J,J,J,J,J,J,J,J,J,J,tr⟩ ⟨rS,rS,rS,tr⟩,?_⟩;refine S8 1 J ?_;refine G7 false J (λq=>nomatch q) (λ_=>?_);refine c8<|S6 2 J ?_;exact eL h W
  .refine r7 ?_;refine e6<|e6<|m7 ?_;refine .inl ⟨J,?_⟩;have h:=xL hx23 h;exact eJ h (WP (λl=>if l=2001 then 2004 else l))
theorem gS{a0 a1}:PO Tryz.prog 311 [.L b8.Pv a0,.I a1] (K0 a0 a1) λr=>.tup [.I r.1,.I r.2]:=by
 refine pO Tryz.func311 λr h _ _=>?_;refine S4 2 J<|S3 2 J<|cA h ko J J λv1 _ h=>S2 1 J<|g7<|S4 2 J ?_;refine cN h (λhc h=>?_) λhc h=>?_
 .refine S4 2 J ?_;refine b9 ?_;cases h;exact f2
 .refine c8 ?_;refine S3 2 J<|iL h J J W5 ah λv2 _ h=>S2 4 J<|b9 ?_;cases h;exact f2
theorem Z6{a0}:QE Tryz.prog 352 [.L b8.Pv a0] (C7 a0) λr=>⟨List.map b8.Pv r,0,true,3,true⟩:=by
 refine Uy Tryz.func352 λr h _ _=>?_;unfold C7 at h;refine S4 1 J<|g7<|S3 1 J<|BR J W5 λb hb=>yN ?_;refine G7 b J (λhc=>?_) (λhc=>?_)
 .obtain rfl:a0 = []:=by simpa using hb hc
  refine S4 1 J<|cX (M7 (t:=2) (l:=920000) (z:=3) J J)<|b9 ?_;cases h;exact⟨J,_,_,J,J,J,J⟩
 .refine c8 ?_;refine sR<|y0 J (aT J W5 ah)<|S1 1 J<|y1 J (yn (f:=b8.Pv) h J J (.inl ⟨_,J,J⟩) W5 ah Gt ud J (λ_=>J)) J<|S2 1 J<|b9 ?_;exact⟨J,_,_,J,J,J,J⟩
theorem kp{a0 a1 a2}:PO Tryz.prog 322 [.L b8.Pv a0,.I a1,b8.Pv a2] (bG a0 a1 a2) λr=>.L b8.Pv r:=by
 refine pO Tryz.func322 λr h _ _=>?_;unfold bG at h;refine S4 2 J<|S3 1 J<|A5 h λv1 hv1 h=>UC J (vN J Z6 J hv1) J J<|S2 1 J<|S3 3 J<|A5 h λv2 hv2 h=>y0 J (oR (f:=b8.Pv) hv2 J J J J W5 ah J)<|xa (f:=b8.Pv) (v:=a2) hv2 J J (.inl J) ah<|yN<|S4 2 J<|b9 ?_;cases h;exact f1
theorem qs{a0 a1}:PO Tryz.prog 255 [.L b8.Pv a0,.I a1] (V9 a0 a1) λr=>.tup [.L b8.Pv r.1,.I r.2.1,.I r.2.2]:=by
 refine pO Tryz.func255 λr h _ _=>?_;refine S4 3 J<|S3 2 J<|cA h ko J J λv1 _ h=>S2 1 J<|g7<|S4 2 J ?_;refine cN h (λhc h=>?_) λhc h=>?_
 .refine S4 4 J ?_;refine b9 ?_;cases h;exact f3
 .refine c8 ?_;refine dr [] w9 (by kernel_rfl) (by kernel_rfl)<|S7 2 J<|d7 J (λ_ hN=>s7 (cs:=[.I 2,.I 0,.I 0]) J Gz ud J J J) J<|A5 h λv2 hv2 h=>iS J (A3 J kp J hv2) J<|S7 2 J<|A5 h λv3 hv3 h=>d0 J (F2 (f:=b8.Pv) (cs:=b8.Pc v3) hv3 J J W5 ah J J) J<|S8 5 J<|b9 ?_;cases h;exact f3
theorem CM{a0 a1 a2}:PO Tryz.prog 347 [.L b8.Pv a0,.I a1,.I a2] (mq a0 a1 a2) λr=>.tup [.L b8.Pv r.1,.I r.2]:=by
 refine pO Tryz.func347 λr h _ _=>?_;refine S4 3 J<|S3 2 J<|y0 J (s7 (cs:=[.I 1,.I a1,.I a2]) J Gz ud J J J)<|S2 2 J<|g7<|S3 2 J<|cA h ko J J λv1 _ h=>S2 1 J<|S4 2 J ?_;refine cN h (λhc h=>?_) λhc h=>?_
 .refine S3 3 J ?_;refine cF h kp J J λv2 _ h=>S2 2 J<|b9 ?_;cases h;exact⟨J,[_,_],⟨oS J J J uT J,⟨oS J J J oZ J,tr⟩⟩,J,io⟩
 .refine c8 ?_;refine jq h (λ_=>St.of [(3,.ptr 2004 0 0),(6,.ptr 2003 0 0),(7,.ptr 2002 0 0)] [(2002,vR (.I 0) 1),(2003,vR (.nl) 1),(2004,vR (.L b8.Pv a0) 1)]) (λq12 h=>?_) λκ11 h=>?_
  .refine S4 3 J ?_;refine b9 ?_;cases h;exact⟨J,[_,_],⟨oS J J J uT J,⟨oS J J J oZ J,tr⟩⟩,J,io⟩
  .refine S3 1 J ?_;refine nL J W5<|S1 1 J<|cF h qw J J λv13 _ h=>yN<|g8<|cX (uY (λl=>if l=2005 then 8 else if l=2006 then 7 else if l=2007 then 6 else if l=2008 then 3 else l) [(3,.ptr 2008 0 0),(6,.ptr 2007 0 0),(7,.ptr 2006 0 0),(8,.ptr 2005 0 0),(26,.fn (.func 364) [.rptr [.I v13.1],.rptr [.I v13.2]])] [(2005,vR (.agg [.I 1,.I a1,.I a2]) 3),(2006,vR (.I 0) 1),(2007,vR (.nl) 1),(2008,vR (.L b8.Pv a0) 1)]) ?_;refine cC (fn:=Tryz.f364) (N1:=20) J Tryz.func364 J J nl J Gw J J (λl20 e21 o22 hR23=>?_);refine S4 2 J<|g8<|lq h (λs15=>St.of [(1000003,.ptr 2008 0 0),(1000006,.ptr 2007 0 0),(1000007,.ptr 2006 0 0),(1000008,.ptr 2005 0 0),(1000026,.fn (.func 364) [.rptr [.I v13.1],.rptr [.I v13.2]]),(0,.fn (.yield l20) []),(1,.rptr [.I v13.1]),(2,.rptr [.I v13.2]),(5,.I v13.1),(6,.I s15)] [(2005,vR (.agg [.I 1,.I a1,.I a2]) 3),(2006,vR (.I 0) 1),(2007,vR (.nl) 1),(2008,vR (.L b8.Pv a0) 1)]) W λs15 x16 h hx26=>S4 1 J<|g7 ?_;refine cN h (λhc h=>?_) λhc h=>?_
   .refine c8 ?_;refine g7<|g8<|S4 2 J<|Xm [] 8 w9 (by kernel_rfl) (by kernel_rfl) (by kernel_rfl) (by kernel_rfl) nl<|S7 3 J<|A5 h λv17 hv27 h=>d2 J (N3 J qt J hv27) J<|S7 3 J<|A5 h λv18 hv28 h=>d7 J (λ_ hN=>tl J J hv28) J<|V1<|Mf (WE [(1000003,.ptr 2008 0 0),(1000006,.ptr 2007 0 0),(1000007,.ptr 2006 0 0),(1000008,.ptr 2005 0 0),(1000026,.fn (.func 364) [.rptr [.I v13.1],.rptr [.I v13.2]]),(0,.fn (.yield l20) []),(1,.rptr [.I v13.1]),(2,.rptr [.I v13.2]),(5,.I v13.1),(6,.I s15),(9,.fn (.yield l20) []),(16,.I v18)] [(2005,vR (.agg [.I 1,.I a1,.I a2]) 3),(2006,vR (.I 0) 1),(2007,vR (.nl) 1),(2008,vR (.L b8.Pv a0) 1)]) ?_;refine xb J hR23 J J J J J J (λe29 o30 o31=>?_);refine S6 1 J ?_;refine⟨J,?_⟩;refine g8<|S3 2 J<|iL h J J W5 ah λv19 _ h=>S2 3 J ?_;refine cN h (λhc h=>?_) λhc h=>?_
    .refine S3 3 J ?_;refine cF h kp J J λv20 _ h=>S2 2 J<|b9 ?_;refine⟨J,?_⟩;refine⟨_,wX [(1000003,.ptr 2008 0 0),(1000006,.ptr 2007 0 0),(1000007,.ptr 2006 0 0),(1000008,.ptr 2005 0 0),(1000026,.fn (.func 364) [.rptr [.I v13.1],.rptr [.I v13.2]]),(0,.fn (.yield l20) []),(1,.rptr [.I v13.1]),(2,.rptr [.I v13.2]),(5,.I v13.1),(6,.I s15),(17,.bool false)] [(2005,vR (.agg [.I 1,.I a1,.I a2]) 3),(2006,vR (.I 0) 1),(2007,vR (.L b8.Pv v20) 1),(2008,vR (.L b8.Pv a0) 1)] ⟨J,J,J,J,J,J,J,J,J,J,J,J,J,J,J,J,J,J,J,J,J,J,J,J,J,J,J,J,J,J,J,J,J,tr⟩ ⟨rS,rS,rS,rS,tr⟩,?_⟩;refine S8 1 J ?_;refine G7 true J (λ_=>?_) (λq=>nomatch q);refine b9 ?_;refine .inr ⟨.ret,J,OU ?_⟩;have h:=xL hx26 h;cases h;exact⟨J,[_,_],⟨oS J J J uT J,⟨oS J J J oZ J,tr⟩⟩,J,io⟩
    .refine c8 ?_;refine⟨J,?_⟩;refine⟨_,wX [(1000003,.ptr 2008 0 0),(1000006,.ptr 2007 0 0),(1000007,.ptr 2006 0 0),(1000008,.ptr 2005 0 0),(1000026,.fn (.func 364) [.rptr [.I v13.1],.rptr [.I v13.2]]),(0,.fn (.yield l20) []),(1,.rptr [.I v13.1]),(2,.rptr [.I v13.2]),(5,.I v13.1),(6,.I s15),(17,.bool true)] [(2005,vR (.agg [.I 1,.I a1,.I a2]) 3),(2006,vR (.I 0) 1),(2007,vR (.nl) 1),(2008,vR (.L b8.Pv a0) 1)] ⟨J,J,J,J,J,J,J,J,J,J,J,J,J,J,J,J,J,J,J,J,J,J,J,J,J,J,J,J,J,J,J,J,J,tr⟩ ⟨rS,rS,rS,rS,tr⟩,?_⟩;refine S8 1 J ?_;refine G7 false J (λq=>nomatch q) (λ_=>?_);refine c8<|S6 2 J ?_;exact eL h W
   .refine r7 ?_;refine e6<|e6<|m7 ?_;refine .inl ⟨J,?_⟩;have h:=xL hx26 h;exact eJ h (WP (λl=>if l=2004 then 2008 else if l=2003 then 2007 else if l=2002 then 2006 else l))
theorem Am{a0 a1 a2}:PO Tryz.prog 309 [.L b8.Pv a0,.I a1,.I a2] (R8 a0 a1 a2) λr=>.tup [.L b8.Pv r.1,.I r.2.1,.I r.2.2]:=by
 refine pO Tryz.func309 λr h _ _=>?_;refine S4 3 J<|g7<|S4 2 J ?_;refine cN h (λhc h=>?_) λhc h=>?_
 .refine S4 4 J ?_;refine b9 ?_;cases h;exact f3
 .refine c8 ?_;refine S3 2 J<|cA h gS J J λv1 _ h=>S2 5 J<|g7<|S4 2 J ?_;refine cN h (λhc h=>?_) λhc h=>?_
  .refine S3 2 J ?_;refine cF h qs J J λv2 _ h=>S2 7 J<|S4 5 J<|b9 ?_;cases h;exact f3
  .refine c8 ?_;refine S3 3 J<|cF h CM J J λv3 _ h=>S2 5 J<|g7<|S4 2 J ?_;refine cN h (λhc h=>?_) λhc h=>?_
   .refine S4 5 J ?_;refine b9 ?_;cases h;exact f3
   .refine c8 ?_;refine S4 5 J<|b9 ?_;cases h;exact f3
theorem lN{a0 a1}:PO Tryz.prog 310 [G3.Pv a0,b6.Pv a1] (U7 a0 a1) λr=>b6.Pv r:=by
 refine pO Tryz.func310 λr h _ _=>?_;unfold U7 at h;refine S4 3 J<|S4 4 J<|S4 2 J<|b9 ?_;cases h;exact⟨J,[_],⟨oL J J J p9 o5 nl J,tr⟩,J,io⟩
theorem bm{a0 a1 a2 a3}:PO Tryz.prog 302 [b6.Pv a0,.I a1,.I a2,.abs (QC 310 [G3.Pv a3])] (H6 a0 a1 a2 a3) λr=>b6.Pv r:=by
 refine pO Tryz.func302 λr h _ _=>?_;refine S4 2 J<|S3 3 J<|cF h cm J J λv1 _ h=>A5 h λv2 hv2 h=>BQ (xs:=[b6.Pv v1]) J J NJ J (lN.2 _ hv2)<|S1 1 J<|cF h V2 J J λv3 _ h=>S2 1 J<|b9 ?_;cases h;exact⟨J,[_],⟨oL J J J p9 o5 nl J,tr⟩,J,io⟩
theorem AE{a0 a1 a2}:PO Tryz.prog 247 [b6.Pv a0,.I a1,.I a2] (fI a0 a1 a2) λr=>.tup [b6.Pv r.1,.I r.2]:=by
 refine pO Tryz.func247 λr h _ _=>?_;refine S4 3 J<|g7<|S4 2 J ?_;refine cN h (λhc h=>?_) λhc h=>?_
 .refine S4 3 J ?_;refine b9 ?_;cases h;exact⟨J,[_,_],⟨oL J J J p9 o5 nl J,⟨J,tr⟩⟩,J,io⟩
 .refine c8 ?_;refine g7<|S3 2 J<|cA h S9 J J λv1 _ h=>S1 2 J<|l5 J (λhg=>oL J J J p9 o5 nl J)<|l5 J (λhg=>mI J)<|A5 h λv2 hv2 h=>l5 J (λhg=>N3 J S9 (G1 (ct hg) (G1 (ct hg) J)) (K7 hv2 hg))<|l5 J (λhg=>fg (ct hg) J)<|y0 J (I0 J J J (λq=>lM q))<|yN ?_;refine cN h (λhc h=>?_) λhc h=>?_
  .refine S4 3 J ?_;refine b9 ?_;cases h;exact⟨J,[_,_],⟨oL J J J p9 o5 nl J,⟨J,tr⟩⟩,J,io⟩
  .refine c8 ?_;refine S3 4 J<|cF h Am J J λv3 _ h=>S2 7 J<|g7<|S4 2 J ?_;refine cN h (λhc h=>?_) λhc h=>?_
   .refine S4 4 J ?_;refine b9 ?_;cases h;exact⟨J,[_,_],⟨oL J J J p9 o5 nl J,⟨J,tr⟩⟩,J,io⟩
   .refine c8 ?_;refine S3 4 J<|y0 J (s7 (cs:=[.L b8.Pv v3.1]) J NY Oo J J J)<|y0 J (ss (d:=.agg [.L b8.Pv v3.1]) J)<|cF h bm J J λv4 _ h=>S2 2 J<|b9 ?_;cases h;exact⟨J,[_,_],⟨oL J J J p9 o5 nl J,⟨J,tr⟩⟩,J,io⟩
theorem ee{a0}:PO Tryz.prog 158 [p6.Pv a0] (Y1 a0) λr=>.tup [b6.Pv r.1,.I r.2]:=by
 refine pO Tryz.func158 λr h _ _=>?_;refine S4 3 J<|S3 5 J<|cA h P0 J J λv1 _ h=>S2 5 J<|g7<|S4 2 J ?_;refine cN h (λhc h=>?_) λhc h=>?_
 .refine S4 5 J ?_;refine b9 ?_;cases h;exact⟨J,[_,_],⟨oL J J J p9 o5 nl J,⟨J,tr⟩⟩,J,io⟩
 .refine c8 ?_;refine dr [] w9 (by kernel_rfl) (by kernel_rfl)<|S7 8 J<|A5 h λv2 hv2 h=>d2 J (N3 J L4 J hv2) J<|A5 h λv3 hv3 h=>iS J (A3 J AE J hv3) J<|S7 2 J<|E6 (x':=b6.Pv v3.1) (cl':=true) J J (.inr J) o5<|S8 1 J<|b9 ?_;cases h;exact⟨J,[_,_],⟨oL J J J p9 o5 nl J,⟨J,tr⟩⟩,J,io⟩
theorem Al{a0 a1}:PO Tryz.prog 248 [.L b8.Pv a0,.I a1] (rQ a0 a1) λr=>.tup [.I r.1,.I r.2]:=by
 refine pO Tryz.func248 λr h _ _=>?_;refine S4 2 J<|S3 2 J<|cA h gS J J λv1 _ h=>S2 4 J<|b9 ?_;cases h;exact f2
theorem ff{a0}:PO Tryz.prog 159 [p6.Pv a0] (aq a0) λr=>.tup [b6.Pv r.1,.I r.2]:=by
 refine pO Tryz.func159 λr h _ _=>?_;refine S4 3 J<|S3 5 J<|cA h P0 J J λv1 _ h=>S2 5 J<|g7<|S4 2 J ?_;refine cN h (λhc h=>?_) λhc h=>?_
 .refine S4 5 J ?_;refine b9 ?_;cases h;exact⟨J,[_,_],⟨oL J J J p9 o5 nl J,⟨J,tr⟩⟩,J,io⟩
 .refine c8 ?_;refine dr [] w9 (by kernel_rfl) (by kernel_rfl)<|S7 5 J<|A5 h λv2 hv2 h=>d2 J (N3 J Al J hv2) J<|S7 2 J<|A5 h λv3 hv3 h=>iS J (A3 J F4 J hv3) J<|S7 2 J<|E6 (x':=b6.Pv v3.1) (cl':=true) J J (.inr J) o5<|S8 1 J<|b9 ?_;cases h;exact⟨J,[_,_],⟨oL J J J p9 o5 nl J,⟨J,tr⟩⟩,J,io⟩
theorem cV{a0}:PO Tryz.prog 160 [p6.Pv a0] (N8 a0) λr=>.tup [b6.Pv r.1,.I r.2]:=by
 refine pO Tryz.func160 λr h _ _=>?_;unfold N8 at h;refine S4 3 J<|S4 4 J<|b9 ?_;cases h;exact⟨J,[_,_],⟨oL J J J p9 o5 nl J,⟨J,tr⟩⟩,J,io⟩
theorem ER{f:Fv}{a0:p6}{r:b6 × Int}(h:uk f a0=some r):∃n,f=some n/\A7 Tryz.prog n/\W4 Tryz.prog n [p6.Pv a0] (.tup [b6.Pv r.1,.I r.2]):=by
 unfold uk at h;by_cases e151:f=some 151
 .rw[zb e151] at h;exact⟨151,e151,(@cu a0).1,(@cu a0).2 _ h⟩
 rw[za e151] at h;by_cases e152:f=some 152
 .rw[zb e152] at h;exact⟨152,e152,(@aE a0).1,(@aE a0).2 _ h⟩
 rw[za e152] at h;by_cases e153:f=some 153
 .rw[zb e153] at h;exact⟨153,e153,(@dZ a0).1,(@dZ a0).2 _ h⟩
 rw[za e153] at h;by_cases e154:f=some 154
 .rw[zb e154] at h;exact⟨154,e154,(@ed a0).1,(@ed a0).2 _ h⟩
 rw[za e154] at h;by_cases e155:f=some 155
 .rw[zb e155] at h;exact⟨155,e155,(@cW a0).1,(@cW a0).2 _ h⟩
 rw[za e155] at h;by_cases e156:f=some 156
 .rw[zb e156] at h;exact⟨156,e156,(@cv a0).1,(@cv a0).2 _ h⟩
 rw[za e156] at h;by_cases e157:f=some 157
 .rw[zb e157] at h;exact⟨157,e157,(@gh a0).1,(@gh a0).2 _ h⟩
 rw[za e157] at h;by_cases e158:f=some 158
 .rw[zb e158] at h;exact⟨158,e158,(@ee a0).1,(@ee a0).2 _ h⟩
 rw[za e158] at h;by_cases e159:f=some 159
 .rw[zb e159] at h;exact⟨159,e159,(@ff a0).1,(@ff a0).2 _ h⟩
 rw[za e159] at h;by_cases e160:f=some 160
 .rw[zb e160] at h;exact⟨160,e160,(@cV a0).1,(@cV a0).2 _ h⟩
 rw[za e160] at h;cases h
theorem iX{a0}:PO Tryz.prog 209 [.I a0] (aP a0) λr=>.bool r:=by
 refine pO Tryz.func209 λr h _ _=>?_;unfold aP at h;refine S4 1 J<|S4 4 J<|b9 ?_;cases h;exact f1
theorem pd{a0 a1}:PO Tryz.prog 125 [.I a0,.I a1] (eK a0 a1) λr=>.I r:=by
 refine pO Tryz.func125 λr h _ _=>?_;refine S4 1 J<|S3 1 J<|cA h iX J J λv1 _ h=>S2 1 J<|S3 1 J<|cA h iX J J λv2 _ h=>S2 1 J<|g7<|S4 1 J ?_;refine cN h (λhc h=>?_) λhc h=>?_
 .refine g7 ?_;refine S4 1 J ?_;refine cN h (λhc h=>?_) λhc h=>?_
  .refine S4 1 J ?_;refine b9 ?_;cases h;exact f1
  .refine c8 ?_;refine S4 1 J<|b9 ?_;cases h;exact f1
 .refine c8 ?_;refine g7<|S4 1 J ?_;refine cN h (λhc h=>?_) λhc h=>?_
  .refine S4 1 J ?_;refine b9 ?_;cases h;exact f1
  .refine c8 ?_;refine g7<|S4 3 J ?_;refine cN h (λhc h=>?_) λhc h=>?_
   .refine S4 1 J ?_;refine b9 ?_;cases h;exact f1
   .refine c8 ?_;refine g7<|S4 3 J ?_;refine cN h (λhc h=>?_) λhc h=>?_
    .refine S4 1 J ?_;refine b9 ?_;cases h;exact f1
    .refine c8 ?_;refine S4 1 J<|b9 ?_;cases h;exact f1
theorem tT{a0 a1 a2}:PO Tryz.prog 124 [.I a0,.I a1,.rptr [.abs (U9 (List.map (fV iF iF) a2))]] (fE a0 a1 a2) λr=>.I r:=by
 refine pO Tryz.func124 λr h _ _=>?_;refine S4 1 J<|S3 2 J<|y0 J (Db (es:=a2) (k:=a0) (E:=iF) (EK:=iF) (d:=.I ((A6 a2 a0).getD (0:Int))) J J uW (y8 J8) D5 J (SQ _ _ _))<|S1 2 J<|y0 J (Db (es:=a2) (k:=a1) (E:=iF) (EK:=iF) (d:=.I ((A6 a2 a1).getD (0:Int))) J J uW (y8 J8) D5 J (SQ _ _ _))<|cA h pd J J λv1 _ h=>S2 1 J<|b9 ?_;cases h;exact f1
theorem J6{a0}:PO Tryz.prog 68 [a7.Pv a0] (C8 a0) λr=>.L iF r:=by
 refine pO Tryz.func68 λr h _ _=>?_;refine S4 2 J<|S4 1 J<|sR<|Ed (KT:=Int) (VT:=Int) (EK:=iF) (E:=iF) 5000008 J J<|S2 2 J ?_;refine jq h (λq=>St.of [(3,.sl 910003),(4,.ptr 4 0 0)] [(4,vS (.mp 5000008) 1),(5000008,⟨[.mapc (List.map (fV iF iF) q.1)],0,false,0,false⟩),(910003,⟨List.map iF q.2,0,true,1,true⟩)]) (λq20 h=>?_) λκ17 h=>?_
 .obtain⟨j18,j19⟩:=q20;refine S3 2 J<|Q9 (Wk.trans (QA 5000008 nl J) (Up 4 0 5000008 J J J J))<|A5 h λv21 hv12 h=>Ut hv12 J J NF Ue J J J NG J J J J J (λp q r h=>tT.2 r h)<|yN<|S4 2 J<|b9 ?_;cases h;exact f1
 .refine S3 3 J ?_;refine nL J L1<|S2 1 J<|g8<|lq h (λq=>St.of [(3,.sl 910003),(4,.ptr 4 0 0),(11,.L b7.Pv a0.S.a8),(12,.I (a0.S.a8.length:Int)),(13,.I q.1)] [(4,vS (.mp 5000008) 1),(5000008,⟨[.mapc (List.map (fV iF iF) q.2.1)],0,false,0,false⟩),(910003,⟨List.map iF q.2.2,0,true,1,true⟩)]) (Wk.trans (M7 (t:=3) (l:=920003) (z:=1) J J) (WP (λl=>if l=910003 then 920003 else l))) λq27 x26 h hx15=>?_;obtain⟨s23,s24,s25⟩:=q27;refine S4 1 J<|g7 ?_;refine cN h (λhc h=>?_) λhc h=>?_
  .refine c8 ?_;refine jq h (λq=>St.of [(3,.sl 33),(4,.ptr 4 0 0),(11,.L b7.Pv a0.S.a8),(12,.I (a0.S.a8.length:Int)),(13,.I s23)] [(4,vS (.mp 5000008) 1),(5000008,⟨[.mapc (List.map (fV iF iF) q.1)],0,false,0,false⟩),(33,⟨List.map iF q.2,0,true,1,true⟩)]) (λq34 h=>?_) λκ31 h=>?_
   .obtain⟨j32,j33⟩:=q34;refine S6 2 J ?_;exact eL h (WP (λl=>if l=910003 then 33 else l))
   .refine g8 ?_;refine S3 1 J<|iL h J J L1 O6 λv35 _ h=>S2 4 J<|S4 3 J ?_;refine cN h (λhc h=>?_) λhc h=>?_
    .refine S3 3 J ?_;refine cA h mn J J λv36 _ h=>S2 1 J<|S3 5 J<|aM (es:=s24) (k:=v36) (v:=v35.Val.Serial) (E:=iF) (EK:=iF) (.inl J) J J J J J J uW (y8 J8)<|yN<|S5 2 J<|y0 J (N2 (f:=iF) (l:=[v36]) J l7 r8 D5 J J nl J J)<|A5 h λv37 hv22 h=>Rv (f:=iF) (b:=8) [(4,.ptr 4 0 0),(11,.L b7.Pv a0.S.a8),(12,.I (a0.S.a8.length:Int)),(13,.I s23),(14,.bool (decide (s23<(a0.S.a8.length:Int)))),(15,.I s23),(16,.rptr (b7.Pc v35)),(17,b7.Pv v35),(6,.ptr 6 0 0),(5,.I s23),(18,.ptr 6 0 0),(19,.I v35.State),(20,.bool (v35.State==1)),(21,.I s23),(22,.ptr 6 0 1),(23,.I v35.Gen),(24,.I v36),(7,.I v36),(25,.mp 5000008),(26,.I v36),(27,.ptr 6 0 2),(28,.ptr 6 0 2),(29,.I v35.Val.Serial),(31,.I v36),(32,.lst true (List.map iF [v36]))] [(6,vR (b7.Pv v35) 8),(5000008,⟨[.mapc (List.map (fV iF iF) (o8 s24 v36 v35.Val.Serial))],0,false,0,false⟩),(4,vS (.mp 5000008) 1)] J hv22 ⟨J,J,J,J,J,J,J,J,J,J,J,J,J,J,J,J,J,J,J,J,J,J,J,J,J,J,J,J,J,J,J,J,J,J,J,J,J,J,J,J,J,J,J,J,J,J,J,J,J,J,J,J,J,J,J,J,J,J,J,J,J,J,J,J,J,J,J,J,J,J,J,J,J,J,J,tr⟩ ⟨rS,dy J J J (λq=>nomatch q) J J J J,dy J J J (λq=>nomatch q) J J J J,tr⟩ J J J J (.inl ⟨_,J,J⟩) l7 r8 Y4 D5 J (λ_=>J)<|S2 1 J ?_;exact eJ h W
    .refine c8 ?_;exact eJ h (WP (λl=>if l=33 then 910003 else l))
  .refine r7 ?_;refine e6<|e6<|m7 ?_;have h:=xL hx15 h;exact eJ h W
theorem wE{a0}:PO Tryz.prog 161 [b6.Pv a0] (bO a0) λr=>.L iF r:=by
 refine pO Tryz.func161 λr h _ _=>?_;refine S4 2 J<|S4 1 J ?_;refine jq h (λj16=>St.of [(3,.sl 910003)] [(910003,⟨List.map iF j16,(List.map iF j16).length,true,1,true⟩)]) (λj16 h=>?_) λκ15 h=>?_
 .refine S4 2 J ?_;refine b9 ?_;cases h;exact f1
 .refine S3 2 J ?_;refine cF h J6 J J λv17 _ h=>nL J l7<|S2 1 J<|g8<|lq h (λq=>St.of [(1,.ptr 1 0 0),(3,.sl 910003),(10,.L iF v17),(11,.I (v17.length:Int)),(12,.I q.1)] [(1,vR (b6.Pv a0) 8),(910003,⟨List.map iF q.2,(List.map iF q.2).length,true,1,true⟩)]) (Wk.trans (M7 (t:=3) (l:=920003) (z:=1) J J) (WP (λl=>if l=910003 then 920003 else l))) λq22 x21 h hx16=>?_;obtain⟨s19,s20⟩:=q22;refine S4 1 J<|g7 ?_;refine cN h (λhc h=>?_) λhc h=>?_
  .refine c8 ?_;refine jq h (λj27=>St.of [(1,.ptr 1 0 0),(3,.sl 29),(10,.L iF v17),(11,.I (v17.length:Int)),(12,.I s19)] [(29,⟨List.map iF j27,(List.map iF j27).length,true,1,true⟩),(1,vR (b6.Pv a0) 8)]) (λj27 h=>?_) λκ26 h=>?_
   .refine S6 2 J ?_;exact eL h (Wk.trans (p8 _ [29]) (WP (λl=>if l=910003 then 29 else l)))
   .refine g8 ?_;refine sR<|iL h J J l7 r8 λv28 _ h=>S2 2 J<|S3 3 J<|cF h B1 J J λv29 _ h=>S2 6 J<|S4 3 J ?_;refine cN h (λhc h=>?_) λhc h=>?_
    .refine S5 2 J ?_;refine y0 J (N2 (f:=iF) (l:=[v28]) J l7 r8 D5 J J nl J J)<|A5 h λv30 hv23 h=>ae J (T4 (f:=iF) hv23 J J J J J J (.inl ⟨_,J,J⟩) l7 r8 Y4 D5 J (λ_=>J)) J J J<|S2 1 J ?_;exact eJ h (Wk.trans (p8 _ [29]) W)
    .refine c8 ?_;exact eJ h (Wk.trans (p8 _ [910003]) (WP (λl=>if l=29 then 910003 else l)))
  .refine r7 ?_;refine e6<|e6<|m7 ?_;have h:=xL hx16 h;exact eJ h (Wk.trans (p8 _ [910003]) W)
theorem ir{a0}:PO Tryz.prog 162 [k9.Pv a0] (K3 a0) λr=>.bool r:=by
 refine pO Tryz.func162 λr h _ _=>?_;unfold K3 at h;refine S4 2 J<|S3 4 J<|l5 J (λhg=>oF J xG J)<|l5 J (λhg=>oS (ct hg) J J uU J)<|l5 J (λhg=>fg (ct hg) J)<|y0 J (B0 J J J (λq=>fW q))<|S2 1 J<|b9 ?_;cases h;exact f1
theorem M3{a0}:PO Tryz.prog 313 [c5.Pv a0] (H3 a0) λr=>.I r:=by
 refine pO Tryz.func313 λr h _ _=>?_;unfold H3 at h;refine S4 2 J<|S3 2 J<|nL J fQ<|S2 1 J<|b9 ?_;cases h;exact f1
theorem T6{a0 a1 a2}:PO Tryz.prog 314 [.L g9.Pv a0,.I a1,.I a2] (D8 a0 a1 a2) λr=>.lst true (List.map g9.Pv r):=by
 refine pO Tryz.func314 λr h _ _=>?_;unfold D8 at h;refine S4 1 J<|S3 4 J<|A5 h λv1 hv1 h=>y0 J (LO (f:=g9.Pv) hv1 J ⟨_,J⟩ ⟨_,J⟩ ⟨_,J⟩ J J fQ I7 (λ_=>J))<|S2 1 J<|b9 ?_;cases h;exact f1
theorem jk{a0 a1}:PO Tryz.prog 250 [c5.Pv a0,g9.Pv a1] (P2 a0 a1) λr=>.tup [c5.Pv r.1,.I r.2]:=by
 refine pO Tryz.func250 λr h _ _=>?_;unfold P2 at h;refine S4 4 J<|g7<|dr [] w9 (by kernel_rfl) (by kernel_rfl)<|S7 1 J<|A5 h λv1 hv1 h=>d2 J (N3 J M3 J hv1) J<|S8 3 J ?_;refine cN h (λhc h=>?_) λhc h=>?_
 .refine S4 3 J ?_;refine b9 ?_;cases h;exact⟨J,[_,_],⟨oL J J J iA bW nl J,⟨J,tr⟩⟩,J,io⟩
 .refine c8 ?_;refine dr [] w9 (by kernel_rfl) (by kernel_rfl)<|S7 3 J<|d2 J (N3 J M3 J hv1) J<|A5 h λv2 hv2 h=>iS J (A3 J T6 J hv2) J<|S7 1 J<|Wj J (N2 (f:=g9.Pv) (l:=[a1]) J fQ I7 pW J J nl J J) J<|A5 h λv3 hv3 h=>d3 J (yn (f:=g9.Pv) hv3 J J (.inl ⟨_,J,J⟩) fQ I7 NC pW J (λ_=>J)) J J J<|S7 1 J<|E6 (x':=.agg [.sl 19,.I a0.Cap]) (cl':=false) J J (.inl J) JX<|V1<|S4 3 J<|b9 ?_;cases h;exact⟨J,[_,_],⟨oL J J J iA bW nl J,⟨J,tr⟩⟩,J,io⟩
theorem tB{a0 a1}:PO Tryz.prog 168 [c5.Pv a0,g9.Pv a1] (nh a0 a1) λr=>.tup [c5.Pv r.1,.I r.2]:=by
 refine pO Tryz.func168 λr h _ _=>?_;refine S4 4 J<|S3 2 J<|cF h jk J J λv1 _ h=>S2 4 J<|b9 ?_;cases h;exact⟨J,[_,_],⟨oL J J J iA bW nl J,⟨J,tr⟩⟩,J,io⟩
theorem jA{a0 a1}:PO Tryz.prog 106 [b6.Pv a0,.I a1] (Q6 a0 a1) λr=>b6.Pv r:=by
 refine pO Tryz.func106 λr h _ _=>?_;refine S4 2 J<|S3 3 J<|cF h B1 J J λv1 _ h=>S2 6 J<|g7<|S3 3 J<|l5 J (λhg=>oL J J J pP gK nl J)<|A5 h λv2 hv2 h=>l5 J (λhg=>N3 J ir (G1 (ct hg) J) (K7 hv2 hg))<|l5 J (λhg=>fg (ct hg) J)<|y0 J (I0 J J J (λq=>lM q))<|yN ?_;refine cN h (λhc h=>?_) λhc h=>?_
 .refine S4 2 J ?_;refine b9 ?_;cases h;exact⟨J,[_],⟨oL J J J p9 o5 nl J,tr⟩,J,io⟩
 .refine c8 ?_;refine S4 2 J<|S3 4 J<|cF h aA J J λv3 _ h=>S2 5 J<|S3 5 J<|y0 J (s7 (cs:=[.I 1,.I a1,.I v1.1.Prog]) J yO pW J J J)<|cF h tB J J λv4 _ h=>S2 5 J<|S3 2 J<|cF h cm J J λv5 _ h=>S2 1 J<|b9 ?_;cases h;exact⟨J,[_],⟨oL J J J p9 o5 nl J,tr⟩,J,io⟩
theorem oz{a0 a1}:PO Tryz.prog 170 [b6.Pv a0,.L iF a1] (T8 a0 a1) λr=>.L iF r:=by
 refine pO Tryz.func170 λr h _ _=>?_;refine S4 2 J<|sR<|Ed (KT:=Int) (VT:=Bool) (EK:=iF) (E:=PV.bool) 5000011 J J<|S2 1 J<|S4 1 J ?_;refine jq h (λj18=>St.of [(6,.sl 910006)] [(910006,⟨List.map iF j18,(List.map iF j18).length,true,1,true⟩)]) (λj18 h=>?_) λκ17 h=>?_
 .refine S4 2 J ?_;refine b9 ?_;cases h;exact f1
 .refine S3 1 J ?_;refine nL J l7<|S2 1 J<|g8<|lq h (λq=>St.of [(2,.ptr 2 0 0),(5,.mp 5000011),(6,.sl 910006),(12,.L iF a1),(13,.I (a1.length:Int)),(14,.I q.1)] [(5000011,⟨[.mapc (List.map (fV iF PV.bool) q.2.1)],0,false,0,false⟩),(2,vR (b6.Pv a0) 8),(910006,⟨List.map iF q.2.2,(List.map iF q.2.2).length,true,1,true⟩)]) (Wk.trans (M7 (t:=6) (l:=920006) (z:=1) J J) (WP (λl=>if l=910006 then 920006 else l))) λq24 x23 h hx16=>?_;obtain⟨s20,s21,s22⟩:=q24;refine S4 1 J<|g7 ?_;refine cN h (λhc h=>?_) λhc h=>?_
  .refine c8 ?_;refine jq h (λq=>St.of [(2,.ptr 2 0 0),(5,.mp 5000011),(6,.sl 38),(12,.L iF a1),(13,.I (a1.length:Int)),(14,.I s20)] [(38,⟨List.map iF q.1,(List.map iF q.1).length,true,1,true⟩),(5000011,⟨[.mapc (List.map (fV iF PV.bool) q.2)],0,false,0,false⟩),(2,vR (b6.Pv a0) 8)]) (λq31 h=>?_) λκ28 h=>?_
   .obtain⟨j29,j30⟩:=q31;refine S6 2 J ?_;exact eL h (Wk.trans (p8 _ [38]) (WP (λl=>if l=910006 then 38 else l)))
   .refine g8 ?_;refine sR<|iL h J J l7 r8 λv32 _ h=>S2 2 J<|S3 3 J<|cF h B1 J J λv33 _ h=>S2 6 J<|S3 3 J<|l5 J (λhg=>om (d:=.mp 5000011) J)<|l5 J (λhg=>mI J) ?_;rcases zam ((v33.2==0)==true) with hg24 | hg24
    .have h:=QS h hg24;refine Nn (es:=s21) (k:=v32) (E:=PV.bool) (EK:=iF) (d:=.bool ((A6 s21 v32).getD (false:Bool))) (t6 some hg24) (ct hg24) J (ct hg24) dR (y8 J8) Cs J (SQ _ _ _)<|y0 (t6 some hg24) (fg J J)<|y0 J (ic J J hg24)<|yN ?_;refine cN h (λhc h=>?_) λhc h=>?_
     .refine S3 2 J ?_;refine aM (es:=s21) (k:=v32) (v:=true) (E:=PV.bool) (EK:=iF) (.inl J) J J J J J J dR (y8 J8)<|yN<|S5 2 J<|y0 J (N2 (f:=iF) (l:=[v32]) J l7 r8 D5 J J nl J J)<|A5 h λv34 hv25 h=>ae J (T4 (f:=iF) hv25 J J J J J J (.inl ⟨_,J,J⟩) l7 r8 Y4 D5 J (λ_=>J)) J J J<|S2 1 J ?_;exact eJ h (Wk.trans (p8 _ [38]) W)
     .refine c8 ?_;exact eJ h (Wk.trans (p8 _ [910006]) (WP (λl=>if l=38 then 910006 else l)))
    .have h:=QR h hg24;refine cR (t6 some hg24)<|cR (t6 some hg24)<|y0 J (kK J J hg24)<|yN ?_;refine G7 false J (λq=>nomatch q) (λ_=>?_);refine c8 ?_;exact eJ h (Wk.trans (p8 _ [910006]) (WP (λl=>if l=38 then 910006 else l)))
  .refine r7 ?_;refine e6<|e6<|m7 ?_;have h:=xL hx16 h;exact eJ h (Wk.trans (p8 _ [910006]) W)
theorem jC{a0 a1}:PO Tryz.prog 350 [.L iF a0,.I a1] (P4 a0 a1) λr=>.I r:=by
 refine pO Tryz.func350 λr h _ _=>?_;refine S4 1 J ?_;refine jq h (λ_=>St.of [] []) (λq6 h=>?_) λκ5 h=>?_
 .refine S4 1 J ?_;refine b9 ?_;cases h;exact f1
 .refine S3 1 J ?_;refine nL J l7<|S2 1 J<|g8<|lq h (λs8=>St.of [(0,.L iF a0),(1,.I a1),(7,.I (a0.length:Int)),(8,.I s8)] []) W λs8 x9 h hx8=>S4 1 J<|g7 ?_;refine cN h (λhc h=>?_) λhc h=>?_
  .refine c8 ?_;refine g7<|g8<|S4 2 J<|S3 3 J<|iL h J J l7 r8 λv10 _ h=>S2 2 J ?_;refine cN h (λhc h=>?_) λhc h=>?_
   .refine S4 2 J ?_;refine b9 ?_;have h:=xL hx8 h;cases h;exact f1
   .refine c8 ?_;refine S6 2 J ?_;exact eL h W
  .refine r7 ?_;refine e6<|e6<|m7 ?_;have h:=xL hx8 h;exact eJ h W
theorem O4{a0 a1}:PO Tryz.prog 318 [.L iF a0,.I a1] (D6 a0 a1) λr=>.bool r:=by
 refine pO Tryz.func318 λr h _ _=>?_;refine S4 1 J<|S3 2 J<|cA h jC J J λv1 _ h=>S2 2 J<|b9 ?_;cases h;exact f1
theorem tX{a0 a1}:PO Tryz.prog 317 [c7.Pv a0,.rptr [.L iF a1]] (aB a0 a1) λr=>.bool r:=by
 refine pO Tryz.func317 λr h _ _=>?_;unfold aB at h;refine S4 2 J<|S3 3 J<|l5 J (λhg=>oF J xI J)<|l5 J (λhg=>oS (ct hg) J J F1 J)<|l5 J (λhg=>B5 (ct hg) J J)<|y0 J (B0 J J J (λq=>fW q))<|S1 1 J<|l5 J (λhg=>P1 J lV J)<|l5 J (λhg=>oF J xI J)<|l5 J (λhg=>oS (ct hg) J J F1 J)<|A5 h λv1 hv1 h=>l5 J (λhg=>N3 J O4 (G1 (ct hg) (G1 (ct hg) J)) (K7 hv1 hg))<|y0 J (B0 J J J (λq=>fW q))<|S2 1 J<|b9 ?_;cases h;exact f1
theorem fe{a0 a1}:PO Tryz.prog 316 [.L c7.Pv a0,.fn (.func 317) [.rptr [.L iF a1]]] (H9 a0 a1) λr=>.L iF r:=by
 refine pO Tryz.func316 λr h _ _=>?_;refine S4 1 J<|S4 1 J ?_;refine jq h (λj15=>St.of [(5,.sl 910005)] [(910005,⟨List.map iF j15,(List.map iF j15).length,true,1,true⟩)]) (λj15 h=>?_) λκ14 h=>?_
 .refine S4 2 J ?_;refine b9 ?_;cases h;exact f1
 .refine S3 1 J ?_;refine nL J P9<|S2 1 J<|g8<|lq h (λq=>St.of [(1,.fn (.func 317) [.rptr [.L iF a1]]),(5,.sl 910005),(8,.L c7.Pv a0),(9,.I (a0.length:Int)),(10,.I q.1)] [(910005,⟨List.map iF q.2,(List.map iF q.2).length,true,1,true⟩)]) (Wk.trans (M7 (t:=5) (l:=920005) (z:=1) J J) (WP (λl=>if l=910005 then 920005 else l))) λq20 x19 h hx14=>?_;obtain⟨s17,s18⟩:=q20;refine S4 1 J<|g7 ?_;refine cN h (λhc h=>?_) λhc h=>?_
  .refine c8 ?_;refine jq h (λj25=>St.of [(1,.fn (.func 317) [.rptr [.L iF a1]]),(5,.sl 21),(8,.L c7.Pv a0),(9,.I (a0.length:Int)),(10,.I s17)] [(21,⟨List.map iF j25,(List.map iF j25).length,true,1,true⟩)]) (λj25 h=>?_) λκ24 h=>?_
   .refine S6 2 J ?_;exact eL h (Wk.trans (p8 _ [21]) (WP (λl=>if l=910005 then 21 else l)))
   .refine g8 ?_;refine S3 1 J<|iL h J J P9 U3 λv26 _ h=>S2 4 J<|S3 2 J<|cA h tX J J λv27 _ h=>yN ?_;refine cN h (λhc h=>?_) λhc h=>?_
    .refine S5 2 J ?_;refine y0 J (N2 (f:=iF) (l:=[s17]) J l7 r8 D5 J J nl J J)<|A5 h λv28 hv21 h=>ae J (T4 (f:=iF) hv21 J J J J J J (.inl ⟨_,J,J⟩) l7 r8 Y4 D5 J (λ_=>J)) J J J<|S2 1 J ?_;exact eJ h (Wk.trans (p8 _ [21]) W)
    .refine c8 ?_;exact eJ h (Wk.trans (p8 _ [910005]) (WP (λl=>if l=21 then 910005 else l)))
  .refine r7 ?_;refine e6<|e6<|m7 ?_;have h:=xL hx14 h;exact eJ h (Wk.trans (p8 _ [910005]) W)
theorem xD{a0 a1}:PO Tryz.prog 253 [.L c7.Pv a0,.L iF a1] (gA a0 a1) λr=>.tup [.L c7.Pv r.1,.L iF r.2]:=by
 refine pO Tryz.func253 λr h _ _=>?_;unfold gA at h;refine S4 3 J<|S3 2 J<|A5 h λv1 hv1 h=>Wf J (A3 J fe J hv1) J<|S2 1 J<|S3 1 J<|A5 h λv2 hv2 h=>UC J (vN J lJ J hv2) J J<|S2 1 J<|S4 1 J ?_;refine jq h (λq=>St.of [(7,.sl 15),(8,.sl 910008)] [(910008,⟨List.map iF q.1,(List.map iF q.1).length,true,1,true⟩),(15,⟨List.map c7.Pv q.2,0,true,3,true⟩)]) (λq24 h=>?_) λκ21 h=>?_
 .obtain⟨j22,j23⟩:=q24;refine S4 4 J<|b9 ?_;cases h;exact f2
 .refine S3 1 J ?_;refine nL J l7<|S2 1 J<|g8<|lq h (λq=>St.of [(7,.sl 15),(8,.sl 910008),(16,.L iF v1),(17,.I (v1.length:Int)),(18,.I q.1)] [(15,⟨List.map c7.Pv q.2.1,0,true,3,true⟩),(910008,⟨List.map iF q.2.2,(List.map iF q.2.2).length,true,1,true⟩)]) (Wk.trans (M7 (t:=8) (l:=920008) (z:=1) J J) (WP (λl=>if l=910008 then 920008 else l))) λq30 x29 h hx18=>?_;obtain⟨s26,s27,s28⟩:=q30;refine S4 1 J<|g7 ?_;refine cN h (λhc h=>?_) λhc h=>?_
  .refine c8 ?_;refine jq h (λq=>St.of [(7,.sl 15),(8,.sl 35),(16,.L iF v1),(17,.I (v1.length:Int)),(18,.I s26)] [(35,⟨List.map iF q.1,(List.map iF q.1).length,true,1,true⟩),(15,⟨List.map c7.Pv q.2,0,true,3,true⟩)]) (λq38 h=>?_) λκ35 h=>?_
   .obtain⟨j36,j37⟩:=q38;refine S6 2 J ?_;exact eL h (Wk.trans (p8 _ [35]) (WP (λl=>if l=910008 then 35 else l)))
   .refine g8 ?_;refine sR<|iL h J J l7 r8 λv39 _ h=>S2 2 J<|S3 2 J<|A5 h λv40 hv25 h=>y0 J (oR (f:=c7.Pv) hv25 J J J J P9 U3 J)<|S1 1 J<|xa (f:=c7.Pv) (v:=(⟨v40.Target,false,v40.Call⟩:c7)) hv25 J J (.inl J) UH<|yN<|S3 2 J<|A5 h λv41 hv26 h=>y0 J (oR (f:=c7.Pv) hv26 J J J J P9 U3 J)<|S1 1 J<|y0 J (LP (f:=c7.Pv) hv26 J J J F1 J)<|S2 1 J ?_;refine cN h (λhc h=>?_) λhc h=>?_
    .refine S5 2 J ?_;refine y0 J (N2 (f:=iF) (l:=[v39]) J l7 r8 D5 J J nl J J)<|A5 h λv42 hv27 h=>ae J (T4 (f:=iF) hv27 J J J J J J (.inl ⟨_,J,J⟩) l7 r8 Y4 D5 J (λ_=>J)) J J J<|S2 1 J ?_;exact eJ h (Wk.trans (p8 _ [35]) W)
    .refine c8 ?_;exact eJ h (Wk.trans (p8 _ [910008]) (WP (λl=>if l=35 then 910008 else l)))
  .refine r7 ?_;refine e6<|e6<|m7 ?_;have h:=xL hx18 h;exact eJ h (Wk.trans (p8 _ [910008]) W)
theorem rq{a0 a1}:PO Tryz.prog 171 [b6.Pv a0,.L iF a1] (cJ a0 a1) λr=>b6.Pv r:=by
 refine pO Tryz.func171 λr h _ _=>?_;refine S4 2 J<|S3 3 J<|cF h xD J J λv1 _ h=>S2 5 J<|S4 3 J ?_;refine jq h (λj11=>St.of [(2,.ptr 2 0 0),(4,.ptr 4 0 0)] [(4,vR (.agg [.nl,.I 0,.I 0,.nl,.nl,.nl,.nl,.I 0]) 8),(2,vR (.agg [.L b7.Pv a0.S.S.a8,.I a0.S.S.Last,.I a0.S.Serial,.L iF a0.Roots,.L c7.Pv v1.1,.L b8.Pv a0.T,.L g9.Pv j11.L,.I j11.Cap]) 8)]) (λj11 h=>?_) λκ10 h=>?_
 .refine S4 2 J ?_;refine b9 ?_;cases h;exact⟨J,[_],⟨oL J J J p9 o5 nl J,tr⟩,J,io⟩
 .refine S3 1 J ?_;refine nL J l7<|S2 1 J<|g8<|lq h (λq=>St.of [(2,.ptr 2 0 0),(4,.ptr 4 0 0),(5,.L c7.Pv v1.1),(18,.L iF v1.2),(19,.I (v1.2.length:Int)),(20,.I q.1)] [(4,vR (.agg [.nl,.I 0,.I 0,.nl,.nl,.nl,.nl,.I 0]) 8),(2,vR (.agg [.L b7.Pv a0.S.S.a8,.I a0.S.S.Last,.I a0.S.Serial,.L iF a0.Roots,.L c7.Pv v1.1,.L b8.Pv a0.T,.L g9.Pv q.2.L,.I q.2.Cap]) 8)]) W λq16 x15 h hx11=>?_;obtain⟨s13,s14⟩:=q16;refine S4 1 J<|g7 ?_;refine cN h (λhc h=>?_) λhc h=>?_
  .refine c8 ?_;refine g7<|g8<|sR<|iL h J J l7 r8 λv17 _ h=>S2 2 J<|vT [] w9 (by kernel_rfl) (by kernel_rfl)<|S7 5 J<|A5 h λv18 hv13 h=>d0 J (F2 (f:=c7.Pv) (cs:=c7.Pc v18) hv13 J J P9 U3 J J) J<|S7 2 J<|d7 J (λ_ hN=>s7 (cs:=[.I 2,.I v17,.I v18.Call]) J yO pW J J J) J<|A5 h λv19 hv14 h=>iS J (A3 J tB J hv14) J<|S7 4 J<|E6 (x':=.agg [.L b7.Pv a0.S.S.a8,.I a0.S.S.Last,.I a0.S.Serial,.L iF a0.Roots,.L c7.Pv v1.1,.L b8.Pv a0.T,.L g9.Pv v19.1.L,.I v19.1.Cap]) (cl':=true) J J (.inr J) bW<|V1<|S6 2 J ?_;exact eL h W
  .refine r7 ?_;refine e6<|e6<|m7 ?_;have h:=xL hx11 h;exact eJ h W
theorem BL{a0}:PO Tryz.prog 254 [.L iF a0] (nY a0) λr=>.fn (.func 320) [.rptr [.L iF r]]:=by
 refine pO Tryz.func254 λr h _ _=>?_;unfold nY at h;refine S4 2 J<|S4 2 J<|b9 ?_;cases h;exact f1
theorem rD{a0}:PO Tryz.prog 173 [.L iF a0] (fP a0) λr=>.L iF r:=by
 refine pO Tryz.func173 λr h _ _=>?_;refine S4 1 J<|S4 1 J ?_;refine jq h (λj10=>St.of [(3,.ptr 2001 0 0)] [(2001,vS (.sl 912501) 1),(912501,⟨List.map iF j10,(List.map iF j10).length,true,1,true⟩)]) (λj10 h=>?_) λκ9 h=>?_
 .refine S4 2 J ?_;refine b9 ?_;cases h;exact f1
 .refine S3 1 J ?_;refine cF h BL J J λv11 _ h=>yN<|g8<|cX (uY (λl=>if l=2011 then 3 else l) [(3,.ptr 2011 0 0),(6,.fn (.func 320) [.rptr [.L iF v11]])] [(2011,vR (.nl) 1)]) ?_;refine cC (fn:=Tryz.f320) (N1:=20) J Tryz.func320 J J nl J NK J J (λl17 e18 o19 hR20=>?_);refine S3 1 J<|nL J l7<|S2 1 J<|g8<|lq h (λq=>St.of [(1000003,.ptr 2011 0 0),(1000006,.fn (.func 320) [.rptr [.L iF v11]]),(0,.fn (.yield l17) []),(5,.L iF v11),(6,.I (v11.length:Int)),(7,.I q.1)] [(2011,vS (.sl 912511) 1),(912511,⟨List.map iF q.2,(List.map iF q.2).length,true,1,true⟩)]) (Wk.trans (uS (l0:=2011) (j:=0) (l:=922511) (z:=1) J J J J J) (WP (λl=>if l=912511 then 922511 else l))) λq16 x15 h hx23=>?_;obtain⟨s13,s14⟩:=q16;refine S4 1 J<|g7 ?_;refine cN h (λhc h=>?_) λhc h=>?_
  .refine c8 ?_;refine g7<|g8<|sR<|iL h J J l7 r8 λv17 _ h=>S2 2 J<|S3 3 J<|l5 J (λhg=>om (d:=.fn (.yield l17) []) J)<|l5 J (λhg=>mI J) ?_;rcases zam ((v17 != 0)==true) with hg25 | hg25
   .have h:=QS h hg25;refine Q9 (uY (λl=>if l=2019 then 912511 else l) [(1000003,.ptr 2011 0 0),(1000006,.fn (.func 320) [.rptr [.L iF v11]]),(0,.fn (.yield l17) []),(5,.L iF v11),(6,.I (v11.length:Int)),(7,.I s13),(13,.bool (v17 != 0)),(14,.fn (.yield l17) []),(15,.I v17)] [(2011,vS (.sl 2019) 1),(2019,⟨List.map iF s14,(List.map iF s14).length,true,1,true⟩)]) ?_;refine lx hR20 (t6 some hg25) J J J J J (λe26 o27 o28=>?_);refine S6 1 J ?_;refine⟨J,?_⟩;refine g8<|S5 2 J<|y0 J (N2 (f:=iF) (l:=[v17]) J l7 r8 D5 J J nl J J)<|A5 h λv18 hv29 h=>ae J (T4 (f:=iF) hv29 J J J J J J (.inl ⟨_,J,J⟩) l7 r8 Y4 D5 J (λ_=>J)) J J J<|S2 1 J ?_;refine⟨J,?_⟩;refine Q9 (uY (λl=>if l=2020 then 11 else l) [(1000003,.ptr 2011 0 0),(1000006,.fn (.func 320) [.rptr [.L iF v11]]),(0,.fn (.yield l17) []),(5,.L iF v11),(6,.I (v11.length:Int)),(7,.I s13),(13,.bool (v17 != 0)),(16,.bool true)] [(2011,vS (.sl 2020) 1),(2020,⟨List.map iF v18,s14.length,true,1,true⟩)])<|y0 (t6 some hg25) (fg J J)<|y0 J (ic J J hg25)<|yN ?_;refine G7 false J (λq=>nomatch q) (λ_=>?_);refine c8<|S6 2 J ?_;exact eL h (Wk.trans (p8 _ [2020]) (WP (λl=>if l=912511 then 2020 else l)))
   .have h:=QR h hg25;refine cR (t6 some hg25)<|cR (t6 some hg25)<|y0 J (kK J J hg25)<|yN ?_;refine G7 false J (λq=>nomatch q) (λ_=>?_);refine c8<|S6 2 J ?_;exact eL h (Wk.trans (p8 _ [912511]) W)
  .refine r7 ?_;refine e6<|e6<|m7 ?_;refine .inl ⟨J,?_⟩;have h:=xL hx23 h;exact eJ h (Wk.trans (p8 _ [912511]) (WP (λl=>if l=2001 then 2011 else if l=912501 then 912511 else l)))
theorem rV{a0 a1}:PO Tryz.prog 174 [.L b8.Pv a0,.L iF a1] (V7 a0 a1) λr=>.tup [.L b8.Pv r.1,.L iF r.2]:=by
 refine pO Tryz.func174 λr h _ _=>?_;refine S4 2 J<|S4 1 J ?_;refine jq h (λq=>St.of [(0,.L b8.Pv q.1),(6,.sl 910006)] [(910006,⟨List.map iF q.2,(List.map iF q.2).length,true,1,true⟩)]) (λq20 h=>?_) λκ17 h=>?_
 .obtain⟨j18,j19⟩:=q20;refine S4 4 J<|b9 ?_;cases h;exact f2
 .refine S3 1 J ?_;refine nL J l7<|S2 1 J<|g8<|lq h (λq=>St.of [(0,.L b8.Pv q.1),(6,.sl 910006),(12,.L iF a1),(13,.I (a1.length:Int)),(14,.I q.2.1)] [(910006,⟨List.map iF q.2.2,(List.map iF q.2.2).length,true,1,true⟩)]) (Wk.trans (M7 (t:=6) (l:=920006) (z:=1) J J) (WP (λl=>if l=910006 then 920006 else l))) λq26 x25 h hx14=>?_;obtain⟨s22,s23,s24⟩:=q26;refine S4 1 J<|g7 ?_;refine cN h (λhc h=>?_) λhc h=>?_
  .refine c8 ?_;refine jq h (λq=>St.of [(0,.L b8.Pv q.1),(6,.sl 31),(12,.L iF a1),(13,.I (a1.length:Int)),(14,.I s23)] [(31,⟨List.map iF q.2,(List.map iF q.2).length,true,1,true⟩)]) (λq33 h=>?_) λκ30 h=>?_
   .obtain⟨j31,j32⟩:=q33;refine S6 2 J ?_;exact eL h (Wk.trans (p8 _ [31]) (WP (λl=>if l=910006 then 31 else l)))
   .refine g8 ?_;refine sR<|iL h J J l7 r8 λv34 _ h=>S2 2 J<|S3 2 J<|cF h qs J J λv35 _ h=>S2 7 J<|S4 2 J ?_;refine cN h (λhc h=>?_) λhc h=>?_
    .refine S5 3 J ?_;refine y0 J (N2 (f:=iF) (l:=[v35.2.1]) J l7 r8 D5 J J nl J J)<|A5 h λv36 hv21 h=>ae J (T4 (f:=iF) hv21 J J J J J J (.inl ⟨_,J,J⟩) l7 r8 Y4 D5 J (λ_=>J)) J J J<|S2 2 J ?_;exact eJ h (Wk.trans (p8 _ [31]) W)
    .refine c8 ?_;exact eJ h (Wk.trans (p8 _ [910006]) (WP (λl=>if l=31 then 910006 else l)))
  .refine r7 ?_;refine e6<|e6<|m7 ?_;have h:=xL hx14 h;exact eJ h (Wk.trans (p8 _ [910006]) W)
theorem kZ{a0 a1}:PO Tryz.prog 256 [c4.Pv a0,.I a1] (R3 a0 a1) λr=>.tup [c4.Pv r.1,.I r.2]:=by
 refine pO Tryz.func256 λr h _ _=>?_;refine S4 3 J<|S3 2 J<|cF h cY J J λv1 _ h=>S2 6 J<|g7<|S4 2 J ?_;refine cN h (λhc h=>?_) λhc h=>?_
 .refine S4 4 J ?_;refine b9 ?_;cases h;exact⟨J,[_,_],⟨oL J J J eE bV nl J,⟨J,tr⟩⟩,J,io⟩
 .refine c8 ?_;refine dr [] w9 (by kernel_rfl) (by kernel_rfl)<|S7 2 J<|A5 h λv2 hv2 h=>d2 J (N3 J mo J hv2) J<|S7 1 J<|A5 h λv3 hv3 h=>d2 J (N3 J oO J hv3) J<|S7 1 J<|d7 J (λ_ hN=>s7 (cs:=[.I 2,.I v3,.I v1.1.Serial,.I v1.1.Strong,.I v1.1.Weak,.I v1.1.Prog,.bool v1.1.Started,.L iF v1.1.Fields]) J ub np J J J) J<|A5 h λv4 hv4 h=>iS J (A3 J H0 J hv4) J<|E6 (x':=c4.Pv v4) (cl':=true) J J (.inr J) bV<|S8 1 J<|b9 ?_;cases h;exact⟨J,[_,_],⟨oL J J J eE bV nl J,⟨J,tr⟩⟩,J,io⟩
theorem sS{a0 a1}:PO Tryz.prog 175 [b6.Pv a0,.I a1] (W3 a0 a1) λr=>b6.Pv r:=by
 refine pO Tryz.func175 λr h _ _=>?_;refine S4 2 J<|S3 3 J<|cF h B1 J J λv1 _ h=>S2 6 J<|S3 1 J<|nm (x':=.agg [.I v1.1.Serial,.I v1.1.Strong,.I v1.1.Weak,.I v1.1.Prog,.bool v1.1.Started,.nl]) (cl':=true) J J (.inl J) jR<|S1 1 J<|nm (x':=.agg [.I v1.1.Serial,.I 0,.I v1.1.Weak,.I v1.1.Prog,.bool v1.1.Started,.nl]) (cl':=true) J J (.inl J) r8<|yN<|S3 4 J<|cF h aA J J λv2 _ h=>S2 5 J<|S3 4 J<|cF h kZ J J λv3 _ h=>S2 6 J<|g7<|S4 3 J ?_;refine cN h (λhc h=>?_) λhc h=>?_
 .refine S5 4 J ?_;refine cF h cK J J λv4 _ h=>S2 6 J<|S4 2 J<|b9 ?_;cases h;exact⟨J,[_],⟨oL J J J p9 o5 nl J,tr⟩,J,io⟩
 .refine c8 ?_;refine S4 2 J<|b9 ?_;cases h;exact⟨J,[_],⟨oL J J J p9 o5 nl J,tr⟩,J,io⟩
end Go.Proofs.YtjlokngooekbcaaGreat.Ok
