/- A part. -/
import Derived.Test.YtjlokngooekbcaaGreatEPwC
import Derived.Test.YtjlokngooekbcaaGreatEPwD
import Derived.Test.YtjlokngooekbcaaGreatSrt
import Derived.Test.YtjlokngooekbcaaGreatSrtI
import Derived.Test.YtjlokngooekbcaaGreatESh
import Derived.Test.YtjlokngooekbcaaGreatProg
set_option linter.unusedVariables false
set_option linter.unusedSimpArgs false
set_option linter.unusedSectionVars false
namespace Go.Proofs.YtjlokngooekbcaaGreat.Ok
open Go Go.Pw Go.Sh Go.Proofs Tryz
set_option maxRecDepth 100000
set_option maxHeartbeats 4000000
abbrev _root_.Go.Sh.n7.Pc(x:n7):List PV:=[.I x.Serial,.I x.Strong,.I x.Weak,.I x.Prog,.bool x.Started,.L iF x.Fields]
abbrev _root_.Go.Sh.n7.Pv(x:n7):PV:=.agg x.Pc
abbrev _root_.Go.Sh.c4.Pc(x:c4):List PV:=[.I x.State,.I x.Gen,.I x.Val.Serial,.I x.Val.Strong,.I x.Val.Weak,.I x.Val.Prog,.bool x.Val.Started,.L iF x.Val.Fields]
abbrev _root_.Go.Sh.c4.Pv(x:c4):PV:=.agg x.Pc
abbrev _root_.Go.Sh.g6.Pc(x:g6):List PV:=[.L c4.Pv x.Cells,.I x.Last]
abbrev _root_.Go.Sh.g6.Pv(x:g6):PV:=.agg x.Pc
abbrev _root_.Go.Sh.a7.Pc(x:a7):List PV:=[.L c4.Pv x.S.Cells,.I x.S.Last,.I x.Serial]
abbrev _root_.Go.Sh.a7.Pv(x:a7):PV:=.agg x.Pc
abbrev _root_.Go.Sh.g9.Pc(x:g9):List PV:=[.I x.Target,.bool x.Intact,.I x.Call]
abbrev _root_.Go.Sh.g9.Pv(x:g9):PV:=.agg x.Pc
abbrev _root_.Go.Sh.c9.Pc(x:c9):List PV:=[.I x.State,.I x.Key,.I x.Val]
abbrev _root_.Go.Sh.c9.Pv(x:c9):PV:=.agg x.Pc
abbrev _root_.Go.Sh.l5.Pc(x:l5):List PV:=[.I x.Kind,.I x.At,.I x.Prog]
abbrev _root_.Go.Sh.l5.Pv(x:l5):PV:=.agg x.Pc
abbrev _root_.Go.Sh.g7.Pc(x:g7):List PV:=[.L l5.Pv x.L,.I x.Cap]
abbrev _root_.Go.Sh.g7.Pv(x:g7):PV:=.agg x.Pc
abbrev _root_.Go.Sh.b7.Pc(x:b7):List PV:=[.L c4.Pv x.S.S.Cells,.I x.S.S.Last,.I x.S.Serial,.L iF x.Roots,.L g9.Pv x.Cells,.L c9.Pv x.T,.L l5.Pv x.Q.L,.I x.Q.Cap]
abbrev _root_.Go.Sh.b7.Pv(x:b7):PV:=.agg x.Pc
abbrev _root_.Go.Sh.k8.Pc(x:k8):List PV:=[.I x.Kind,.I x.A,.I x.B,.I x.C]
abbrev _root_.Go.Sh.k8.Pv(x:k8):PV:=.agg x.Pc
abbrev _root_.Go.Sh.D2.Pc(x:D2):List PV:=[.I x.Serial,.I x.Strong,.I x.Weak,.I x.Prog,.bool x.Started,.L iF x.Fields]
abbrev _root_.Go.Sh.D2.Pv(x:D2):PV:=.agg x.Pc
abbrev _root_.Go.Sh.n8.Pc(x:n8):List PV:=[.I x.State,.I x.Gen,.I x.Val.Serial,.I x.Val.Strong,.I x.Val.Weak,.I x.Val.Prog,.bool x.Val.Started,.L iF x.Val.Fields]
abbrev _root_.Go.Sh.n8.Pv(x:n8):PV:=.agg x.Pc
abbrev _root_.Go.Sh.m9.Pc(x:m9):List PV:=[.I x.Target,.bool x.Intact,.I x.Call]
abbrev _root_.Go.Sh.m9.Pv(x:m9):PV:=.agg x.Pc
abbrev _root_.Go.Sh.k7.Pc(x:k7):List PV:=[.I x.State,.I x.Key,.I x.Val]
abbrev _root_.Go.Sh.k7.Pv(x:k7):PV:=.agg x.Pc
abbrev _root_.Go.Sh.o8.Pc(x:o8):List PV:=[.I x.Kind,.I x.At,.I x.Prog]
abbrev _root_.Go.Sh.o8.Pv(x:o8):PV:=.agg x.Pc
abbrev _root_.Go.Sh.l4.Pc(x:l4):List PV:=[.L n8.Pv x.Cells,.I x.Last,.I x.Serial]
abbrev _root_.Go.Sh.l4.Pv(x:l4):PV:=.agg x.Pc
abbrev _root_.Go.Sh.y4.Pc(x:y4):List PV:=[.L o8.Pv x.L,.I x.Cap]
abbrev _root_.Go.Sh.y4.Pv(x:y4):PV:=.agg x.Pc
abbrev _root_.Go.Sh.c5.Pc(x:c5):List PV:=[.L n8.Pv x.S.Cells,.I x.S.Last,.I x.S.Serial,.L iF x.Roots,.L m9.Pv x.Cells,.L k7.Pv x.T,.L o8.Pv x.Q.L,.I x.Q.Cap]
abbrev _root_.Go.Sh.c5.Pv(x:c5):PV:=.agg x.Pc
abbrev _root_.Go.Sh.z6.Pc(x:z6):List PV:=[.I x.State,.I x.Gen,.I x.Val]
abbrev _root_.Go.Sh.z6.Pv(x:z6):PV:=.agg x.Pc
abbrev _root_.Go.Sh.y9.Pc(x:y9):List PV:=[.L z6.Pv x.Cells,.I x.Last]
abbrev _root_.Go.Sh.y9.Pv(x:y9):PV:=.agg x.Pc
abbrev _root_.Go.Sh.B0.Pc(x:B0):List PV:=[.I x.Key,.I x.Val]
abbrev _root_.Go.Sh.B0.Pv(x:B0):PV:=.agg x.Pc
abbrev _root_.Go.Sh.s6.Pc(x:s6):List PV:=[.I x.Kind,.I x.A,.I x.B,.I x.C]
abbrev _root_.Go.Sh.s6.Pv(x:s6):PV:=.agg x.Pc
abbrev _root_.Go.Sh.k9.Pc(x:k9):List PV:=[tg x.part,.I x.least,.I x.most,.I x.e]
abbrev _root_.Go.Sh.k9.Pv(x:k9):PV:=.agg x.Pc
abbrev _root_.Go.Sh.p7.Pc(x:p7):List PV:=[.L c4.Pv x.X.S.S.Cells,.I x.X.S.S.Last,.I x.X.S.Serial,.L iF x.X.Roots,.L g9.Pv x.X.Cells,.L c9.Pv x.X.T,.L l5.Pv x.X.Q.L,.I x.X.Q.Cap,.L (Ls k8.Pv) x.Progs]
abbrev _root_.Go.Sh.p7.Pv(x:p7):PV:=.agg x.Pc
abbrev _root_.Go.Sh.m8.Pc(x:m8):List PV:=[.I x.V,.I x.E]
abbrev _root_.Go.Sh.m8.Pv(x:m8):PV:=.agg x.Pc
abbrev _root_.Go.Sh.w7.Pc(x:w7):List PV:=[.L c4.Pv x.x.S.S.Cells,.I x.x.S.S.Last,.I x.x.S.Serial,.L iF x.x.Roots,.L g9.Pv x.x.Cells,.L c9.Pv x.x.T,.L l5.Pv x.x.Q.L,.I x.x.Q.Cap,.I x.o.Kind,.I x.o.A,.I x.o.B,.I x.o.C]
abbrev _root_.Go.Sh.w7.Pv(x:w7):PV:=.agg x.Pc
abbrev _root_.Go.Sh.J5.Pc(x:J5):List PV:=[.I x.r,.I x.h]
abbrev _root_.Go.Sh.J5.Pv(x:J5):PV:=.agg x.Pc
abbrev _root_.Go.Sh.I3.Pc(x:I3):List PV:=[.I x.h,.I x.k,.I x.v]
abbrev _root_.Go.Sh.I3.Pv(x:I3):PV:=.agg x.Pc
abbrev _root_.Go.Sh.J4.Pc(x:J4):List PV:=[.L c9.Pv x.t]
abbrev _root_.Go.Sh.J4.Pv(x:J4):PV:=.agg x.Pc
abbrev _root_.Go.Sh.p6.Pc(x:p6):List PV:=[.I x.Key,.I x.Val]
abbrev _root_.Go.Sh.p6.Pv(x:p6):PV:=.agg x.Pc
abbrev _root_.Go.Sh.l7.Pc(x:l7):List PV:=[.L iF x.L,.I x.Cap]
abbrev _root_.Go.Sh.l7.Pv(x:l7):PV:=.agg x.Pc
abbrev _root_.Go.Sh.z8.Pc(x:z8):List PV:=[.L n8.Pv x.X.S.Cells,.I x.X.S.Last,.I x.X.S.Serial,.L iF x.X.Roots,.L m9.Pv x.X.Cells,.L k7.Pv x.X.T,.L o8.Pv x.X.Q.L,.I x.X.Q.Cap,.L (Ls s6.Pv) x.Progs]
abbrev _root_.Go.Sh.z8.Pv(x:z8):PV:=.agg x.Pc
abbrev _root_.Go.Sh.E9.Pc(x:E9):List PV:=[.I x.V,.I x.E]
abbrev _root_.Go.Sh.E9.Pv(x:E9):PV:=.agg x.Pc
def rC(t:Nat):Nat:=if t=132 then 4 else if t=136 then 0 else if t=140 then 1 else 0
theorem x6:H7 prog 3=some false:=by kernel_rfl
theorem kI:H7 prog 4=some false:=by kernel_rfl
theorem VW:H7 prog 25=some false:=by kernel_rfl
theorem fQ:H7 prog 27=some true:=by kernel_rfl
theorem lZ:H7 prog 29=some true:=by kernel_rfl
theorem fR:H7 prog 30=some false:=by kernel_rfl
theorem Oj:H7 prog 31=some false:=by kernel_rfl
theorem yh:H7 prog 32=some false:=by kernel_rfl
theorem VX:H7 prog 33=some false:=by kernel_rfl
theorem jZ:H7 prog 35=some true:=by kernel_rfl
theorem y6:H7 prog 37=some true:=by kernel_rfl
theorem ak:H7 prog 39=some true:=by kernel_rfl
theorem rB:H7 prog 40=some false:=by kernel_rfl
theorem ma:H7 prog 43=some false:=by kernel_rfl
theorem X9:H7 prog 45=some true:=by kernel_rfl
theorem IN:H7 prog 46=some false:=by kernel_rfl
theorem Da:H7 prog 47=some false:=by kernel_rfl
theorem vb:H7 prog 48=some false:=by kernel_rfl
theorem mb:H7 prog 50=some true:=by kernel_rfl
theorem A6:H7 prog 52=some true:=by kernel_rfl
theorem yi:H7 prog 55=some true:=by kernel_rfl
theorem gX:H7 prog 66=some true:=by kernel_rfl
theorem yj:H7 prog 69=some true:=by kernel_rfl
theorem Db:H7 prog 73=some true:=by kernel_rfl
theorem yk:H7 prog 96=some true:=by kernel_rfl
theorem xq:H7 prog 104=some true:=by kernel_rfl
theorem xr:H7 prog 110=some true:=by kernel_rfl
theorem RX:H7 prog 113=some false:=by kernel_rfl
theorem sC:H7 prog 150=some true:=by kernel_rfl
theorem RY:H7 prog 152=some false:=by kernel_rfl
theorem gr:H7 prog 154=some true:=by kernel_rfl
theorem jg:H7 prog 187=some true:=by kernel_rfl
theorem db:H7 prog 191=some true:=by kernel_rfl
theorem gu:H7 prog 251=some true:=by kernel_rfl
theorem KI:H7 prog 331=some false:=by kernel_rfl
theorem pG:H7 prog 430=some true:=by kernel_rfl
theorem F9:I5 prog 3=some 8:=by kernel_rfl
theorem VY:I5 prog 66=some 16:=by kernel_rfl
theorem Dc:I5 prog 101=some 80:=by kernel_rfl
theorem RZ:I5 prog 104=some 32:=by kernel_rfl
theorem Sa:I5 prog 113=some 24:=by kernel_rfl
theorem KJ:I5 prog 180=some 80:=by kernel_rfl
theorem Dd:I5 prog 183=some 24:=by kernel_rfl
theorem KK:I5 prog 185=some 24:=by kernel_rfl
theorem De:I5 prog 187=some 24:=by kernel_rfl
theorem KL:I5 prog 189=some 24:=by kernel_rfl
theorem KM:I5 prog 190=some 24:=by kernel_rfl
theorem Sb:I5 prog 191=some 24:=by kernel_rfl
theorem KN:I5 prog 221=some 24:=by kernel_rfl
theorem Sc:I5 prog 238=some 16:=by kernel_rfl
theorem KO:I5 prog 445=some 16:=by kernel_rfl
theorem fS:B8 prog 22=some 109:=by kernel_rfl
theorem O8:B8 prog 25=some 180:=by kernel_rfl
theorem g5:B8 prog 30=some 3:=by kernel_rfl
theorem U1:B8 prog 31=some 189:=by kernel_rfl
theorem al:B8 prog 32=some 190:=by kernel_rfl
theorem gY:B8 prog 33=some 191:=by kernel_rfl
theorem G3:B8 prog 43=some 101:=by kernel_rfl
theorem K9:B8 prog 46=some 183:=by kernel_rfl
theorem P9:B8 prog 47=some 185:=by kernel_rfl
theorem J2:B8 prog 48=some 187:=by kernel_rfl
theorem gZ:B8 prog 53=some 113:=by kernel_rfl
theorem IP:B8 prog 82=some 30:=by kernel_rfl
theorem hU:B8 prog 84=some 66:=by kernel_rfl
theorem fe:B8 prog 109=some 110:=by kernel_rfl
theorem ff:B8 prog 113=some 104:=by kernel_rfl
theorem L2:B8 prog 152=some 221:=by kernel_rfl
theorem bc:B8 prog 235=some 238:=by kernel_rfl
theorem bf:B8 prog 245=some 251:=by kernel_rfl
theorem md:B8 prog 443=some 445:=by kernel_rfl
theorem Ol:H0 prog 27 0=some (0,25):=by kernel_rfl
theorem Om:H0 prog 29 1=some (2,3):=by kernel_rfl
theorem On:H0 prog 35 0=some (0,33):=by kernel_rfl
theorem Oo:H0 prog 37 0=some (0,29):=by kernel_rfl
theorem yl:H0 prog 37 1=some (3,30):=by kernel_rfl
theorem Gk:H0 prog 37 2=some (4,31):=by kernel_rfl
theorem Oq:H0 prog 37 3=some (5,32):=by kernel_rfl
theorem Gl:H0 prog 37 4=some (6,35):=by kernel_rfl
theorem Gm:H0 prog 39 0=some (0,37):=by kernel_rfl
theorem dc:H0 prog 45 0=some (0,43):=by kernel_rfl
theorem sD:H0 prog 45 2=some (2,3):=by kernel_rfl
theorem oi:H0 prog 50 0=some (0,48):=by kernel_rfl
theorem Ot:H0 prog 52 0=some (0,45):=by kernel_rfl
theorem ym:H0 prog 52 1=some (3,30):=by kernel_rfl
theorem yn:H0 prog 52 2=some (4,46):=by kernel_rfl
theorem sF:H0 prog 52 3=some (5,47):=by kernel_rfl
theorem kK:H0 prog 52 4=some (6,50):=by kernel_rfl
theorem Gp:H0 prog 55 0=some (0,52):=by kernel_rfl
theorem ot:H0 prog 66 0=some (0,3):=by kernel_rfl
theorem Gq:H0 prog 66 1=some (1,40):=by kernel_rfl
theorem ou:H0 prog 96 0=some (0,3):=by kernel_rfl
theorem ov:H0 prog 96 1=some (1,3):=by kernel_rfl
theorem kL:H0 prog 96 2=some (2,3):=by kernel_rfl
theorem kM:H0 prog 96 3=some (3,3):=by kernel_rfl
theorem ow:H0 prog 96 4=some (4,4):=by kernel_rfl
theorem oy:H0 prog 96 5=some (5,30):=by kernel_rfl
theorem vc:H0 prog 101 0=some (0,3):=by kernel_rfl
theorem BP:H0 prog 101 1=some (1,3):=by kernel_rfl
theorem cK:H0 prog 101 2=some (2,96):=by kernel_rfl
theorem MK:H0 prog 104 0=some (0,3):=by kernel_rfl
theorem ML:H0 prog 104 2=some (2,3):=by kernel_rfl
theorem MM:H0 prog 110 0=some (0,3):=by kernel_rfl
theorem MN:H0 prog 150 1=some (1,3):=by kernel_rfl
theorem MO:H0 prog 150 2=some (2,3):=by kernel_rfl
theorem BQ:H0 prog 150 4=some (4,4):=by kernel_rfl
theorem MP:H0 prog 154 0=some (0,152):=by kernel_rfl
theorem vd:H0 prog 154 1=some (1,3):=by kernel_rfl
theorem BR:H0 prog 180 0=some (0,3):=by kernel_rfl
theorem MQ:H0 prog 180 2=some (2,150):=by kernel_rfl
theorem pH:H0 prog 183 0=some (0,3):=by kernel_rfl
theorem ve:H0 prog 183 1=some (1,4):=by kernel_rfl
theorem MR:H0 prog 183 2=some (2,3):=by kernel_rfl
theorem BS:H0 prog 185 0=some (0,3):=by kernel_rfl
theorem BT:H0 prog 185 1=some (1,3):=by kernel_rfl
theorem MS:H0 prog 185 2=some (2,3):=by kernel_rfl
theorem BU:H0 prog 187 0=some (0,3):=by kernel_rfl
theorem kJ:H0 prog 187 1=some (1,3):=by kernel_rfl
theorem BV:H0 prog 187 2=some (2,3):=by kernel_rfl
theorem BW:H0 prog 189 0=some (0,3):=by kernel_rfl
theorem MT:H0 prog 189 1=some (1,4):=by kernel_rfl
theorem MU:H0 prog 190 1=some (1,3):=by kernel_rfl
theorem vf:H0 prog 221 0=some (0,3):=by kernel_rfl
theorem BX:H0 prog 221 1=some (1,3):=by kernel_rfl
theorem MV:H0 prog 238 0=some (0,3):=by kernel_rfl
theorem BY:H0 prog 238 1=some (1,3):=by kernel_rfl
theorem MW:H0 prog 251 2=some (2,3):=by kernel_rfl
theorem MX:H0 prog 445 0=some (0,3):=by kernel_rfl
theorem BZ:H0 prog 445 1=some (1,3):=by kernel_rfl
theorem VZ:D3 prog 70:=kC func70 J
theorem Sd:D3 prog 109:=kC func109 J
theorem Se:D3 prog 123:=kC func123 J
theorem Sf:D3 prog 124:=kC func124 J
theorem KP:D3 prog 172:=kC func172 J
theorem Sg:D3 prog 178:=kC func178 J
theorem Si:D3 prog 303:=kC func303 J
theorem Sj:D3 prog 310:=kC func310 J
theorem Sk:D3 prog 320:=kC func320 J
theorem Sl:D3 prog 331:=kC func331 J
theorem Sn:D3 prog 332:=kC func332 J
theorem So:D3 prog 361:=kC func361 J
theorem Sp:D3 prog 363:=kC func363 J
theorem KQ:D3 prog 364:=kC func364 J
theorem KR:D3 prog 367:=kC func367 J
theorem Sr:D3 prog 387:=kC func387 J
theorem KS:D3 prog 388:=kC func388 J
theorem aH:uO prog 196=some (3,194):=by kernel_rfl
theorem yo:uO prog 222=some (3,3):=by kernel_rfl
theorem V5:uO prog 247=some (3,245):=by kernel_rfl
theorem fB:uO prog 331=some (3,4):=by kernel_rfl
theorem Ou:C1 prog 27=some (λi=>(#[(0,1),(1,1)]:Array (Nat × Nat))[i]?):=by kernel_rfl
theorem Ov:C1 prog 29=some (λi=>(#[(0,2),(2,1)]:Array (Nat × Nat))[i]?):=by kernel_rfl
theorem Wa:C1 prog 35=some (λi=>(#[(0,1),(1,1)]:Array (Nat × Nat))[i]?):=by kernel_rfl
theorem Ow:C1 prog 37=some (λi=>(#[(0,3),(3,1),(4,1),(5,1),(6,2)]:Array (Nat × Nat))[i]?):=by kernel_rfl
theorem Di:C1 prog 39=some (λi=>(#[(0,8),(8,1)]:Array (Nat × Nat))[i]?):=by kernel_rfl
theorem IQ:C1 prog 45=some (λi=>(#[(0,1),(1,1),(2,1)]:Array (Nat × Nat))[i]?):=by kernel_rfl
theorem IS:C1 prog 50=some (λi=>(#[(0,1),(1,1)]:Array (Nat × Nat))[i]?):=by kernel_rfl
theorem Wb:C1 prog 52=some (λi=>(#[(0,3),(3,1),(4,1),(5,1),(6,2)]:Array (Nat × Nat))[i]?):=by kernel_rfl
theorem Dj:C1 prog 55=some (λi=>(#[(0,8),(8,1)]:Array (Nat × Nat))[i]?):=by kernel_rfl
theorem Ox:C1 prog 66=some (λi=>(#[(0,1),(1,1)]:Array (Nat × Nat))[i]?):=by kernel_rfl
theorem Dk:C1 prog 69=some (λi=>(#[(0,1),(1,1)]:Array (Nat × Nat))[i]?):=by kernel_rfl
theorem Oy:C1 prog 73=some (λi=>some (i*1,1)):=by kernel_rfl
theorem Dl:C1 prog 96=some (λi=>(#[(0,1),(1,1),(2,1),(3,1),(4,1),(5,1)]:Array (Nat × Nat))[i]?):=by kernel_rfl
theorem KU:C1 prog 101=some (λi=>(#[(0,1),(1,1),(2,6)]:Array (Nat × Nat))[i]?):=by kernel_rfl
theorem Df:C1 prog 104=some (λi=>(#[(0,1),(1,1),(2,1),(3,1)]:Array (Nat × Nat))[i]?):=by kernel_rfl
theorem xt:C1 prog 110=some (λi=>(#[(0,1),(1,1),(2,1),(3,1)]:Array (Nat × Nat))[i]?):=by kernel_rfl
theorem Ss:C1 prog 132=some (λi=>(#[(0,4)]:Array (Nat × Nat))[i]?):=by kernel_rfl
theorem Su:C1 prog 136=some (λi=>(#[]:Array (Nat × Nat))[i]?):=by kernel_rfl
theorem Sw:C1 prog 140=some (λi=>(#[(0,1)]:Array (Nat × Nat))[i]?):=by kernel_rfl
theorem Sx:C1 prog 150=some (λi=>(#[(0,1),(1,1),(2,1),(3,1),(4,1),(5,1)]:Array (Nat × Nat))[i]?):=by kernel_rfl
theorem KV:C1 prog 154=some (λi=>(#[(0,1),(1,1)]:Array (Nat × Nat))[i]?):=by kernel_rfl
theorem xu:C1 prog 180=some (λi=>(#[(0,1),(1,1),(2,6)]:Array (Nat × Nat))[i]?):=by kernel_rfl
theorem Sy:C1 prog 183=some (λi=>(#[(0,1),(1,1),(2,1)]:Array (Nat × Nat))[i]?):=by kernel_rfl
theorem Dg:C1 prog 185=some (λi=>(#[(0,1),(1,1),(2,1)]:Array (Nat × Nat))[i]?):=by kernel_rfl
theorem xv:C1 prog 187=some (λi=>(#[(0,1),(1,1),(2,1)]:Array (Nat × Nat))[i]?):=by kernel_rfl
theorem Sz:C1 prog 189=some (λi=>(#[(0,1),(1,1),(2,1)]:Array (Nat × Nat))[i]?):=by kernel_rfl
theorem KW:C1 prog 190=some (λi=>(#[(0,1),(1,1),(2,1)]:Array (Nat × Nat))[i]?):=by kernel_rfl
theorem Dh:C1 prog 191=some (λi=>(#[(0,1),(1,1),(2,1)]:Array (Nat × Nat))[i]?):=by kernel_rfl
theorem SA:C1 prog 200=some (λi=>(#[(0,8),(8,4)]:Array (Nat × Nat))[i]?):=by kernel_rfl
theorem sG:C1 prog 221=some (λi=>(#[(0,1),(1,1),(2,1)]:Array (Nat × Nat))[i]?):=by kernel_rfl
theorem SC:C1 prog 238=some (λi=>(#[(0,1),(1,1)]:Array (Nat × Nat))[i]?):=by kernel_rfl
theorem dd:C1 prog 251=some (λi=>(#[(0,1),(1,1),(2,1),(3,1)]:Array (Nat × Nat))[i]?):=by kernel_rfl
theorem SD:C1 prog 374=some (λi=>(#[(0,1),(1,1),(2,1)]:Array (Nat × Nat))[i]?):=by kernel_rfl
theorem SE:C1 prog 382=some (λi=>(#[(0,1)]:Array (Nat × Nat))[i]?):=by kernel_rfl
theorem SF:C1 prog 398=some (λi=>(#[(0,1)]:Array (Nat × Nat))[i]?):=by kernel_rfl
theorem SG:C1 prog 400=some (λi=>(#[(0,1),(1,1)]:Array (Nat × Nat))[i]?):=by kernel_rfl
theorem SH:C1 prog 430=some (λi=>(#[(0,1),(1,1)]:Array (Nat × Nat))[i]?):=by kernel_rfl
theorem KX:C1 prog 445=some (λi=>(#[(0,1),(1,1)]:Array (Nat × Nat))[i]?):=by kernel_rfl
theorem Wc:fX prog 66=some [1,1]:=by kernel_rfl
theorem Wd:fX prog 69=some [1,1]:=by kernel_rfl
theorem Oz:fX prog 73=some [1,1,1,1]:=by kernel_rfl
theorem KY:rW prog 132=true:=by kernel_rfl
theorem KZ:rW prog 136=true:=by kernel_rfl
theorem La:rW prog 140=true:=by kernel_rfl
theorem SI:fX prog 183=some [1,0,1]:=by kernel_rfl
theorem SJ:fX prog 185=some [1,1,1]:=by kernel_rfl
theorem SK:fX prog 187=some [1,1,1]:=by kernel_rfl
theorem Dm:Kq prog 73=some (4,3):=by kernel_rfl
theorem m7:u6 prog 3=some 1:=by kernel_rfl
theorem YK:u6 prog 4=some 1:=by kernel_rfl
theorem dg:u6 prog 27=some 2:=by kernel_rfl
theorem mf:u6 prog 29=some 3:=by kernel_rfl
theorem vg:u6 prog 30=some 1:=by kernel_rfl
theorem OA:u6 prog 33=some 1:=by kernel_rfl
theorem dh:u6 prog 35=some 2:=by kernel_rfl
theorem u4:u6 prog 37=some 8:=by kernel_rfl
theorem Q0:u6 prog 39=some 9:=by kernel_rfl
theorem V6:u6 prog 45=some 3:=by kernel_rfl
theorem fT:u6 prog 50=some 2:=by kernel_rfl
theorem w9:u6 prog 52=some 8:=by kernel_rfl
theorem vh:u6 prog 55=some 9:=by kernel_rfl
theorem O9:u6 prog 66=some 2:=by kernel_rfl
theorem yp:u6 prog 69=some 2:=by kernel_rfl
theorem Dp:u6 prog 73=some 4:=by kernel_rfl
theorem kc:u6 prog 96=some 6:=by kernel_rfl
theorem G5:u6 prog 101=some 8:=by kernel_rfl
theorem de:u6 prog 104=some 4:=by kernel_rfl
theorem pJ:u6 prog 109=some 1:=by kernel_rfl
theorem gv:u6 prog 110=some 4:=by kernel_rfl
theorem jh:u6 prog 113=some 1:=by kernel_rfl
theorem SM:u6 prog 136=some 0:=by kernel_rfl
theorem ji:u6 prog 150=some 6:=by kernel_rfl
theorem SN:u6 prog 152=some 1:=by kernel_rfl
theorem df:u6 prog 154=some 2:=by kernel_rfl
theorem R7:u6 prog 180=some 8:=by kernel_rfl
theorem O3:u6 prog 183=some 3:=by kernel_rfl
theorem R8:u6 prog 185=some 3:=by kernel_rfl
theorem F8:u6 prog 187=some 3:=by kernel_rfl
theorem Y0:u6 prog 189=some 3:=by kernel_rfl
theorem bg:u6 prog 190=some 3:=by kernel_rfl
theorem M0:u6 prog 191=some 3:=by kernel_rfl
theorem R9:u6 prog 221=some 3:=by kernel_rfl
theorem fg:u6 prog 238=some 2:=by kernel_rfl
theorem M1:u6 prog 251=some 4:=by kernel_rfl
theorem jj:u6 prog 430=some 2:=by kernel_rfl
theorem sH:u6 prog 445=some 2:=by kernel_rfl
theorem N3:prog.underlying 3=some (.int .i64):=by kernel_rfl
theorem OB:prog.underlying 4=some (.bool):=by kernel_rfl
theorem A0:A5 prog 3=some ((.I 0)):=by kernel_rfl
theorem Gr:A5 prog 4=some ((.bool false)):=by kernel_rfl
theorem OC:A5 prog 27=some ((.agg #[(.slice none 0 0),(.I 0)])):=by kernel_rfl
theorem OD:A5 prog 29=some ((.agg #[(.slice none 0 0),(.I 0),(.I 0)])):=by kernel_rfl
theorem We:A5 prog 30=some ((.slice none 0 0)):=by kernel_rfl
theorem Wf:A5 prog 35=some ((.agg #[(.slice none 0 0),(.I 0)])):=by kernel_rfl
theorem OE:A5 prog 37=some ((.agg #[(.slice none 0 0),(.I 0),(.I 0),(.slice none 0 0),(.slice none 0 0),(.slice none 0 0),(.slice none 0 0),(.I 0)])):=by kernel_rfl
theorem Ds:A5 prog 39=some ((.agg #[(.slice none 0 0),(.I 0),(.I 0),(.slice none 0 0),(.slice none 0 0),(.slice none 0 0),(.slice none 0 0),(.I 0),(.slice none 0 0)])):=by kernel_rfl
theorem IT:A5 prog 45=some ((.agg #[(.slice none 0 0),(.I 0),(.I 0)])):=by kernel_rfl
theorem IU:A5 prog 50=some ((.agg #[(.slice none 0 0),(.I 0)])):=by kernel_rfl
theorem Wg:A5 prog 52=some ((.agg #[(.slice none 0 0),(.I 0),(.I 0),(.slice none 0 0),(.slice none 0 0),(.slice none 0 0),(.slice none 0 0),(.I 0)])):=by kernel_rfl
theorem Dt:A5 prog 55=some ((.agg #[(.slice none 0 0),(.I 0),(.I 0),(.slice none 0 0),(.slice none 0 0),(.slice none 0 0),(.slice none 0 0),(.I 0),(.slice none 0 0)])):=by kernel_rfl
theorem Du:A5 prog 66=some ((.agg #[(.I 0),(.I 0)])):=by kernel_rfl
theorem Dv:A5 prog 69=some ((.agg #[(.I 0),(.I 0)])):=by kernel_rfl
theorem OF:A5 prog 73=some ((.agg #[(.I 0),(.I 0),(.I 0),(.I 0)])):=by kernel_rfl
theorem Dw:A5 prog 96=some ((.agg #[(.I 0),(.I 0),(.I 0),(.I 0),(.bool false),(.slice none 0 0)])):=by kernel_rfl
theorem mg:A5 prog 101=some ((.agg #[(.I 0),(.I 0),(.I 0),(.I 0),(.I 0),(.I 0),(.bool false),(.slice none 0 0)])):=by kernel_rfl
theorem sI:A5 prog 104=some ((.agg #[(.I 0),(.I 0),(.I 0),(.I 0)])):=by kernel_rfl
theorem SO:A5 prog 109=some ((.slice none 0 0)):=by kernel_rfl
theorem sJ:A5 prog 110=some ((.agg #[(.I 0),(.I 0),(.I 0),(.I 0)])):=by kernel_rfl
theorem Lb:A5 prog 113=some ((.slice none 0 0)):=by kernel_rfl
theorem Lc:A5 prog 132=some ((.agg #[(.I 0),(.I 0),(.I 0),(.I 0)])):=by kernel_rfl
theorem Ld:A5 prog 136=some ((.agg #[])):=by kernel_rfl
theorem Le:A5 prog 140=some ((.agg #[(.I 0)])):=by kernel_rfl
theorem SP:A5 prog 150=some ((.agg #[(.I 0),(.I 0),(.I 0),(.I 0),(.bool false),(.slice none 0 0)])):=by kernel_rfl
theorem Lf:A5 prog 154=some ((.agg #[(.slice none 0 0),(.I 0)])):=by kernel_rfl
theorem pK:A5 prog 180=some ((.agg #[(.I 0),(.I 0),(.I 0),(.I 0),(.I 0),(.I 0),(.bool false),(.slice none 0 0)])):=by kernel_rfl
theorem pL:A5 prog 183=some ((.agg #[(.I 0),(.bool false),(.I 0)])):=by kernel_rfl
theorem pM:A5 prog 185=some ((.agg #[(.I 0),(.I 0),(.I 0)])):=by kernel_rfl
theorem gw:A5 prog 187=some ((.agg #[(.I 0),(.I 0),(.I 0)])):=by kernel_rfl
theorem Dq:A5 prog 189=some ((.agg #[(.I 0),(.bool false),(.I 0)])):=by kernel_rfl
theorem xw:A5 prog 190=some ((.agg #[(.I 0),(.I 0),(.I 0)])):=by kernel_rfl
theorem sK:A5 prog 191=some ((.agg #[(.I 0),(.I 0),(.I 0)])):=by kernel_rfl
theorem SQ:A5 prog 194=some (.nilFunc):=by kernel_rfl
theorem SS:A5 prog 200=some ((.agg #[(.slice none 0 0),(.I 0),(.I 0),(.slice none 0 0),(.slice none 0 0),(.slice none 0 0),(.slice none 0 0),(.I 0),(.I 0),(.I 0),(.I 0),(.I 0)])):=by kernel_rfl
theorem jk:A5 prog 221=some ((.agg #[(.I 0),(.I 0),(.I 0)])):=by kernel_rfl
theorem Dr:A5 prog 238=some ((.agg #[(.I 0),(.I 0)])):=by kernel_rfl
theorem SU:A5 prog 245=some ((.slice none 0 0)):=by kernel_rfl
theorem L3:A5 prog 251=some ((.agg #[.nilFunc,(.I 0),(.I 0),(.I 0)])):=by kernel_rfl
theorem SV:A5 prog 374=some ((.agg #[(.I 0),(.I 0),(.I 0)])):=by kernel_rfl
theorem SW:A5 prog 382=some ((.agg #[(.slice none 0 0)])):=by kernel_rfl
theorem SX:A5 prog 398=some ((.agg #[.nilFunc])):=by kernel_rfl
theorem SY:A5 prog 400=some ((.agg #[(.I 0),(.I 0)])):=by kernel_rfl
theorem SZ:A5 prog 430=some ((.agg #[(.slice none 0 0),(.I 0)])):=by kernel_rfl
theorem pN:A5 prog 445=some ((.agg #[(.I 0),(.I 0)])):=by kernel_rfl
theorem p8:prog.follows .mixedOrders=true:=by kernel_rfl
def tb:TB:=⟨[((27,0),(0,25)),((27,1),(1,3)),((29,0),(0,27)),((29,1),(2,3)),((35,0),(0,33)),((35,1),(1,3)),((37,0),(0,29)),((37,1),(3,30)),((37,2),(4,31)),((37,3),(5,32)),((37,4),(6,35)),((39,0),(0,37)),((39,1),(8,22)),((45,0),(0,43)),((45,1),(1,3)),((45,2),(2,3)),((50,0),(0,48)),((50,1),(1,3)),((52,0),(0,45)),((52,1),(3,30)),((52,2),(4,46)),((52,3),(5,47)),((52,4),(6,50)),((55,0),(0,52)),((55,1),(8,53)),((66,0),(0,3)),((66,1),(1,40)),((96,0),(0,3)),((96,1),(1,3)),((96,2),(2,3)),((96,3),(3,3)),((96,4),(4,4)),((96,5),(5,30)),((101,0),(0,3)),((101,1),(1,3)),((101,2),(2,96)),((104,0),(0,3)),((104,1),(1,3)),((104,2),(2,3)),((104,3),(3,3)),((110,0),(0,3)),((110,1),(1,3)),((110,2),(2,3)),((110,3),(3,3)),((132,0),(0,110)),((140,0),(0,3)),((150,0),(0,3)),((150,1),(1,3)),((150,2),(2,3)),((150,3),(3,3)),((150,4),(4,4)),((150,5),(5,30)),((154,0),(0,152)),((154,1),(1,3)),((180,0),(0,3)),((180,1),(1,3)),((180,2),(2,150)),((183,0),(0,3)),((183,1),(1,4)),((183,2),(2,3)),((185,0),(0,3)),((185,1),(1,3)),((185,2),(2,3)),((187,0),(0,3)),((187,1),(1,3)),((187,2),(2,3)),((189,0),(0,3)),((189,1),(1,4)),((189,2),(2,3)),((190,0),(0,3)),((190,1),(1,3)),((190,2),(2,3)),((191,0),(0,3)),((191,1),(1,3)),((191,2),(2,3)),((200,0),(0,37)),((200,1),(8,110)),((221,0),(0,3)),((221,1),(1,3)),((221,2),(2,3)),((238,0),(0,3)),((238,1),(1,3)),((251,0),(0,249)),((251,1),(1,3)),((251,3),(3,40)),((374,0),(0,3)),((374,1),(1,3)),((374,2),(2,3)),((382,0),(0,32)),((398,0),(0,396)),((400,0),(0,3)),((400,1),(1,3)),((430,0),(0,30)),((430,1),(1,3)),((445,0),(0,3)),((445,1),(1,3))],[(3,false),(4,false),(22,false),(25,false),(27,true),(29,true),(30,false),(31,false),(32,false),(33,false),(35,true),(37,true),(39,true),(40,false),(43,false),(45,true),(46,false),(47,false),(48,false),(50,true),(52,true),(53,false),(55,true),(66,true),(73,true),(96,true),(101,true),(104,true),(109,false),(110,true),(113,false),(150,true),(152,false),(154,true),(180,true),(183,true),(185,true),(187,true),(189,true),(190,true),(191,true),(200,true),(221,true),(222,false),(249,false),(251,true),(331,false),(396,false),(398,true),(430,true),(443,false),(445,true),(453,false)],[(3,1),(4,1),(25,1),(27,2),(29,3),(30,1),(31,1),(32,1),(35,2),(37,8),(39,9),(40,1),(45,3),(46,1),(47,1),(50,2),(52,8),(55,9),(66,2),(69,2),(73,4),(96,6),(101,8),(104,4),(110,4),(132,4),(140,1),(150,6),(154,2),(180,8),(183,3),(185,3),(187,3),(189,3),(190,3),(191,3),(200,12),(221,3),(222,1),(251,4),(331,1),(398,1),(430,2),(443,1),(445,2)],[(3,.I 0),(4,.bool false),(27,.agg [.lst true (List.map c4.Pv []),.I 0]),(29,.agg [.lst true (List.map c4.Pv []),.I 0,.I 0]),(30,.lst true (List.map iF [])),(32,.lst true (List.map c9.Pv [])),(35,.agg [.lst true (List.map l5.Pv []),.I 0]),(37,.agg [.lst true (List.map c4.Pv []),.I 0,.I 0,.lst true (List.map iF []),.lst true (List.map g9.Pv []),.lst true (List.map c9.Pv []),.lst true (List.map l5.Pv []),.I 0]),(39,.agg [.lst true (List.map c4.Pv []),.I 0,.I 0,.lst true (List.map iF []),.lst true (List.map g9.Pv []),.lst true (List.map c9.Pv []),.lst true (List.map l5.Pv []),.I 0,.lst true (List.map (Ls k8.Pv) [])]),(40,.I 0),(45,.agg [.lst true (List.map n8.Pv []),.I 0,.I 0]),(50,.agg [.lst true (List.map o8.Pv []),.I 0]),(52,.agg [.lst true (List.map n8.Pv []),.I 0,.I 0,.lst true (List.map iF []),.lst true (List.map m9.Pv []),.lst true (List.map k7.Pv []),.lst true (List.map o8.Pv []),.I 0]),(55,.agg [.lst true (List.map n8.Pv []),.I 0,.I 0,.lst true (List.map iF []),.lst true (List.map m9.Pv []),.lst true (List.map k7.Pv []),.lst true (List.map o8.Pv []),.I 0,.lst true (List.map (Ls s6.Pv) [])]),(66,.agg [.I 0,.I 0]),(69,.agg [.I 0,.I 0]),(73,.agg [.I 0,.I 0,.I 0,.I 0]),(96,.agg [.I 0,.I 0,.I 0,.I 0,.bool false,.lst true (List.map iF [])]),(101,.agg [.I 0,.I 0,.I 0,.I 0,.I 0,.I 0,.bool false,.lst true (List.map iF [])]),(104,.agg [.I 0,.I 0,.I 0,.I 0]),(110,.agg [.I 0,.I 0,.I 0,.I 0]),(132,.agg [.I 0,.I 0,.I 0,.I 0]),(136,.agg []),(140,.agg [.I 0]),(150,.agg [.I 0,.I 0,.I 0,.I 0,.bool false,.lst true (List.map iF [])]),(154,.agg [.lst true (List.map z6.Pv []),.I 0]),(180,.agg [.I 0,.I 0,.I 0,.I 0,.I 0,.I 0,.bool false,.lst true (List.map iF [])]),(183,.agg [.I 0,.bool false,.I 0]),(185,.agg [.I 0,.I 0,.I 0]),(187,.agg [.I 0,.I 0,.I 0]),(189,.agg [.I 0,.bool false,.I 0]),(190,.agg [.I 0,.I 0,.I 0]),(191,.agg [.I 0,.I 0,.I 0]),(221,.agg [.I 0,.I 0,.I 0]),(222,.abs IL),(251,.agg [.nilfn,.I 0,.I 0,.I 0]),(331,.abs IL),(398,.agg [.nilfn]),(430,.agg [.lst true (List.map iF []),.I 0]),(443,.lst true (List.map p6.Pv [])),(445,.agg [.I 0,.I 0])]⟩
theorem Tb:TB.Ok prog tb:=⟨by kernel_rfl,by kernel_rfl,by kernel_rfl,by kernel_rfl⟩
section
variable{X:Ctx}{ops:Array Oper}{K:Ctx->St->Prop}{i n:Nat}{l l':List Oper}{env env':Nat->PV}{σ σ':Nat->Option Row}{Q:PX->Ctx->St->Prop}{y:Code}{KD:St->Prop}{bar:List Nat}
theorem S1(n:Nat)(h:run tb n l env σ=some (l',env',σ'))(k:Sq X ops (i+n) l' K ⟨env',σ'⟩)(hb:TB.Ok X.P tb:=by exact Tb):Sq X ops i l K ⟨env,σ⟩:=Ye hb n h k
theorem S2(n:Nat)(h:run tb n l env σ=some ([],env',σ'))(k:K X ⟨env',σ'⟩)(hb:TB.Ok X.P tb:=by exact Tb):Sq X ops i l K ⟨env,σ⟩:=Ye hb n h (yN k)
theorem S3{id:Nat}(n:Nat)(h:run tb n l env σ=some (l',env',σ'))(k:Sq X l.toArray (0+n) l' (λX' s=>X5 X' y Q s) ⟨env',σ'⟩)(hd:fE X.N l.toArray=true:=by kernel_rfl)(hb:TB.Ok X.P tb:=by exact Tb):X5 X (.seq (.region id l.toArray false) y) Q ⟨env,σ⟩:=sr hd (Ye hb n h k)
theorem S4{id:Nat}(n:Nat)(h:run tb n l env σ=some ([],env',σ'))(k:X5 X y Q ⟨env',σ'⟩)(hd:fE X.N l.toArray=true:=by kernel_rfl)(hb:TB.Ok X.P tb:=by exact Tb):X5 X (.seq (.region id l.toArray false) y) Q ⟨env,σ⟩:=sr hd (Ye hb n h (yN k))
theorem S5{id:Nat}(n:Nat)(h:run tb n l env σ=some (l',env',σ'))(k:Sq X l.toArray (0+n) l' (Q .normal) ⟨env',σ'⟩)(hd:fE X.N l.toArray=true:=by kernel_rfl)(hb:TB.Ok X.P tb:=by exact Tb):X5 X (.region id l.toArray false) Q ⟨env,σ⟩:=VK hd (Ye hb n h k)
theorem S6{id:Nat}(n:Nat)(h:run tb n l env σ=some ([],env',σ'))(k:Q .normal X ⟨env',σ'⟩)(hd:fE X.N l.toArray=true:=by kernel_rfl)(hb:TB.Ok X.P tb:=by exact Tb):X5 X (.region id l.toArray false) Q ⟨env,σ⟩:=VK hd (Ye hb n h (yN k))
theorem S7(n:Nat)(h:UE tb bar n i l env σ=some (l',env',σ'))(k:Ex X.P ops bar true (i+n) l' ⟨env',σ'⟩ KD)(hb:TB.Ok X.P tb:=by exact Tb):Ex X.P ops bar true i l ⟨env,σ⟩ KD:=dG hb n h k
theorem S8(n:Nat)(h:UE tb bar n i l env σ=some ([],env',σ'))(k:KD ⟨env',σ'⟩)(hb:TB.Ok X.P tb:=by exact Tb):Ex X.P ops bar true i l ⟨env,σ⟩ KD:=dG hb n h k
end
theorem Yh:CY prog (Tryz.sortF_ren.f 6):=NV Tryz.sortF
theorem UM:xp prog (Tryz.sortI_ren.f 5):=Kp Tryz.sortI
theorem FP{a0}:PO prog 45 [a7.Pv a0] (qJ a0) λr=>.bool r:=by
 refine pO func45 λr h _ _=>?_;refine S4 2 J ?_;refine jq h (λ_=>St.of [(1,.ptr 1 0 0)] [(1,vR (a7.Pv a0) 3)]) (λq6 h=>?_) λκ5 h=>?_
 .refine S3 3 J ?_;refine nL J O8<|S2 2 J<|a8 ?_;cases h;exact f1
 .refine S4 1 J ?_;refine c8<|lq h (λs8=>St.of [(1,.ptr 1 0 0),(3,.I s8)] [(1,vR (a7.Pv a0) 3)]) W λs8 x9 h hx8=>c7<|S3 4 J<|nL J O8<|S1 2 J<|g8 J (λhg=>mI J)<|g8 J (λhg=>r9 (ct hg) J J)<|y0 J (w8 J J J (λq=>V0 q))<|yN ?_;refine cN h (λhc h=>?_) λhc h=>?_
  .refine b8 ?_;refine c7<|c8<|S3 4 J<|iL h J J O8 R7 λv10 _ h=>S1 3 J<|nL J g5<|S2 1 J ?_;refine cN h (λhc h=>?_) λhc h=>?_
   .refine S4 1 J ?_;refine a8 ?_;have h:=xL hx8 h;cases h;exact f1
   .refine b8 ?_;refine S6 3 J ?_;exact eL h W
  .refine n9 ?_;refine b9<|b9<|j5 ?_;have h:=xL hx8 h;exact eJ h W
theorem Bb{a0}:PO prog 15 [b7.Pv a0] (qI a0) λr=>.bool r:=by
 refine pO func15 λr h _ _=>?_;refine S4 2 J<|S3 2 J<|cA h FP J J λv1 _ h=>S1 1 J<|g8 J (λhg=>oF J yl J)<|g8 J (λhg=>oS (ct hg) J J fR J)<|g8 J (λhg=>N8 (f:=iF) (ct hg) g5)<|g8 J (λhg=>r9 (ct hg) J J)<|y0 J (w8 J J J (λq=>V0 q))<|S1 1 J<|g8 J (λhg=>oF J Gk J)<|g8 J (λhg=>oS (ct hg) J J Oj J)<|g8 J (λhg=>N8 (f:=g9.Pv) (ct hg) U1)<|g8 J (λhg=>r9 (ct hg) J J)<|y0 J (w8 J J J (λq=>V0 q))<|S1 1 J<|g8 J (λhg=>oF J Oq J)<|g8 J (λhg=>oS (ct hg) J J yh J)<|g8 J (λhg=>N8 (f:=c9.Pv) (ct hg) al)<|g8 J (λhg=>r9 (ct hg) J J)<|y0 J (w8 J J J (λq=>V0 q))<|S1 1 J<|g8 J (λhg=>oF J Gl J)<|g8 J (λhg=>oF (ct hg) On J)<|g8 J (λhg=>oS (ct hg) J J VX J)<|g8 J (λhg=>N8 (f:=l5.Pv) (ct hg) gY)<|g8 J (λhg=>r9 (ct hg) J J)<|y0 J (w8 J J J (λq=>V0 q))<|S2 1 J<|a8 ?_;cases h;exact f1
theorem Ky{a0}:PO prog 99 [n7.Pv a0] (yf a0) λr=>D2.Pv r:=by
 refine pO func99 λr h _ _=>?_;unfold yf at h;refine S4 2 J<|S3 12 J<|y0 J (p9 (cs:=[.I a0.Serial,.I a0.Strong,.I a0.Weak,.I a0.Prog,.bool a0.Started,.L iF a0.Fields]) J Dl Dw J J J)<|S2 1 J<|a8 ?_;cases h;exact⟨J,[_],⟨oL J J J yk kc nl J,tr⟩,J,io⟩
theorem Kx{a0}:PO prog 50 [a7.Pv a0] (ye a0) λr=>l4.Pv r:=by
 refine pO func50 λr h _ _=>?_;refine S4 2 J<|sR<|y0 J (A9 J G3 G5)<|S2 1 J ?_;refine jq h (λj10=>St.of [(1,.ptr 1 0 0),(2,.ptr 2 0 0),(3,.sl 910003)] [(910003,⟨List.map n8.Pv j10,(List.map n8.Pv j10).length,true,8,true⟩),(2,vR (.agg [.nl,.I 0,.I 0]) 3),(1,vR (a7.Pv a0) 3)]) (λj10 h=>?_) λκ9 h=>?_
 .refine S3 6 J ?_;refine y0 J (p9 (cs:=[.sl 910003,.I a0.S.Last,.I a0.Serial]) J IQ IT J J J)<|S2 1 J<|a8 ?_;cases h;exact⟨J,[_],⟨oL J J J X9 V6 nl J,tr⟩,J,io⟩
 .refine S4 1 J ?_;refine c8<|lq h (λq=>St.of [(1,.ptr 1 0 0),(2,.ptr 2 0 0),(3,.sl 910003),(4,.I q.1)] [(2,vR (.agg [.nl,.I 0,.I 0]) 3),(1,vR (a7.Pv a0) 3),(910003,⟨List.map n8.Pv q.2,(List.map n8.Pv q.2).length,true,8,true⟩)]) (Wk.trans (D7 (t:=3) (l:=920003) (z:=8) J J) (WP (λl=>if l=910003 then 920003 else l))) λq15 x14 h hx10=>?_;obtain⟨s12,s13⟩:=q15;refine c7<|S3 4 J<|nL J O8<|S2 1 J ?_;refine cN h (λhc h=>?_) λhc h=>?_
  .refine b8 ?_;refine c7<|c8<|S3 4 J<|iL h J J O8 R7 λv16 _ h=>S2 3 J<|bJ [] p8 (by kernel_rfl) (by kernel_rfl)<|S7 7 J<|s7 h λv17 hv12 h=>ax J (x4 J Ky J hv12) J<|d7 J (λ_ hN=>p9 (cs:=[.I v16.State,.I v16.Gen,.I v17.Serial,.I v17.Strong,.I v17.Weak,.I v17.Prog,.bool v17.Started,.L iF v17.Fields]) J KU mg J J J) J<|Tk J (H5 (f:=n8.Pv) (l:=[(⟨v16.State,v16.Gen,v17⟩:n8)]) J G3 G5 mg J J nl J J) J<|s7 h λv18 hv13 h=>Vm J (F7 (f:=n8.Pv) hv13 J J J J J J (.inl ⟨_,J,J⟩) G3 G5 Dc mg J (λ_=>J)) J J J J J<|S8 1 J<|S6 3 J ?_;exact eL h (Wk.trans (n0 _ [31]) (WP (λl=>if l=910003 then 31 else l)))
  .refine n9 ?_;refine b9<|b9<|j5 ?_;have h:=xL hx10 h;exact eJ h (Wk.trans (n0 _ [910003]) W)
theorem FO{a0}:PO prog 51 [.L g9.Pv a0] (qH a0) λr=>.L m9.Pv r:=by
 refine pO func51 λr h _ _=>?_;refine S4 1 J<|sR<|y0 J (A9 J K9 O3)<|S2 1 J ?_;refine jq h (λj9=>St.of [(3,.sl 910003)] [(910003,⟨List.map m9.Pv j9,(List.map m9.Pv j9).length,true,3,true⟩)]) (λj9 h=>?_) λκ8 h=>?_
 .refine S4 2 J ?_;refine a8 ?_;cases h;exact f1
 .refine S4 1 J ?_;refine c8<|lq h (λq=>St.of [(0,.L g9.Pv a0),(3,.sl 910003),(4,.I q.1)] [(910003,⟨List.map m9.Pv q.2,(List.map m9.Pv q.2).length,true,3,true⟩)]) (Wk.trans (D7 (t:=3) (l:=920003) (z:=3) J J) (WP (λl=>if l=910003 then 920003 else l))) λq14 x13 h hx9=>?_;obtain⟨s11,s12⟩:=q14;refine c7<|S3 2 J<|nL J U1<|S2 1 J ?_;refine cN h (λhc h=>?_) λhc h=>?_
  .refine b8 ?_;refine c7<|c8<|S5 3 J<|iL h J J U1 Y0 λv15 _ h=>S1 1 J<|y0 J (H5 (f:=m9.Pv) (l:=[(⟨v15.Target,v15.Intact,v15.Call⟩:m9)]) J K9 O3 pL J J nl J J)<|s7 h λv16 hv11 h=>I2 J (F7 (f:=m9.Pv) hv11 J J J J J J (.inl ⟨_,J,J⟩) K9 O3 Dd pL J (λ_=>J)) J J J<|S2 1 J<|S6 3 J ?_;exact eL h (Wk.trans (n0 _ [18]) (WP (λl=>if l=910003 then 18 else l)))
  .refine n9 ?_;refine b9<|b9<|j5 ?_;have h:=xL hx9 h;exact eJ h (Wk.trans (n0 _ [910003]) W)
theorem Kz{a0}:PO prog 52 [.L c9.Pv a0] (yg a0) λr=>.L k7.Pv r:=by
 refine pO func52 λr h _ _=>?_;refine S4 1 J<|sR<|y0 J (A9 J P9 R8)<|S2 1 J ?_;refine jq h (λj9=>St.of [(3,.sl 910003)] [(910003,⟨List.map k7.Pv j9,(List.map k7.Pv j9).length,true,3,true⟩)]) (λj9 h=>?_) λκ8 h=>?_
 .refine S4 2 J ?_;refine a8 ?_;cases h;exact f1
 .refine S4 1 J ?_;refine c8<|lq h (λq=>St.of [(0,.L c9.Pv a0),(3,.sl 910003),(4,.I q.1)] [(910003,⟨List.map k7.Pv q.2,(List.map k7.Pv q.2).length,true,3,true⟩)]) (Wk.trans (D7 (t:=3) (l:=920003) (z:=3) J J) (WP (λl=>if l=910003 then 920003 else l))) λq14 x13 h hx9=>?_;obtain⟨s11,s12⟩:=q14;refine c7<|S3 2 J<|nL J al<|S2 1 J ?_;refine cN h (λhc h=>?_) λhc h=>?_
  .refine b8 ?_;refine c7<|c8<|S5 3 J<|iL h J J al bg λv15 _ h=>S1 1 J<|y0 J (H5 (f:=k7.Pv) (l:=[(⟨v15.State,v15.Key,v15.Val⟩:k7)]) J P9 R8 pM J J nl J J)<|s7 h λv16 hv11 h=>I2 J (F7 (f:=k7.Pv) hv11 J J J J J J (.inl ⟨_,J,J⟩) P9 R8 KK pM J (λ_=>J)) J J J<|S2 1 J<|S6 3 J ?_;exact eL h (Wk.trans (n0 _ [18]) (WP (λl=>if l=910003 then 18 else l)))
  .refine n9 ?_;refine b9<|b9<|j5 ?_;have h:=xL hx9 h;exact eJ h (Wk.trans (n0 _ [910003]) W)
theorem FR{a0}:PO prog 53 [g7.Pv a0] (qL a0) λr=>y4.Pv r:=by
 refine pO func53 λr h _ _=>?_;refine S4 2 J<|sR<|y0 J (A9 J J2 F8)<|S2 1 J ?_;refine jq h (λj9=>St.of [(1,.ptr 1 0 0),(2,.ptr 2 0 0),(3,.sl 910003)] [(910003,⟨List.map o8.Pv j9,(List.map o8.Pv j9).length,true,3,true⟩),(2,vR (.agg [.nl,.I 0]) 2),(1,vR (g7.Pv a0) 2)]) (λj9 h=>?_) λκ8 h=>?_
 .refine S3 3 J ?_;refine y0 J (p9 (cs:=[.sl 910003,.I a0.Cap]) J IS IU J J J)<|S2 1 J<|a8 ?_;cases h;exact⟨J,[_],⟨oL J J J mb fT nl J,tr⟩,J,io⟩
 .refine S4 1 J ?_;refine c8<|lq h (λq=>St.of [(1,.ptr 1 0 0),(2,.ptr 2 0 0),(3,.sl 910003),(4,.I q.1)] [(2,vR (.agg [.nl,.I 0]) 2),(1,vR (g7.Pv a0) 2),(910003,⟨List.map o8.Pv q.2,(List.map o8.Pv q.2).length,true,3,true⟩)]) (Wk.trans (D7 (t:=3) (l:=920003) (z:=3) J J) (WP (λl=>if l=910003 then 920003 else l))) λq14 x13 h hx9=>?_;obtain⟨s11,s12⟩:=q14;refine c7<|S3 3 J<|nL J gY<|S2 1 J ?_;refine cN h (λhc h=>?_) λhc h=>?_
  .refine b8 ?_;refine c7<|c8<|S5 4 J<|iL h J J gY M0 λv15 _ h=>S1 1 J<|y0 J (H5 (f:=o8.Pv) (l:=[(⟨v15.Kind,v15.At,v15.Prog⟩:o8)]) J J2 F8 gw J J nl J J)<|s7 h λv16 hv11 h=>I2 J (F7 (f:=o8.Pv) hv11 J J J J J J (.inl ⟨_,J,J⟩) J2 F8 De gw J (λ_=>J)) J J J<|S2 1 J<|S6 3 J ?_;exact eL h (Wk.trans (n0 _ [20]) (WP (λl=>if l=910003 then 20 else l)))
  .refine n9 ?_;refine b9<|b9<|j5 ?_;have h:=xL hx9 h;exact eJ h (Wk.trans (n0 _ [910003]) W)
theorem jT{a0}:PO prog 17 [b7.Pv a0] (dW a0) λr=>c5.Pv r:=by
 refine pO func17 λr h _ _=>?_;unfold dW at h;refine S4 2 J<|dr [] p8 (by kernel_rfl) (by kernel_rfl)<|S7 2 J<|s7 h λv1 hv1 h=>ax J (x4 J Kx J hv1) J<|S7 4 J<|s7 h λv2 hv2 h=>ax J (x4 J FO J hv2) J<|S7 2 J<|s7 h λv3 hv3 h=>ax J (x4 J Kz J hv3) J<|S7 2 J<|s7 h λv4 hv4 h=>ax J (x4 J FR J hv4) J<|d7 J (λ_ hN=>p9 (cs:=[.L n8.Pv v1.Cells,.I v1.Last,.I v1.Serial,.L iF a0.Roots,.L m9.Pv v2,.L k7.Pv v3,.L o8.Pv v4.L,.I v4.Cap]) J Wb Wg J J J) J<|B6 (x':=.agg [.L n8.Pv v1.Cells,.I v1.Last,.I v1.Serial,.L iF a0.Roots,.L m9.Pv v2,.L k7.Pv v3,.L o8.Pv v4.L,.I v4.Cap]) (cl':=true) J J (.inr J) w9<|G6<|a8 ?_;cases h;exact⟨J,[_],⟨oL J J J A6 w9 nl J,tr⟩,J,io⟩
theorem K1{a0}:PO prog 67 [l4.Pv a0] (K6 a0) λr=>y9.Pv r:=by
 refine pO func67 λr h _ _=>?_;refine S4 2 J<|S3 2 J<|y0 J (p9 (cs:=[.nl,.I a0.Last]) J KV Lf J J J)<|S1 1 J<|ja (x':=.agg [.nl,.I a0.Last]) (cl':=true) J J (.inl J) df<|yN ?_;refine jq h (λj9=>St.of [(2,.ptr 2 0 0),(3,.ptr 3 0 0)] [(3,vS (.agg [.sl 910503,.I a0.Last]) 2),(910503,⟨List.map z6.Pv j9,(List.map z6.Pv j9).length,true,3,true⟩),(2,vR (.agg [.nl,.I 0]) 2)]) (λj9 h=>?_) λκ8 h=>?_
 .refine S4 2 J ?_;refine a8 ?_;cases h;exact⟨J,[_],⟨oL J J J gr df nl J,tr⟩,J,io⟩
 .refine S4 1 J ?_;refine c8<|lq h (λq=>St.of [(1,.ptr 1 0 0),(2,.ptr 2 0 0),(3,.ptr 3 0 0),(4,.I q.1)] [(3,vS (.agg [.sl 910503,.I a0.Last]) 2),(2,vR (.agg [.nl,.I 0]) 2),(1,vR (l4.Pv a0) 3),(910503,⟨List.map z6.Pv q.2,(List.map z6.Pv q.2).length,true,3,true⟩)]) (Wk.trans (uZ (l0:=3) (j:=0) (l:=920503) (z:=3) J J J J J) (WP (λl=>if l=910503 then 920503 else l))) λq14 x13 h hx9=>?_;obtain⟨s11,s12⟩:=q14;refine c7<|S3 3 J<|nL J G3<|S2 1 J ?_;refine cN h (λhc h=>?_) λhc h=>?_
  .refine b8 ?_;refine c7<|c8<|bJ [] p8 (by kernel_rfl) (by kernel_rfl)<|S7 5 J<|s7 h λv15 hv10 h=>d0 J (u7 (f:=n8.Pv) (cs:=n8.Pc v15) hv10 J J G3 G5 J J) J<|S7 5 J<|d0 J (u7 (f:=n8.Pv) (cs:=n8.Pc v15) hv10 J J G3 G5 J J) J<|S7 3 J<|d7 J (λ_ hN=>p9 (cs:=[.I v15.State,.I v15.Gen,.I s11]) J sG jk J J J) J<|Tk J (H5 (f:=z6.Pv) (l:=[(⟨v15.State,v15.Gen,s11⟩:z6)]) J L2 R9 jk J J nl J J) J<|s7 h λv16 hv11 h=>Vm J (F7 (f:=z6.Pv) hv11 J J J J J J (.inl ⟨_,J,J⟩) L2 R9 KN jk J (λ_=>J)) J J J J J<|S7 1 J<|B6 (x':=.agg [.sl 32,.I a0.Last]) (cl':=false) J J (.inl J) SN<|G6<|S6 3 J ?_;exact eL h (Wk.trans (n0 _ [32]) (WP (λl=>if l=910503 then 32 else l)))
  .refine n9 ?_;refine b9<|b9<|j5 ?_;have h:=xL hx9 h;exact eJ h (Wk.trans (n0 _ [910503]) W)
theorem Ez{a0}:PO prog 130 [y9.Pv a0] (qc a0) λr=>.bool r:=by
 refine pO func130 λr h _ _=>?_;refine S4 2 J<|c7<|S3 2 J<|nL J L2<|S1 2 J<|g8 J (λhg=>oF J vd J)<|g8 J (λhg=>oS (ct hg) J J x6 J)<|g8 J (λhg=>r9 (ct hg) J J)<|y0 J (y5 J J J (λq=>P1 q))<|S1 1 J<|g8 J (λhg=>oF J vd J)<|g8 J (λhg=>oS (ct hg) J J x6 J)<|g8 J (λhg=>r9 (ct hg) J J)<|y0 J (y5 J J J (λq=>P1 q))<|yN ?_;refine cN h (λhc h=>?_) λhc h=>?_
 .refine S4 1 J ?_;refine a8 ?_;cases h;exact f1
 .refine b8 ?_;refine jq h (λ_=>St.of [] []) (λq6 h=>?_) λκ5 h=>?_
  .refine S4 1 J ?_;refine a8 ?_;cases h;exact f1
  .refine S4 1 J ?_;refine c8<|lq h (λs8=>St.of [(1,.ptr 1 0 0),(3,.I s8)] [(1,vR (y9.Pv a0) 2)]) W λs8 x9 h hx8=>c7<|S3 3 J<|nL J L2<|S2 1 J ?_;refine cN h (λhc h=>?_) λhc h=>?_
   .refine b8 ?_;refine c7<|c8<|S3 3 J<|iL h J J L2 R9 λv10 _ h=>S2 3 J<|S3 4 J<|g8 J (λhg=>oF J vf J)<|g8 J (λhg=>oS (ct hg) J J x6 J)<|g8 J (λhg=>r9 (ct hg) J J)<|y0 J (y5 J J J (λq=>P1 q))<|S1 1 J<|g8 J (λhg=>oF J BX J)<|g8 J (λhg=>oS (ct hg) J J x6 J)<|g8 J (λhg=>r9 (ct hg) J J)<|y0 J (y5 J J J (λq=>P1 q))<|S1 1 J<|g8 J (λhg=>oF J BX J)<|g8 J (λhg=>oS (ct hg) J J x6 J)<|g8 J (λhg=>oF J vd J)<|g8 J (λhg=>oS (ct hg) J J x6 J)<|g8 J (λhg=>r9 (ct hg) (ct hg) J)<|y0 J (y5 J J J (λq=>P1 q))<|yN ?_;refine cN h (λhc h=>?_) λhc h=>?_
    .refine S4 1 J ?_;refine a8 ?_;have h:=xL hx8 h;cases h;exact f1
    .refine b8 ?_;refine S6 3 J ?_;exact eL h W
   .refine n9 ?_;refine b9<|b9<|j5 ?_;have h:=xL hx8 h;exact eJ h W
theorem tY{a0}:PO prog 131 [n8.Pv a0] (gP a0) λr=>.bool r:=by
 refine pO func131 λr h _ _=>?_;unfold gP at h;refine S4 2 J<|S3 4 J<|g8 J (λhg=>oF J vc J)<|g8 J (λhg=>oS (ct hg) J J x6 J)<|g8 J (λhg=>r9 (ct hg) J J)<|y0 J (y5 J J J (λq=>P1 q))<|S2 1 J<|a8 ?_;cases h;exact f1
theorem EC{a0}:PO prog 76 [l4.Pv a0] (qe a0) λr=>.bool r:=by
 refine pO func76 λr h _ _=>?_;refine S4 2 J<|c7<|S3 1 J<|cF h K1 J J λv1 _ h=>cA h Ez J J λv2 _ h=>S1 2 J<|g8 J (λhg=>oF J sD J)<|g8 J (λhg=>oS (ct hg) J J x6 J)<|g8 J (λhg=>r9 (ct hg) J J)<|y0 J (y5 J J J (λq=>P1 q))<|yN ?_;refine cN h (λhc h=>?_) λhc h=>?_
 .refine S4 1 J ?_;refine a8 ?_;cases h;exact f1
 .refine b8 ?_;refine jq h (λ_=>St.of [] []) (λq23 h=>?_) λκ22 h=>?_
  .refine S4 1 J ?_;refine a8 ?_;cases h;exact f1
  .refine S4 1 J ?_;refine c8<|lq h (λs25=>St.of [(1,.ptr 1 0 0),(3,.I s25)] [(1,vR (l4.Pv a0) 3)]) W λs25 x26 h hx24=>c7<|S3 3 J<|nL J G3<|S2 1 J ?_;refine cN h (λhc h=>?_) λhc h=>?_
   .refine b8 ?_;refine jq h (λ_=>St.of [(1,.ptr 1 0 0),(3,.I s25)] [(1,vR (l4.Pv a0) 3)]) (λq35 h=>?_) λκ34 h=>?_
    .refine S6 3 J ?_;exact eL h W
    .refine c8 ?_;refine S3 3 J<|iL h J J G3 G5 λv36 _ h=>S2 3 J<|S4 4 J<|c7<|S3 1 J<|cA h tY J J λv37 _ h=>S2 1 J ?_;refine cN h (λhc h=>?_) λhc h=>?_
     .refine c7 ?_;refine S3 4 J<|g8 J (λhg=>oF J ov J)<|g8 J (λhg=>oS (ct hg) J J x6 J)<|g8 J (λhg=>r9 (ct hg) J J)<|y0 J (y5 J J J (λq=>P1 q))<|S1 1 J<|g8 J (λhg=>oF J kL J)<|g8 J (λhg=>oS (ct hg) J J x6 J)<|g8 J (λhg=>r9 (ct hg) J J)<|y0 J (y5 J J J (λq=>P1 q))<|S1 1 J<|g8 J (λhg=>oF J kM J)<|g8 J (λhg=>oS (ct hg) J J x6 J)<|g8 J (λhg=>r9 (ct hg) J J)<|y0 J (y5 J J J (λq=>P1 q))<|S1 1 J<|g8 J (λhg=>oF J ow J)<|g8 J (λhg=>oS (ct hg) J J kI J)<|y0 J (y5 J J J (λq=>P1 q))<|S1 1 J<|g8 J (λhg=>oF J oy J)<|g8 J (λhg=>oS (ct hg) J J fR J)<|g8 J (λhg=>N8 (f:=iF) (ct hg) g5)<|g8 J (λhg=>r9 (ct hg) J J)<|y0 J (y5 J J J (λq=>P1 q))<|yN ?_;refine cN h (λhc h=>?_) λhc h=>?_
      .refine S4 1 J ?_;refine a8 ?_;have h:=xL hx24 h;cases h;exact f1
      .refine b8 ?_;refine n9<|b9<|j5 ?_;exact eJ h W
     .refine b8 ?_;refine c7<|S3 4 J<|g8 J (λhg=>oF J ou J)<|g8 J (λhg=>oS (ct hg) J J x6 J)<|g8 J (λhg=>oF J sD J)<|g8 J (λhg=>oS (ct hg) J J x6 J)<|g8 J (λhg=>r9 (ct hg) (ct hg) J)<|y0 J (y5 J J J (λq=>P1 q))<|S1 1 J<|g8 J (λhg=>oF J ov J)<|g8 J (λhg=>oS (ct hg) J J x6 J)<|g8 J (λhg=>r9 (ct hg) J J)<|y0 J (y5 J J J (λq=>P1 q))<|S1 1 J<|g8 J (λhg=>oF J kL J)<|g8 J (λhg=>oS (ct hg) J J x6 J)<|g8 J (λhg=>r9 (ct hg) J J)<|y0 J (y5 J J J (λq=>P1 q))<|S1 1 J<|g8 J (λhg=>oF J kM J)<|g8 J (λhg=>oS (ct hg) J J x6 J)<|g8 J (λhg=>r9 (ct hg) J J)<|y0 J (y5 J J J (λq=>P1 q))<|S1 1 J<|g8 J (λhg=>oF J kM J)<|g8 J (λhg=>oS (ct hg) J J x6 J)<|g8 J (λhg=>r9 (ct hg) J J)<|y0 J (y5 J J J (λq=>P1 q))<|S1 1 J<|g8 J (λhg=>oF J oy J) ?_;refine g8 J (λhg=>oS (ct hg) J J fR J)<|g8 J (λhg=>N8 (f:=iF) (ct hg) g5)<|g8 J (λhg=>r9 (ct hg) J J)<|y0 J (y5 J J J (λq=>P1 q))<|yN ?_;refine cN h (λhc h=>?_) λhc h=>?_
      .refine S4 1 J ?_;refine a8 ?_;have h:=xL hx24 h;cases h;exact f1
      .refine b8 ?_;refine S4 1 J<|c8<|lq h (λs39=>St.of [(1,.ptr 1 0 0),(3,.I s25),(5,.ptr 5 0 0),(6,.I s39)] [(5,vR (D2.Pv v36.Val) 6),(1,vR (l4.Pv a0) 3)]) W λs39 x40 h hx37=>c7<|S4 3 J ?_;refine cN h (λhc h=>?_) λhc h=>?_
       .refine b8 ?_;refine c7<|c8<|dr [] p8 (by kernel_rfl) (by kernel_rfl)<|S7 3 J<|s7 h λv41 hv38 h=>d0 J (u7 (f:=n8.Pv) (cs:=n8.Pc v41) hv38 J J G3 G5 J J) J<|S7 1 J<|s7 h λv42 hv39 h=>d2 J (B7 J tY J hv39) J<|S7 1 J<|y7 J (λhg _ hN=>oF J dc J) J<|C0 J (λhg=>oS (ct hg) J J ma J) J<|y7 J (λhg _ hN=>mI J) J<|C0 J (λhg=>u7 (f:=n8.Pv) (cs:=n8.Pc v41) hv38 (ct hg) (ct hg) G3 G5 J J) J<|y7 J (λhg _ hN=>A2 (ct hg) cK J) J<|y7 J (λhg _ hN=>A2 (ct hg) ou J) J<|C0 J (λhg=>D6 (ct hg) x6 J) J<|y7 J (λhg _ hN=>oF J ou J) J<|C0 J (λhg=>oS (ct hg) J J x6 J) J<|y7 J (λhg _ hN=>r9 (ct hg) (ct hg) J) J<|d7 J (λ_ hN=>w8 J J J (λq=>V0 q)) J<|G6 ?_;refine cN h (λhc h=>?_) λhc h=>?_
        .refine S4 1 J ?_;refine a8 ?_;have h:=xL hx37 h;have h:=xL hx24 h;cases h;exact f1
        .refine b8 ?_;refine S6 3 J ?_;exact eL h W
       .refine n9 ?_;refine b9<|b9<|j5 ?_;have h:=xL hx37 h;exact eJ h W
   .refine n9 ?_;refine b9<|b9<|j5 ?_;have h:=xL hx24 h;exact eJ h W
theorem jK{a0 a1}:PO prog 132 [.L k7.Pv a0,.I a1] (bW a0 a1) λr=>.I r:=by
 refine pO func132 λr h _ _=>?_;refine S4 1 J ?_;refine jq h (λ_=>St.of [] []) (λq6 h=>?_) λκ5 h=>?_
 .refine S4 1 J ?_;refine a8 ?_;cases h;exact f1
 .refine S4 1 J ?_;refine c8<|lq h (λs8=>St.of [(0,.L k7.Pv a0),(1,.I a1),(5,.I s8)] []) W λs8 x9 h hx8=>c7<|S3 2 J<|nL J P9<|S2 1 J ?_;refine cN h (λhc h=>?_) λhc h=>?_
  .refine b8 ?_;refine c7<|c8<|S3 2 J<|iL h J J P9 R8 λv10 hv9 h=>S1 4 J<|g8 J (λhg=>om (d:=.L k7.Pv a0) J)<|g8 J (λhg=>mI J)<|g8 J (λhg=>u7 (f:=k7.Pv) (cs:=k7.Pc v10) hv9 (ct hg) (ct hg) P9 R8 J J)<|g8 J (λhg=>A2 (ct hg) BT J)<|g8 J (λhg=>D6 (ct hg) x6 J)<|g8 J (λhg=>mI J)<|g8 J (λhg=>r9 (ct hg) (ct hg) J)<|y0 J (w8 J J J (λq=>V0 q))<|yN ?_;refine cN h (λhc h=>?_) λhc h=>?_
   .refine S4 2 J ?_;refine a8 ?_;have h:=xL hx8 h;cases h;exact f1
   .refine b8 ?_;refine S6 3 J ?_;exact eL h W
  .refine n9 ?_;refine b9<|b9<|j5 ?_;have h:=xL hx8 h;exact eJ h W
theorem wI{a0 a1}:PO prog 133 [.I a0,.I a1] (uc a0 a1) λr=>.I r:=by
 refine pO func133 λr h _ _=>?_;refine S4 1 J<|c7<|S4 2 J ?_;refine cN h (λhc h=>?_) λhc h=>?_
 .refine S4 1 J ?_;refine a8 ?_;cases h;exact f1
 .refine b8 ?_;refine S3 4 J<|s7 h λv1 hv1 h=>y0 J (kZ J J hv1)<|S2 1 J<|c7<|S4 2 J ?_;refine cN h (λhc h=>?_) λhc h=>?_
  .refine S6 4 J ?_;refine S4 2 J<|a8 ?_;cases h;exact f1
  .refine b8 ?_;refine S4 2 J<|a8 ?_;cases h;exact f1
theorem EF{a0}:PO prog 77 [.L k7.Pv a0] (qh a0) λr=>.bool r:=by
 refine pO func77 λr h _ _=>?_;refine S4 1 J<|S3 1 J<|nL J P9<|S2 1 J<|c7<|S3 3 J<|g8 J (λhg=>mI J)<|g8 J (λhg=>r9 (ct hg) J J)<|y0 J (y5 J J J (λq=>P1 q))<|yN ?_;refine cN h (λhc h=>?_) λhc h=>?_
 .refine S4 1 J ?_;refine a8 ?_;cases h;exact f1
 .refine b8 ?_;refine jq h (λ_=>St.of [] []) (λq23 h=>?_) λκ22 h=>?_
  .refine S4 1 J ?_;refine a8 ?_;cases h;exact f1
  .refine S4 1 J ?_;refine c8<|lq h (λs25=>St.of [(0,.L k7.Pv a0),(3,.I (a0.length:Int)),(4,.I s25)] []) W λs25 x26 h hx24=>c7<|S4 3 J ?_;refine cN h (λhc h=>?_) λhc h=>?_
   .refine b8 ?_;refine jq h (λ_=>St.of [(0,.L k7.Pv a0),(3,.I (a0.length:Int)),(4,.I s25)] []) (λq36 h=>?_) λκ35 h=>?_
    .refine S6 3 J ?_;exact eL h W
    .refine c8 ?_;refine S3 2 J<|iL h J J P9 R8 λv37 _ h=>S2 3 J<|c7<|S3 4 J<|g8 J (λhg=>oF J BS J)<|g8 J (λhg=>oS (ct hg) J J x6 J)<|g8 J (λhg=>r9 (ct hg) J J)<|y0 J (y5 J J J (λq=>P1 q))<|S1 1 J<|g8 J (λhg=>oF J BS J)<|g8 J (λhg=>oS (ct hg) J J x6 J)<|g8 J (λhg=>r9 (ct hg) J J)<|g8 J (λhg=>om (d:=.bool (v37.State != 1)) (ct hg))<|g8 (D9 J J J) (λhg=>oF J BT J)<|g8 (D9 J J J) (λhg=>oS (ct hg) J J x6 J)<|g8 (D9 J J J) (λhg=>r9 (ct hg) J J)<|g8 (D9 J J J) (λhg=>om (d:=.bool (v37.Key != 0)) (ct hg))<|g8 (D9 J J J) (λhg=>oF J MS J)<|g8 (D9 J J J) (λhg=>oS (ct hg) J J x6 J)<|g8 (D9 J J J) (λhg=>r9 (ct hg) J J)<|g8 (D9 J J J) (λhg=>y5 (ct hg) J J (λq=>sL hg (P1 q)))<|g8 J (λhg=>w8 (ct hg) J J (λq=>sL hg (V0 q)))<|y0 J (y5 J J J (λq=>P1 q))<|yN ?_;refine cN h (λhc h=>?_) λhc h=>?_
     .refine S4 1 J ?_;refine a8 ?_;have h:=xL hx24 h;cases h;exact f1
     .refine b8 ?_;refine c7<|S4 3 J ?_;refine cN h (λhc h=>?_) λhc h=>?_
      .refine n9 ?_;refine b9<|j5 ?_;exact eJ h W
      .refine b8 ?_;refine c7<|S3 3 J<|cA h jK J J λv38 _ h=>S2 2 J ?_;refine cN h (λhc h=>?_) λhc h=>?_
       .refine S4 1 J ?_;refine a8 ?_;have h:=xL hx24 h;cases h;exact f1
       .refine b8 ?_;refine S3 3 J<|cA h wI J J λv39 _ h=>S2 1 J<|c8<|lq h (λs41=>St.of [(0,.L k7.Pv a0),(3,.I (a0.length:Int)),(4,.I s25),(6,.I s41)] []) W λs41 x42 h hx39=>c7<|S4 3 J ?_;refine cN h (λhc h=>?_) λhc h=>?_
        .refine b8 ?_;refine c7<|c8<|S3 2 J<|iL h J J P9 R8 λv43 _ h=>S2 3 J ?_;refine cN h (λhc h=>?_) λhc h=>?_
         .refine S4 1 J ?_;refine a8 ?_;have h:=xL hx39 h;have h:=xL hx24 h;cases h;exact f1
         .refine b8 ?_;refine S5 3 J<|s7 h λv44 hv41 h=>y0 J (kZ J J hv41)<|S2 1 J ?_;exact eL h W
        .refine n9 ?_;refine b9<|b9<|j5 ?_;have h:=xL hx39 h;exact eJ h W
   .refine n9 ?_;refine b9<|b9<|j5 ?_;have h:=xL hx24 h;exact eJ h W
theorem jH{a0 a1}:PO prog 84 [.I a0,.I a1] (fM a0 a1) λr=>.I r:=by
 refine pO func84 λr h _ _=>?_;refine S4 1 J<|c7<|S3 3 J<|g8 J (λhg=>mI J)<|g8 J (λhg=>r9 (ct hg) J J)<|y0 J (y5 J J J (λq=>P1 q))<|S1 1 J<|g8 J (λhg=>mI J)<|g8 J (λhg=>r9 (ct hg) J J)<|y0 J (y5 J J J (λq=>P1 q))<|S1 1 J<|g8 J (λhg=>mI J)<|g8 J (λhg=>r9 (ct hg) J J)<|y0 J (y5 J J J (λq=>P1 q))<|yN ?_;refine cN h (λhc h=>?_) λhc h=>?_
 .refine S4 1 J ?_;refine a8 ?_;cases h;exact f1
 .refine b8 ?_;refine S4 6 J<|a8 ?_;cases h;exact f1
theorem tQ{a0}:PO prog 278 [.I a0] (lk a0) λr=>.bool r:=by
 refine pO func278 λr h _ _=>?_;refine S4 1 J<|c7<|S3 3 J<|g8 J (λhg=>mI J)<|g8 J (λhg=>r9 (ct hg) J J)<|y0 J (y5 J J J (λq=>P1 q))<|yN ?_;refine cN h (λhc h=>?_) λhc h=>?_
 .refine S4 1 J ?_;refine a8 ?_;cases h;exact f1
 .refine b8 ?_;refine S3 2 J<|s7 h λv1 hv1 h=>y0 J (kZ J J hv1)<|S1 2 J<|s7 h λv2 hv2 h=>y0 J (kZ J J hv2)<|cA h jH J J λv3 _ h=>S2 3 J<|a8 ?_;cases h;exact f1
theorem oW{a0}:PO prog 204 [.I a0] (lj a0) λr=>.I r:=by
 refine pO func204 λr h _ _=>?_;refine S4 1 J<|c7<|S3 1 J<|cA h tQ J J λv1 _ h=>S2 1 J ?_;refine cN h (λhc h=>?_) λhc h=>?_
 .refine S4 1 J ?_;refine a8 ?_;cases h;exact f1
 .refine b8 ?_;refine S3 2 J<|s7 h λv2 hv2 h=>y0 J (kZ J J hv2)<|S2 1 J<|a8 ?_;cases h;exact f1
theorem JS{a0}:PO prog 225 [.I a0] (xO a0) λr=>.I r:=by
 refine pO func225 λr h _ _=>?_;refine S4 1 J<|c7<|S3 1 J<|cA h tQ J J λv1 _ h=>S2 1 J ?_;refine cN h (λhc h=>?_) λhc h=>?_
 .refine S4 1 J ?_;refine a8 ?_;cases h;exact f1
 .refine b8 ?_;refine S3 2 J<|s7 h λv2 hv2 h=>y0 J (kZ J J hv2)<|S2 1 J<|a8 ?_;cases h;exact f1
theorem X8{a0 a1}:PO prog 137 [y9.Pv a0,.I a1] (P6 a0 a1) λr=>.tup [.I r.1,.I r.2]:=by
 refine pO func137 λr h _ _=>?_;refine S4 3 J<|c7<|S4 2 J ?_;refine cN h (λhc h=>?_) λhc h=>?_
 .refine S4 2 J ?_;refine a8 ?_;cases h;exact f2
 .refine b8 ?_;refine S3 1 J<|cA h oW J J λv1 _ h=>S2 1 J<|c7<|S3 3 J<|g8 J (λhg=>mI J)<|g8 J (λhg=>oF J MP J)<|g8 J (λhg=>oS (ct hg) J J RY J)<|g8 J (λhg=>N8 (f:=z6.Pv) (ct hg) L2)<|g8 J (λhg=>r9 (ct hg) (ct hg) J)<|y0 J (y5 J J J (λq=>P1 q))<|yN ?_;refine cN h (λhc h=>?_) λhc h=>?_
  .refine S4 2 J ?_;refine a8 ?_;cases h;exact f2
  .refine b8 ?_;refine S3 3 J<|iL h J J L2 R9 λv2 _ h=>S2 3 J<|c7<|dr [] p8 (by kernel_rfl) (by kernel_rfl)<|S7 3 J<|s7 h λv3 hv3 h=>d2 J (B7 J JS J hv3) J<|S7 2 J<|y7 J (λhg _ hN=>oF J vf J) J<|C0 J (λhg=>oS (ct hg) J J x6 J) J<|y7 J (λhg _ hN=>r9 (ct hg) J J) J<|y7 J (λhg _ hN=>om (d:=.bool (v2.State != 1)) (ct hg)) J<|y7 (D9 J J J) (λhg _ hN=>oF J vf J) J<|C0 (D9 J J J) (λhg=>oS (ct hg) J J x6 J) J<|y7 (D9 J J J) (λhg _ hN=>r9 (ct hg) J J) J<|y7 J (λhg _ hN=>w8 (ct hg) J J (λq=>sL hg (V0 q))) J<|d7 J (λ_ hN=>y5 J J J (λq=>P1 q)) J<|G6 ?_;refine cN h (λhc h=>?_) λhc h=>?_
   .refine S4 2 J ?_;refine a8 ?_;cases h;exact f2
   .refine b8 ?_;refine S4 3 J<|a8 ?_;cases h;exact f2
theorem Ao{a0 a1}:PO prog 86 [y9.Pv a0,.I a1] (tR a0 a1) λr=>.tup [.I r.1,.I r.2]:=by
 refine pO func86 λr h _ _=>?_;refine S4 3 J<|S3 2 J<|cA h X8 J J λv1 _ h=>S2 5 J<|c7<|S4 2 J ?_;refine cN h (λhc h=>?_) λhc h=>?_
 .refine S4 3 J ?_;refine a8 ?_;cases h;exact f2
 .refine b8 ?_;refine c7<|S3 3 J<|iL h J J L2 R9 λv2 hv2 h=>S2 3 J ?_;refine cN h (λhc h=>?_) λhc h=>?_
  .refine S4 2 J ?_;refine a8 ?_;cases h;exact f2
  .refine b8 ?_;refine S3 3 J<|y0 J (u7 (f:=z6.Pv) (cs:=z6.Pc v2) hv2 J J L2 R9 J J)<|S2 4 J<|a8 ?_;cases h;exact f2
theorem E8{a0 a1}:PO prog 38 [l4.Pv a0,.I a1] (G9 a0 a1) λr=>.tup [D2.Pv r.1,.I r.2]:=by
 refine pO func38 λr h _ _=>?_;refine S4 3 J<|S3 1 J<|cF h K1 J J λv1 _ h=>S1 1 J<|cA h Ao J J λv2 _ h=>S2 5 J<|c7<|S4 2 J ?_;refine cN h (λhc h=>?_) λhc h=>?_
 .refine sR ?_;refine y0 J (p9 (cs:=[.I 0,.I 0,.I 0,.I 0,.bool false,.nl]) J Dl Dw J J J)<|S1 1 J<|ja (x':=.agg [.I 0,.I 0,.I 0,.I 0,.bool false,.nl]) (cl':=true) J J (.inl J) kc<|S2 1 J<|a8 ?_;cases h;exact⟨J,[_,_],⟨oL J J J yk kc nl J,⟨J,tr⟩⟩,J,io⟩
 .refine b8 ?_;refine S3 3 J<|iL h J J G3 G5 λv3 _ h=>S2 4 J<|a8 ?_;cases h;exact⟨J,[_,_],⟨oL J J J yk kc nl J,⟨J,tr⟩⟩,J,io⟩
theorem EO{a0}:PO prog 78 [c5.Pv a0] (qo a0) λr=>.bool r:=by
 refine pO func78 λr h _ _=>?_;refine S4 2 J ?_;refine jq h (λ_=>St.of [(1,.ptr 1 0 0)] [(1,vR (c5.Pv a0) 8)]) (λq31 h=>?_) λκ30 h=>?_
 .refine S3 5 J ?_;refine g8 J (λhg=>oF J kK J)<|g8 J (λhg=>oF (ct hg) oi J)<|g8 J (λhg=>oS (ct hg) J J vb J)<|g8 J (λhg=>N8 (f:=o8.Pv) (ct hg) J2)<|g8 J (λhg=>r9 (ct hg) J J)<|y0 J (w8 J J J (λq=>V0 q))<|S2 1 J<|a8 ?_;cases h;exact f1
 .refine S4 1 J ?_;refine c8<|lq h (λs33=>St.of [(1,.ptr 1 0 0),(3,.I s33)] [(1,vR (c5.Pv a0) 8)]) W λs33 x34 h hx30=>c7<|S3 4 J<|nL J J2<|S2 1 J ?_;refine cN h (λhc h=>?_) λhc h=>?_
  .refine b8 ?_;refine jq h (λ_=>St.of [(1,.ptr 1 0 0),(3,.I s33)] [(1,vR (c5.Pv a0) 8)]) (λq48 h=>?_) λκ47 h=>?_
   .refine S6 3 J ?_;exact eL h W
   .refine c8 ?_;refine S3 4 J<|iL h J J J2 F8 λv49 _ h=>S2 3 J<|c7<|S3 4 J<|g8 J (λhg=>oF J BU J)<|g8 J (λhg=>oS (ct hg) J J x6 J)<|g8 J (λhg=>r9 (ct hg) J J)<|y0 J (w8 J J J (λq=>V0 q))<|S1 1 J<|g8 J (λhg=>oF J BV J)<|g8 J (λhg=>oS (ct hg) J J x6 J)<|g8 J (λhg=>r9 (ct hg) J J)<|y0 J (y5 J J J (λq=>P1 q))<|S1 1 J<|g8 J (λhg=>oF J BV J)<|g8 J (λhg=>oS (ct hg) J J x6 J)<|g8 J (λhg=>r9 (ct hg) J J)<|y0 J (y5 J J J (λq=>P1 q))<|yN ?_;refine cN h (λhc h=>?_) λhc h=>?_
    .refine S4 1 J ?_;refine a8 ?_;have h:=xL hx30 h;cases h;exact f1
    .refine b8 ?_;refine jq h (λ_=>St.of [(1,.ptr 1 0 0),(3,.I s33),(4,.ptr 4 0 0)] [(4,vR (o8.Pv v49) 3),(1,vR (c5.Pv a0) 8)]) (λq55 h=>?_) λκ54 h=>?_
     .refine S3 4 J ?_;refine cF h E8 J J λv56 _ h=>S2 6 J<|S3 4 J<|g8 J (λhg=>mI J)<|g8 J (λhg=>r9 (ct hg) J J)<|g8 J (λhg=>om (d:=.bool (v56.2 != 0)) (ct hg))<|g8 (D9 J J J) (λhg=>oF J ow J)<|g8 (D9 J J J) (λhg=>oS (ct hg) J J kI J)<|g8 (D9 J J J) (λhg=>Z4 (ct hg) J)<|g8 J (λhg=>y5 (ct hg) J J (λq=>sL hg (P1 q)))<|y0 J (w8 J J J (λq=>V0 q))<|S1 1 J<|g8 J (λhg=>oF J BU J)<|g8 J (λhg=>oS (ct hg) J J x6 J)<|g8 J (λhg=>r9 (ct hg) J J)<|g8 J (λhg=>om (d:=.bool (v49.Kind==2)) (ct hg))<|g8 (D9 J J J) (λhg=>oF J kJ J)<|g8 (D9 J J J) (λhg=>oS (ct hg) J J x6 J)<|g8 (D9 J J J) (λhg=>r9 (ct hg) J J)<|g8 (D9 J J J) (λhg=>om (d:=.bool (decide (v49.At<0))) (ct hg))<|g8 (D9 J J J) (λhg=>oF J kJ J)<|g8 (D9 J J J) (λhg=>oS (ct hg) J J x6 J)<|g8 (D9 J J J) (λhg=>r9 (ct hg) J J)<|g8 (D9 J J J) (λhg=>y5 (ct hg) J J (λq=>sL hg (P1 q)))<|g8 J (λhg=>w8 (ct hg) J J (λq=>sL hg (V0 q)))<|y0 J (y5 J J J (λq=>P1 q))<|yN ?_;refine cN h (λhc h=>?_) λhc h=>?_
      .refine S4 1 J ?_;refine a8 ?_;have h:=xL hx30 h;cases h;exact f1
      .refine b8 ?_;exact eJ h W
     .refine S4 1 J ?_;refine c8<|lq h (λs58=>St.of [(1,.ptr 1 0 0),(3,.I s33),(4,.ptr 4 0 0),(5,.I s58)] [(4,vR (o8.Pv v49) 3),(1,vR (c5.Pv a0) 8)]) W λs58 x59 h hx52=>c7<|S4 3 J ?_;refine cN h (λhc h=>?_) λhc h=>?_
      .refine b8 ?_;refine c7<|c8<|dr [] p8 (by kernel_rfl) (by kernel_rfl)<|S7 4 J<|s7 h λv60 hv53 h=>d0 J (u7 (f:=o8.Pv) (cs:=o8.Pc v60) hv53 J J J2 F8 J J) J<|S7 6 J<|y7 J (λhg _ hN=>oF J kK J) J<|y7 J (λhg _ hN=>oF (ct hg) oi J) J<|C0 J (λhg=>oS (ct hg) J J vb J) J<|y7 J (λhg _ hN=>mI J) J<|C0 J (λhg=>u7 (f:=o8.Pv) (cs:=o8.Pc v60) hv53 (ct hg) (ct hg) J2 F8 J J) J<|y7 J (λhg _ hN=>A2 (ct hg) kJ J) J<|C0 J (λhg=>D6 (ct hg) x6 J) J<|y7 J (λhg _ hN=>oF J kJ J) J<|C0 J (λhg=>oS (ct hg) J J x6 J) J<|y7 J (λhg _ hN=>r9 (ct hg) (ct hg) J) J<|d7 J (λ_ hN=>w8 J J J (λq=>V0 q)) J<|G6 ?_;refine cN h (λhc h=>?_) λhc h=>?_
       .refine S4 1 J ?_;refine a8 ?_;have h:=xL hx52 h;have h:=xL hx30 h;cases h;exact f1
       .refine b8 ?_;refine S6 3 J ?_;exact eL h W
      .refine n9 ?_;refine b9<|b9<|j5 ?_;have h:=xL hx52 h;exact eJ h W
  .refine n9 ?_;refine b9<|b9<|j5 ?_;have h:=xL hx30 h;exact eJ h W
theorem Y6{a0 a1}:PO prog 136 [c5.Pv a0,.I a1] (ab a0 a1) λr=>.bool r:=by
 refine pO func136 λr h _ _=>?_;refine S4 2 J<|S3 3 J<|cF h E8 J J λv1 _ h=>S2 6 J<|S4 3 J<|a8 ?_;cases h;exact f1
theorem br{a0 a1}:PO prog 134 [c5.Pv a0,.I a1] (ae a0 a1) λr=>.bool r:=by
 refine pO func134 λr h _ _=>?_;unfold ae at h;refine S4 2 J<|S3 3 J<|g8 J (λhg=>oL J J J A6 w9 nl J)<|g8 J (λhg=>mI J)<|s7 h λv1 hv1 h=>g8 J (λhg=>B7 J Y6 (A3 (ct hg) (A3 (ct hg) J)) (C8 hv1 hg))<|y0 J (y5 J J J (λq=>P1 q))<|S2 1 J<|a8 ?_;cases h;exact f1
theorem BD{a0 a1}:PO prog 85 [l4.Pv a0,.L iF a1] (iH a0 a1) λr=>.L iF r:=by
 refine pO func85 λr h _ _=>?_;unfold iH at h;refine S4 2 J<|sR<|y0 J (A9 J g5 m7)<|S1 1 J<|s7 h λv1 hv1 h=>y1 J (iE (f:=iF) hv1 J J (.inl ⟨_,J,J⟩) g5 m7 F9 A0 J (λ_=>J)) J<|S2 1 J ?_;refine jq h (λj36=>St.of [(5,.sl 15)] [(15,⟨List.map iF j36,0,true,1,true⟩)]) (λj36 h=>?_) λκ35 h=>?_
 .refine S4 2 J ?_;refine a8 ?_;cases h;exact f1
 .refine S4 1 J ?_;refine c8<|lq h (λq=>St.of [(2,.ptr 2 0 0),(5,.sl 15),(6,.I q.1)] [(15,⟨List.map iF q.2,0,true,1,true⟩),(2,vR (l4.Pv a0) 3)]) W λq41 x40 h hx31=>?_;obtain⟨s38,s39⟩:=q41;refine c7<|S3 2 J<|y0 J (Hg (f:=iF) J J J g5)<|S2 1 J ?_;refine cN h (λhc h=>?_) λhc h=>?_
  .refine b8 ?_;refine jq h (λj56=>St.of [(2,.ptr 2 0 0),(5,.sl 15),(6,.I s38)] [(15,⟨List.map iF j56,0,true,1,true⟩),(2,vR (l4.Pv a0) 3)]) (λj56 h=>?_) λκ55 h=>?_
   .refine S6 3 J ?_;exact eL h W
   .refine c8 ?_;refine S4 2 J<|c8<|lq h (λq=>St.of [(2,.ptr 2 0 0),(5,.sl 15),(6,.I s38),(7,.I q.1)] [(15,⟨List.map iF q.2,0,true,1,true⟩),(2,vR (l4.Pv a0) 3)]) W λq61 x60 h hx46=>?_;obtain⟨s58,s59⟩:=q61;refine c7<|S4 2 J ?_;refine cN h (λhc h=>?_) λhc h=>?_
    .refine b8 ?_;refine c7<|c8<|dr [] p8 (by kernel_rfl) (by kernel_rfl)<|S7 1 J<|s7 h λv62 hv47 h=>ax J (x4 J K1 J hv47) J<|S7 3 J<|s7 h λv63 hv48 h=>d0 J (aN (f:=iF) hv48 J J J J g5 m7 J) J<|d0 J (wB (f:=iF) hv48 J J J x6 J) J<|s7 h λv64 hv49 h=>d2 J (B7 J X8 J hv49) J<|S8 5 J<|dr [] p8 (by kernel_rfl) (by kernel_rfl)<|S7 1 J<|ax J (x4 J K1 J hv47) J<|S7 2 J<|s7 h λv65 hv50 h=>d0 J (aN (f:=iF) hv50 J J J J g5 m7 J) J<|d0 J (wB (f:=iF) hv50 J J J x6 J) J<|s7 h λv66 hv51 h=>d2 J (B7 J X8 J hv51) J<|S8 5 J<|c7<|dr [] p8 (by kernel_rfl) (by kernel_rfl)<|S7 3 J<|y7 J (λhg _ hN=>mI J) J<|y7 J (λhg _ hN=>r9 (ct hg) J J) J<|d7 J (λ_ hN=>y5 J J J (λq=>P1 q)) J<|S7 1 J<|y7 J (λhg _ hN=>oF J dc J) J<|C0 J (λhg=>oS (ct hg) J J ma J) J<|y7 J (λhg _ hN=>mI J) J<|s7 h λv67 hv52 h=>C0 J (λhg=>u7 (f:=n8.Pv) (cs:=n8.Pc v67) (C8 hv52 hg) (ct hg) (ct hg) G3 G5 J J) J<|y7 J (λhg _ hN=>A2 (ct hg) cK J) J<|y7 J (λhg _ hN=>A2 (ct hg) ou J) J<|C0 J (λhg=>D6 (ct hg) x6 J) J<|y7 J (λhg _ hN=>oF J dc J) J<|C0 J (λhg=>oS (ct hg) J J ma J) J<|y7 J (λhg _ hN=>mI J) J<|s7 h λv68 hv53 h=>C0 J (λhg=>u7 (f:=n8.Pv) (cs:=n8.Pc v68) (C8 hv53 hg) (ct hg) (ct hg) G3 G5 J J) J<|y7 J (λhg _ hN=>A2 (ct hg) cK J) J<|y7 J (λhg _ hN=>A2 (ct hg) ou J) J<|C0 J (λhg=>D6 (ct hg) x6 J) J<|y7 J (λhg _ hN=>r9 (ct hg) (ct hg) J) J<|d7 J (λ_ hN=>y5 J J J (λq=>P1 q)) J<|G6 ?_;refine cN h (λhc h=>?_) λhc h=>?_
     .refine n9 ?_;refine b9<|gx (by decide)<|b9<|b9<|j5 ?_;have h:=xL hx46 h;exact eJ h W
     .refine b8 ?_;refine S3 2 J<|y0 J (aN (f:=iF) hv50 J J J J g5 m7 J)<|y0 J (wB (f:=iF) hv50 J J J x6 J)<|S2 1 J<|S3 5 J<|y0 J (aN (f:=iF) hv48 J J J J g5 m7 J)<|y0 J (wB (f:=iF) hv48 J J J x6 J)<|y0 J (aN (f:=iF) hv50 J J J J g5 m7 J)<|iZ (f:=iF) (v:=v63) hv50 J J (.inl J) m7<|yN<|S5 4 J<|s7 h λv69 hv54 h=>y0 J (aN (f:=iF) hv54 J J J J g5 m7 J)<|iZ (f:=iF) (v:=v65) hv54 J J (.inl J) m7<|yN<|S6 3 J ?_;exact eL h W
    .refine n9 ?_;refine b9<|b9<|j5 ?_;have h:=xL hx46 h;exact eJ h W
  .refine n9 ?_;refine b9<|b9<|j5 ?_;have h:=xL hx31 h;exact eJ h W
theorem Q6{a0}:PO prog 37 [l4.Pv a0] (T6 a0) λr=>.L iF r:=by
 refine pO func37 λr h _ _=>?_;refine S4 2 J<|sR<|y0 J (A9 J g5 m7)<|S2 1 J ?_;refine jq h (λj15=>St.of [(1,.ptr 1 0 0),(3,.sl 910003)] [(910003,⟨List.map iF j15,(List.map iF j15).length,true,1,true⟩),(1,vR (l4.Pv a0) 3)]) (λj15 h=>?_) λκ14 h=>?_
 .refine S3 2 J ?_;obtain⟨v16,hv12,h⟩:=oz h;refine VS J (x4 J BD J hv12) J<|S2 1 J<|a8 ?_;cases h;exact f1
 .refine S4 1 J ?_;refine c8<|lq h (λq=>St.of [(1,.ptr 1 0 0),(3,.sl 910003),(4,.I q.1)] [(1,vR (l4.Pv a0) 3),(910003,⟨List.map iF q.2,(List.map iF q.2).length,true,1,true⟩)]) (Wk.trans (D7 (t:=3) (l:=920003) (z:=1) J J) (WP (λl=>if l=910003 then 920003 else l))) λq21 x20 h hx15=>?_;obtain⟨s18,s19⟩:=q21;refine c7<|S3 3 J<|nL J G3<|S2 1 J ?_;refine cN h (λhc h=>?_) λhc h=>?_
  .refine b8 ?_;refine jq h (λj26=>St.of [(1,.ptr 1 0 0),(3,.sl 30),(4,.I s18)] [(30,⟨List.map iF j26,(List.map iF j26).length,true,1,true⟩),(1,vR (l4.Pv a0) 3)]) (λj26 h=>?_) λκ25 h=>?_
   .refine S6 3 J ?_;exact eL h (Wk.trans (n0 _ [30]) (WP (λl=>if l=910003 then 30 else l)))
   .refine c8 ?_;refine S3 3 J<|iL h J J G3 G5 λv27 hv20 h=>S2 3 J ?_;refine cN h (λhc h=>?_) λhc h=>?_
    .refine S5 5 J ?_;refine y0 J (u7 (f:=n8.Pv) (cs:=n8.Pc v27) hv20 J J G3 G5 J J)<|S1 2 J<|cA h jH J J λv28 _ h=>y0 J (H5 (f:=iF) (l:=[v28]) J g5 m7 A0 J J nl J J)<|s7 h λv29 hv22 h=>I2 J (F7 (f:=iF) hv22 J J J J J J (.inl ⟨_,J,J⟩) g5 m7 F9 A0 J (λ_=>J)) J J J<|S2 1 J ?_;exact eJ h (Wk.trans (n0 _ [30]) W)
    .refine b8 ?_;exact eJ h (Wk.trans (n0 _ [910003]) (WP (λl=>if l=30 then 910003 else l)))
  .refine n9 ?_;refine b9<|b9<|j5 ?_;have h:=xL hx15 h;exact eJ h (Wk.trans (n0 _ [910003]) W)
theorem HE{a0}:PO prog 223 [.L k7.Pv a0] (ud a0) λr=>.L iF r:=by
 refine pO func223 λr h _ _=>?_;refine S4 1 J<|sR<|y0 J (A9 J g5 m7)<|S2 1 J ?_;refine jq h (λj13=>St.of [(3,.sl 910003)] [(910003,⟨List.map iF j13,(List.map iF j13).length,true,1,true⟩)]) (λj13 h=>?_) λκ12 h=>?_
 .refine S4 2 J ?_;refine a8 ?_;cases h;exact f1
 .refine S4 1 J ?_;refine c8<|lq h (λq=>St.of [(0,.L k7.Pv a0),(3,.sl 910003),(4,.I q.1)] [(910003,⟨List.map iF q.2,(List.map iF q.2).length,true,1,true⟩)]) (Wk.trans (D7 (t:=3) (l:=920003) (z:=1) J J) (WP (λl=>if l=910003 then 920003 else l))) λq18 x17 h hx12=>?_;obtain⟨s15,s16⟩:=q18;refine c7<|S3 2 J<|nL J P9<|S2 1 J ?_;refine cN h (λhc h=>?_) λhc h=>?_
  .refine b8 ?_;refine jq h (λj22=>St.of [(0,.L k7.Pv a0),(3,.sl 25),(4,.I s15)] [(25,⟨List.map iF j22,(List.map iF j22).length,true,1,true⟩)]) (λj22 h=>?_) λκ21 h=>?_
   .refine S6 3 J ?_;exact eL h (Wk.trans (n0 _ [25]) (WP (λl=>if l=910003 then 25 else l)))
   .refine c8 ?_;refine S3 2 J<|iL h J J P9 R8 λv23 hv16 h=>S2 3 J ?_;refine cN h (λhc h=>?_) λhc h=>?_
    .refine S5 3 J ?_;refine y0 J (u7 (f:=k7.Pv) (cs:=k7.Pc v23) hv16 J J P9 R8 J J)<|S1 2 J<|y0 J (H5 (f:=iF) (l:=[v23.Key]) J g5 m7 A0 J J nl J J)<|s7 h λv24 hv17 h=>I2 J (F7 (f:=iF) hv17 J J J J J J (.inl ⟨_,J,J⟩) g5 m7 F9 A0 J (λ_=>J)) J J J<|S2 1 J ?_;exact eJ h (Wk.trans (n0 _ [25]) W)
    .refine b8 ?_;exact eJ h (Wk.trans (n0 _ [910003]) (WP (λl=>if l=25 then 910003 else l)))
  .refine n9 ?_;refine b9<|b9<|j5 ?_;have h:=xL hx12 h;exact eJ h (Wk.trans (n0 _ [910003]) W)
theorem sj{a0 a1}:PO prog 224 [.L k7.Pv a0,.I a1] (qg a0 a1) λr=>.tup [.I r.1,.I r.2]:=by
 refine pO func224 λr h _ _=>?_;refine S4 2 J<|S3 2 J<|cA h jK J J λv1 _ h=>S2 1 J<|c7<|S4 2 J ?_;refine cN h (λhc h=>?_) λhc h=>?_
 .refine S4 2 J ?_;refine a8 ?_;cases h;exact f2
 .refine b8 ?_;refine S3 2 J<|iL h J J P9 R8 λv2 _ h=>S2 4 J<|a8 ?_;cases h;exact f2
theorem mZ{a0}:PO prog 135 [.L k7.Pv a0] (gQ a0) λr=>.L B0.Pv r:=by
 refine pO func135 λr h _ _=>?_;refine S4 1 J<|sR<|y0 J (A9 J bc fg)<|S2 1 J<|S3 1 J<|cF h HE J J λv1 _ h=>S2 1 J ?_;refine jq h (λj11=>St.of [(3,.sl 910003)] [(910003,⟨List.map B0.Pv j11,(List.map B0.Pv j11).length,true,2,true⟩)]) (λj11 h=>?_) λκ10 h=>?_
 .refine S4 2 J ?_;refine a8 ?_;cases h;exact f1
 .refine S4 1 J ?_;refine c8<|lq h (λq=>St.of [(0,.L k7.Pv a0),(3,.sl 910003),(4,.L iF v1),(5,.I q.1)] [(910003,⟨List.map B0.Pv q.2,(List.map B0.Pv q.2).length,true,2,true⟩)]) (Wk.trans (D7 (t:=3) (l:=920003) (z:=2) J J) (WP (λl=>if l=910003 then 920003 else l))) λq16 x15 h hx11=>?_;obtain⟨s13,s14⟩:=q16;refine c7<|S3 2 J<|nL J g5<|S2 1 J ?_;refine cN h (λhc h=>?_) λhc h=>?_
  .refine b8 ?_;refine c7<|c8<|S3 3 J<|iL h J J g5 m7 λv17 hv12 h=>S1 1 J<|cA h sj J J λv18 _ h=>S2 5 J<|S5 3 J<|y0 J (u7 (f:=iF) (cs:=[.I v17]) hv12 J J g5 m7 J J)<|S1 2 J<|y0 J (p9 (cs:=[.I v17,.I v18.1]) J SC Dr J J J)<|y0 J (H5 (f:=B0.Pv) (l:=[(⟨v17,v18.1⟩:B0)]) J bc fg Dr J J nl J J)<|s7 h λv19 hv14 h=>I2 J (F7 (f:=B0.Pv) hv14 J J J J J J (.inl ⟨_,J,J⟩) bc fg Sc Dr J (λ_=>J)) J J J<|S2 1 J<|S6 3 J ?_;exact eL h (Wk.trans (n0 _ [34]) (WP (λl=>if l=910003 then 34 else l)))
  .refine n9 ?_;refine b9<|b9<|j5 ?_;have h:=xL hx11 h;exact eJ h (Wk.trans (n0 _ [910003]) W)
theorem EN{a0}:PO prog 79 [c5.Pv a0] (qn a0) λr=>.bool r:=by
 refine pO func79 λr h _ _=>?_;refine S4 2 J ?_;refine jq h (λ_=>St.of [(1,.ptr 1 0 0)] [(1,vR (c5.Pv a0) 8)]) (λq7 h=>?_) λκ6 h=>?_
 .refine S3 2 J ?_;refine cF h Q6 J J λv8 _ h=>S2 1 J ?_;refine jq h (λ_=>St.of [(1,.ptr 1 0 0)] [(1,vR (c5.Pv a0) 8)]) (λq29 h=>?_) λκ28 h=>?_
  .refine S3 2 J ?_;refine cF h mZ J J λv30 _ h=>S2 1 J ?_;refine jq h (λ_=>St.of [] []) (λq38 h=>?_) λκ37 h=>?_
   .refine S4 1 J ?_;refine a8 ?_;cases h;exact f1
   .refine S4 1 J ?_;refine c8<|lq h (λs40=>St.of [(1,.ptr 1 0 0),(9,.L B0.Pv v30),(10,.I s40)] [(1,vR (c5.Pv a0) 8)]) W λs40 x41 h hx37=>c7<|S3 2 J<|nL J bc<|S2 1 J ?_;refine cN h (λhc h=>?_) λhc h=>?_
    .refine b8 ?_;refine c7<|c8<|dr [] p8 (by kernel_rfl) (by kernel_rfl)<|S7 3 J<|s7 h λv42 hv38 h=>d0 J (u7 (f:=B0.Pv) (cs:=B0.Pc v42) hv38 J J bc fg J J) J<|S7 2 J<|s7 h λv43 hv39 h=>d2 J (B7 J Y6 J hv39) J<|S7 2 J<|C0 J (λhg=>oL J J J A6 w9 nl J) J<|y7 J (λhg _ hN=>om (d:=.L B0.Pv v30) J) J<|y7 J (λhg _ hN=>mI J) J<|C0 J (λhg=>u7 (f:=B0.Pv) (cs:=B0.Pc v42) hv38 (ct hg) (ct hg) bc fg J J) J<|y7 J (λhg _ hN=>A2 (ct hg) BY J) J<|C0 J (λhg=>D6 (ct hg) x6 J) J<|s7 h λv44 hv40 h=>ef J (λhg=>B7 J Y6 (A3 (ct hg) (A3 (ct hg) J)) (C8 hv40 hg)) J<|y7 J (λhg _ hN=>Z4 (ct hg) J) J<|d7 J (λ_ hN=>y5 J J J (λq=>P1 q)) J<|G6 ?_;refine cN h (λhc h=>?_) λhc h=>?_
     .refine S4 1 J ?_;refine a8 ?_;have h:=xL hx37 h;cases h;exact f1
     .refine b8 ?_;refine S6 3 J ?_;exact eL h W
    .refine n9 ?_;refine b9<|b9<|j5 ?_;have h:=xL hx37 h;exact eJ h W
  .refine S4 1 J ?_;refine c8<|lq h (λs46=>St.of [(1,.ptr 1 0 0),(4,.L iF v8),(5,.I s46)] [(1,vR (c5.Pv a0) 8)]) W λs46 x47 h hx43=>c7<|S3 2 J<|nL J g5<|S2 1 J ?_;refine cN h (λhc h=>?_) λhc h=>?_
   .refine b8 ?_;refine jq h (λ_=>St.of [(1,.ptr 1 0 0),(4,.L iF v8),(5,.I s46)] [(1,vR (c5.Pv a0) 8)]) (λq56 h=>?_) λκ55 h=>?_
    .refine S6 3 J ?_;exact eL h W
    .refine c8 ?_;refine dr [] p8 (by kernel_rfl) (by kernel_rfl)<|S7 4 J<|s7 h λv57 hv52 h=>d0 J (u7 (f:=iF) (cs:=[.I v57]) hv52 J J g5 m7 J J) J<|S7 1 J<|s7 h λv58 hv53 h=>ax J (x4 J E8 J hv53) J<|S7 4 J<|B6 (x':=D2.Pv v58.1) (cl':=true) J J (.inr J) kc<|S8 1 J<|S4 1 J<|c8<|lq h (λs60=>St.of [(1,.ptr 1 0 0),(4,.L iF v8),(5,.I s46),(6,.ptr 6 0 0),(8,.I s60)] [(6,vR (D2.Pv v58.1) 6),(1,vR (c5.Pv a0) 8)]) W λs60 x61 h hx56=>c7<|S3 3 J<|nL J g5<|S2 1 J ?_;refine cN h (λhc h=>?_) λhc h=>?_
     .refine b8 ?_;refine c7<|c8<|dr [] p8 (by kernel_rfl) (by kernel_rfl)<|S7 4 J<|s7 h λv62 hv57 h=>d0 J (u7 (f:=iF) (cs:=[.I v62]) hv57 J J g5 m7 J J) J<|S7 1 J<|s7 h λv63 hv58 h=>d2 J (B7 J br J hv58) J<|S8 1 J ?_;refine cN h (λhc h=>?_) λhc h=>?_
      .refine S4 1 J ?_;refine a8 ?_;have h:=xL hx56 h;have h:=xL hx43 h;cases h;exact f1
      .refine b8 ?_;refine S6 3 J ?_;exact eL h W
     .refine n9 ?_;refine b9<|b9<|j5 ?_;have h:=xL hx56 h;exact eJ h W
   .refine n9 ?_;refine b9<|b9<|j5 ?_;have h:=xL hx43 h;exact eJ h W
 .refine S4 1 J ?_;refine c8<|lq h (λs65=>St.of [(1,.ptr 1 0 0),(3,.I s65)] [(1,vR (c5.Pv a0) 8)]) W λs65 x66 h hx61=>c7<|S3 3 J<|nL J g5<|S2 1 J ?_;refine cN h (λhc h=>?_) λhc h=>?_
  .refine b8 ?_;refine c7<|c8<|dr [] p8 (by kernel_rfl) (by kernel_rfl)<|S7 4 J<|s7 h λv67 hv62 h=>d0 J (u7 (f:=iF) (cs:=[.I v67]) hv62 J J g5 m7 J J) J<|S7 1 J<|s7 h λv68 hv63 h=>d2 J (B7 J br J hv63) J<|S8 1 J ?_;refine cN h (λhc h=>?_) λhc h=>?_
   .refine S4 1 J ?_;refine a8 ?_;have h:=xL hx61 h;cases h;exact f1
   .refine b8 ?_;refine S6 3 J ?_;exact eL h W
  .refine n9 ?_;refine b9<|b9<|j5 ?_;have h:=xL hx61 h;exact eJ h W
theorem uu{a0 a1}:PO prog 138 [y4.Pv a0,.I a1] (eT a0 a1) λr=>.bool r:=by
 refine pO func138 λr h _ _=>?_;refine S4 2 J ?_;refine jq h (λ_=>St.of [] []) (λq6 h=>?_) λκ5 h=>?_
 .refine S4 1 J ?_;refine a8 ?_;cases h;exact f1
 .refine S4 1 J ?_;refine c8<|lq h (λs8=>St.of [(1,.I a1),(2,.ptr 2 0 0),(5,.I s8)] [(2,vR (y4.Pv a0) 2)]) W λs8 x9 h hx8=>c7<|S3 3 J<|nL J J2<|S2 1 J ?_;refine cN h (λhc h=>?_) λhc h=>?_
  .refine b8 ?_;refine c7<|c8<|S3 3 J<|iL h J J J2 F8 λv10 hv9 h=>S1 4 J<|g8 J (λhg=>oF J oi J)<|g8 J (λhg=>oS (ct hg) J J vb J)<|g8 J (λhg=>mI J)<|g8 J (λhg=>u7 (f:=o8.Pv) (cs:=o8.Pc v10) hv9 (ct hg) (ct hg) J2 F8 J J)<|g8 J (λhg=>A2 (ct hg) kJ J)<|g8 J (λhg=>D6 (ct hg) x6 J)<|g8 J (λhg=>mI J)<|g8 J (λhg=>r9 (ct hg) (ct hg) J)<|y0 J (w8 J J J (λq=>V0 q))<|yN ?_;refine cN h (λhc h=>?_) λhc h=>?_
   .refine S4 1 J ?_;refine a8 ?_;have h:=xL hx8 h;cases h;exact f1
   .refine b8 ?_;refine S6 3 J ?_;exact eL h W
  .refine n9 ?_;refine b9<|b9<|j5 ?_;have h:=xL hx8 h;exact eJ h W
theorem EM{a0}:PO prog 80 [c5.Pv a0] (qm a0) λr=>.bool r:=by
 refine pO func80 λr h _ _=>?_;refine S4 2 J ?_;refine jq h (λ_=>St.of [] []) (λq10 h=>?_) λκ9 h=>?_
 .refine S4 1 J ?_;refine a8 ?_;cases h;exact f1
 .refine S4 1 J ?_;refine c8<|lq h (λs12=>St.of [(1,.ptr 1 0 0),(3,.I s12)] [(1,vR (c5.Pv a0) 8)]) W λs12 x13 h hx12=>c7<|S3 3 J<|nL J K9<|S2 1 J ?_;refine cN h (λhc h=>?_) λhc h=>?_
  .refine b8 ?_;refine c7<|c8<|S3 3 J<|iL h J J K9 O3 λv14 _ h=>S2 3 J<|dr [] p8 (by kernel_rfl) (by kernel_rfl)<|S7 2 J<|s7 h λv15 hv14 h=>ax J (x4 J K1 J hv14) J<|S7 2 J<|s7 h λv16 hv15 h=>d2 J (B7 J X8 J hv15) J<|S8 5 J<|S3 4 J<|g8 J (λhg=>oF J MR J)<|g8 J (λhg=>oS (ct hg) J J x6 J)<|g8 J (λhg=>r9 (ct hg) J J)<|y0 J (y5 J J J (λq=>P1 q))<|S1 1 J<|g8 J (λhg=>oF J pH J)<|g8 J (λhg=>oS (ct hg) J J x6 J)<|g8 J (λhg=>r9 (ct hg) J J)<|g8 J (λhg=>om (d:=.bool (v14.Target==0)) (ct hg))<|g8 (D9 J J J) (λhg=>oF J ve J)<|g8 (D9 J J J) (λhg=>oS (ct hg) J J kI J)<|g8 J (λhg=>w8 (ct hg) J J (λq=>sL hg (V0 q)))<|y0 J (y5 J J J (λq=>P1 q))<|S1 1 J<|g8 J (λhg=>oF J pH J)<|g8 J (λhg=>oS (ct hg) J J x6 J)<|g8 J (λhg=>r9 (ct hg) J J)<|g8 J (λhg=>om (d:=.bool (v14.Target != 0)) (ct hg))<|g8 (D9 J J J) (λhg=>mI J)<|g8 (D9 J J J) (λhg=>r9 (ct hg) J J)<|g8 J (λhg=>w8 (ct hg) J J (λq=>sL hg (V0 q)))<|y0 J (y5 J J J (λq=>P1 q))<|S1 1 J<|g8 J (λhg=>oF J ve J)<|g8 J (λhg=>oS (ct hg) J J kI J)<|g8 J (λhg=>om (d:=.bool v14.Intact) (ct hg))<|g8 (D9 J J J) (λhg=>oL J J J A6 w9 nl J) ?_;refine g8 (D9 J J J) (λhg=>oF J pH J)<|g8 (D9 J J J) (λhg=>oS (ct hg) J J x6 J)<|s7 h λv17 hv16 h=>g8 (D9 J J J) (λhg=>B7 J Y6 (A3 (ct hg) (A3 (ct hg) J)) (C8 hv16 hg))<|g8 (D9 J J J) (λhg=>Z4 (ct hg) J)<|g8 (D9 J J J) (λhg=>om (d:=.bool (!v17)) (ct hg))<|g8 (D9 J J J) (λhg=>oF J kK J)<|g8 (D9 J J J) (λhg=>oL (ct hg) J J mb fT nl J)<|g8 (D9 J J J) (λhg=>mI J)<|s7 h λv18 hv17 h=>g8 (D9 J J J) (λhg=>B7 J uu (A3 (ct hg) (A3 (ct hg) J)) (C8 hv17 hg))<|g8 (D9 J J J) (λhg=>y5 (ct hg) J J (λq=>sL hg (P1 q)))<|g8 J (λhg=>w8 (ct hg) J J (λq=>sL hg (V0 q)))<|y0 J (y5 J J J (λq=>P1 q))<|yN ?_;refine cN h (λhc h=>?_) λhc h=>?_
   .refine S4 1 J ?_;refine a8 ?_;have h:=xL hx12 h;cases h;exact f1
   .refine b8 ?_;refine S6 3 J ?_;exact eL h W
  .refine n9 ?_;refine b9<|b9<|j5 ?_;have h:=xL hx12 h;exact eJ h W
theorem BC{a0 a1}:PO prog 139 [.I a0,.I a1] (sg a0 a1) λr=>.I r:=by
 refine pO func139 λr h _ _=>?_;refine S4 1 J<|S3 2 J<|cA h jH J J λv1 _ h=>S2 1 J<|a8 ?_;cases h;exact f1
theorem BE{a0 a1}:PO prog 140 [.L m9.Pv a0,.I a1] (mY a0 a1) λr=>.I r:=by
 refine pO func140 λr h _ _=>?_;refine S4 1 J<|S4 1 J ?_;refine jq h (λj11=>St.of [(5,.I j11)] []) (λj11 h=>?_) λκ10 h=>?_
 .refine S4 2 J ?_;refine a8 ?_;cases h;exact f1
 .refine S4 1 J ?_;refine c8<|lq h (λq=>St.of [(0,.L m9.Pv a0),(1,.I a1),(5,.I q.1),(6,.I q.2)] []) W λq16 x15 h hx10=>?_;obtain⟨s13,s14⟩:=q16;refine c7<|S3 2 J<|nL J K9<|S2 1 J ?_;refine cN h (λhc h=>?_) λhc h=>?_
  .refine b8 ?_;refine jq h (λj19=>St.of [(0,.L m9.Pv a0),(1,.I a1),(5,.I j19),(6,.I s14)] []) (λj19 h=>?_) λκ18 h=>?_
   .refine S6 3 J ?_;exact eL h W
   .refine c8 ?_;refine S3 2 J<|iL h J J K9 O3 λv20 _ h=>S1 5 J<|g8 J (λhg=>mI J)<|g8 J (λhg=>r9 (ct hg) J J)<|y0 J (w8 J J J (λq=>V0 q))<|yN ?_;refine cN h (λhc h=>?_) λhc h=>?_
    .refine S6 3 J ?_;exact eJ h W
    .refine b8 ?_;exact eJ h W
  .refine n9 ?_;refine b9<|b9<|j5 ?_;have h:=xL hx10 h;exact eJ h W
theorem EP{a0}:PO prog 81 [c5.Pv a0] (qp a0) λr=>.bool r:=by
 refine pO func81 λr h _ _=>?_;refine S4 2 J ?_;refine jq h (λ_=>St.of [] []) (λq13 h=>?_) λκ12 h=>?_
 .refine S4 1 J ?_;refine a8 ?_;cases h;exact f1
 .refine S4 1 J ?_;refine c8<|lq h (λs15=>St.of [(1,.ptr 1 0 0),(3,.I s15)] [(1,vR (c5.Pv a0) 8)]) W λs15 x16 h hx14=>c7<|S3 4 J<|nL J G3<|S2 1 J ?_;refine cN h (λhc h=>?_) λhc h=>?_
  .refine b8 ?_;refine jq h (λ_=>St.of [(1,.ptr 1 0 0),(3,.I s15)] [(1,vR (c5.Pv a0) 8)]) (λq21 h=>?_) λκ20 h=>?_
   .refine S6 3 J ?_;exact eL h W
   .refine c8 ?_;refine S3 4 J<|iL h J J G3 G5 λv22 _ h=>S2 3 J<|c7<|S3 4 J<|g8 J (λhg=>oF J vc J)<|g8 J (λhg=>oS (ct hg) J J x6 J)<|g8 J (λhg=>r9 (ct hg) J J)<|y0 J (w8 J J J (λq=>V0 q))<|yN ?_;refine cN h (λhc h=>?_) λhc h=>?_
    .refine n9 ?_;refine b9<|j5 ?_;exact eJ h W
    .refine b8 ?_;refine S3 3 J<|cA h BC J J λv23 _ h=>S2 1 J<|dr [] p8 (by kernel_rfl) (by kernel_rfl)<|S7 6 J<|s7 h λv24 hv21 h=>d2 J (B7 J BE J hv21) J<|S7 2 J<|y7 J (λhg _ hN=>oF J vc J) J<|C0 J (λhg=>oS (ct hg) J J x6 J) J<|y7 J (λhg _ hN=>r9 (ct hg) J J) J<|y7 J (λhg _ hN=>om (d:=.bool (v22.State==2)) (ct hg)) J<|y7 (D9 J J J) (λhg _ hN=>oF J cK J) J<|y7 (D9 J J J) (λhg _ hN=>oF (ct hg) kL J) J<|C0 (D9 J J J) (λhg=>oS (ct hg) J J x6 J) J<|y7 (D9 J J J) (λhg _ hN=>r9 (ct hg) J J) J<|y7 (D9 J J J) (λhg _ hN=>om (d:=.bool (decide (v22.Val.Weak<1))) (ct hg)) J<|y7 (D9 J J J) (λhg _ hN=>oF J cK J) J<|y7 (D9 J J J) (λhg _ hN=>oF (ct hg) oy J) J<|C0 (D9 J J J) (λhg=>oS (ct hg) J J fR J) J<|C0 (D9 J J J) (λhg=>N8 (f:=iF) (ct hg) g5) J<|y7 (D9 J J J) (λhg _ hN=>r9 (ct hg) J J) J<|y7 (D9 J J J) (λhg _ hN=>y5 (ct hg) J J (λq=>sL hg (P1 q))) J<|y7 (D9 J J J) (λhg _ hN=>om (d:=.bool ((decide (v22.Val.Weak<1))||(decide ((v22.Val.Fields.length:Int) > 0)))) (ct hg)) J<|y7 (D9 J J J) (λhg _ hN=>oF J cK J) J<|y7 (D9 J J J) (λhg _ hN=>oF (ct hg) ov J) J<|C0 (D9 J J J) (λhg=>oS (ct hg) J J x6 J) J<|y7 (D9 J J J) (λhg _ hN=>r9 (ct hg) J J) J<|y7 (D9 J J J) (λhg _ hN=>y5 (ct hg) J J (λq=>sL hg (P1 q))) J<|y7 J (λhg _ hN=>w8 (ct hg) J J (λq=>sL hg (V0 q))) J<|d7 J (λ_ hN=>y5 J J J (λq=>P1 q)) J<|G6 ?_;refine cN h (λhc h=>?_) λhc h=>?_
     .refine S4 1 J ?_;refine a8 ?_;have h:=xL hx14 h;cases h;exact f1
     .refine b8 ?_;exact eJ h W
  .refine n9 ?_;refine b9<|b9<|j5 ?_;have h:=xL hx14 h;exact eJ h W
theorem HL{a0}:PO prog 144 [y4.Pv a0] (pd a0) λr=>.L iF r:=by
 refine pO func144 λr h _ _=>?_;refine S4 2 J<|sR<|y0 J (A9 J g5 m7)<|S2 1 J ?_;refine jq h (λj13=>St.of [(3,.sl 910003)] [(910003,⟨List.map iF j13,(List.map iF j13).length,true,1,true⟩)]) (λj13 h=>?_) λκ12 h=>?_
 .refine S4 2 J ?_;refine a8 ?_;cases h;exact f1
 .refine S4 1 J ?_;refine c8<|lq h (λq=>St.of [(1,.ptr 1 0 0),(3,.sl 910003),(4,.I q.1)] [(1,vR (y4.Pv a0) 2),(910003,⟨List.map iF q.2,(List.map iF q.2).length,true,1,true⟩)]) (Wk.trans (D7 (t:=3) (l:=920003) (z:=1) J J) (WP (λl=>if l=910003 then 920003 else l))) λq18 x17 h hx12=>?_;obtain⟨s15,s16⟩:=q18;refine c7<|S3 3 J<|nL J J2<|S2 1 J ?_;refine cN h (λhc h=>?_) λhc h=>?_
  .refine b8 ?_;refine jq h (λj22=>St.of [(1,.ptr 1 0 0),(3,.sl 28),(4,.I s15)] [(28,⟨List.map iF j22,(List.map iF j22).length,true,1,true⟩),(1,vR (y4.Pv a0) 2)]) (λj22 h=>?_) λκ21 h=>?_
   .refine S6 3 J ?_;exact eL h (Wk.trans (n0 _ [28]) (WP (λl=>if l=910003 then 28 else l)))
   .refine c8 ?_;refine S3 3 J<|iL h J J J2 F8 λv23 hv16 h=>S2 3 J ?_;refine cN h (λhc h=>?_) λhc h=>?_
    .refine S5 4 J ?_;refine y0 J (u7 (f:=o8.Pv) (cs:=o8.Pc v23) hv16 J J J2 F8 J J)<|S1 2 J<|y0 J (H5 (f:=iF) (l:=[v23.At]) J g5 m7 A0 J J nl J J)<|s7 h λv24 hv17 h=>I2 J (F7 (f:=iF) hv17 J J J J J J (.inl ⟨_,J,J⟩) g5 m7 F9 A0 J (λ_=>J)) J J J<|S2 1 J ?_;exact eJ h (Wk.trans (n0 _ [28]) W)
    .refine b8 ?_;exact eJ h (Wk.trans (n0 _ [910003]) (WP (λl=>if l=28 then 910003 else l)))
  .refine n9 ?_;refine b9<|b9<|j5 ?_;have h:=xL hx12 h;exact eJ h (Wk.trans (n0 _ [910003]) W)
theorem EJ{a0}:PO prog 83 [c5.Pv a0] (qk a0) λr=>.L iF r:=by
 refine pO func83 λr h _ _=>?_;refine S4 2 J<|sR<|y0 J (A9 J g5 m7)<|S2 1 J ?_;refine jq h (λj13=>St.of [(1,.ptr 1 0 0),(3,.sl 910003)] [(910003,⟨List.map iF j13,(List.map iF j13).length,true,1,true⟩),(1,vR (c5.Pv a0) 8)]) (λj13 h=>?_) λκ12 h=>?_
 .refine S3 3 J ?_;refine cF h HL J J λv14 _ h=>s7 h λv15 hv11 h=>I2 J (F7 (f:=iF) hv11 J J J J J J (.inl ⟨_,J,J⟩) g5 m7 F9 A0 J (λ_=>J)) J J J<|S2 1 J<|a8 ?_;cases h;exact f1
 .refine S4 1 J ?_;refine c8<|lq h (λq=>St.of [(1,.ptr 1 0 0),(3,.sl 910003),(4,.I q.1)] [(1,vR (c5.Pv a0) 8),(910003,⟨List.map iF q.2,(List.map iF q.2).length,true,1,true⟩)]) (Wk.trans (D7 (t:=3) (l:=920003) (z:=1) J J) (WP (λl=>if l=910003 then 920003 else l))) λq20 x19 h hx14=>?_;obtain⟨s17,s18⟩:=q20;refine c7<|S3 3 J<|nL J g5<|S2 1 J ?_;refine cN h (λhc h=>?_) λhc h=>?_
  .refine b8 ?_;refine jq h (λj24=>St.of [(1,.ptr 1 0 0),(3,.sl 26),(4,.I s17)] [(26,⟨List.map iF j24,(List.map iF j24).length,true,1,true⟩),(1,vR (c5.Pv a0) 8)]) (λj24 h=>?_) λκ23 h=>?_
   .refine S6 3 J ?_;exact eL h (Wk.trans (n0 _ [26]) (WP (λl=>if l=910003 then 26 else l)))
   .refine c8 ?_;refine S3 3 J<|iL h J J g5 m7 λv25 hv18 h=>S2 2 J ?_;refine cN h (λhc h=>?_) λhc h=>?_
    .refine S5 4 J ?_;refine y0 J (u7 (f:=iF) (cs:=[.I v25]) hv18 J J g5 m7 J J)<|S1 1 J<|y0 J (H5 (f:=iF) (l:=[v25]) J g5 m7 A0 J J nl J J)<|s7 h λv26 hv19 h=>I2 J (F7 (f:=iF) hv19 J J J J J J (.inl ⟨_,J,J⟩) g5 m7 F9 A0 J (λ_=>J)) J J J<|S2 1 J ?_;exact eJ h (Wk.trans (n0 _ [26]) W)
    .refine b8 ?_;exact eJ h (Wk.trans (n0 _ [910003]) (WP (λl=>if l=26 then 910003 else l)))
  .refine n9 ?_;refine b9<|b9<|j5 ?_;have h:=xL hx14 h;exact eJ h (Wk.trans (n0 _ [910003]) W)
theorem mV{a0}:PO prog 39 [.I a0] (bq a0) λr=>.bool r:=by
 refine pO func39 λr h _ _=>?_;unfold bq at h;refine S4 1 J<|S4 3 J<|a8 ?_;cases h;exact f1
theorem um{a0 a1}:PO prog 141 [l4.Pv a0,.I a1] (lz a0 a1) λr=>.bool r:=by
 refine pO func141 λr h _ _=>?_;refine S4 2 J<|S3 2 J<|cF h E8 J J λv1 _ h=>S2 6 J<|S3 2 J<|cA h mV J J λv2 _ h=>S2 1 J<|a8 ?_;cases h;exact f1
theorem tT{a0}:PO prog 187 [.L iF a0] (eP a0) λr=>.L iF r:=by
 refine pO func187 λr h _ _=>?_;refine S4 1 J<|sR<|y0 J (A9 J g5 m7)<|S2 1 J ?_;refine jq h (λj13=>St.of [(3,.sl 910003)] [(910003,⟨List.map iF j13,(List.map iF j13).length,true,1,true⟩)]) (λj13 h=>?_) λκ12 h=>?_
 .refine S4 2 J ?_;refine a8 ?_;cases h;exact f1
 .refine S4 1 J ?_;refine c8<|lq h (λq=>St.of [(0,.L iF a0),(3,.sl 910003),(4,.I q.1)] [(910003,⟨List.map iF q.2,(List.map iF q.2).length,true,1,true⟩)]) (Wk.trans (D7 (t:=3) (l:=920003) (z:=1) J J) (WP (λl=>if l=910003 then 920003 else l))) λq18 x17 h hx12=>?_;obtain⟨s15,s16⟩:=q18;refine c7<|S3 2 J<|nL J g5<|S2 1 J ?_;refine cN h (λhc h=>?_) λhc h=>?_
  .refine b8 ?_;refine jq h (λj22=>St.of [(0,.L iF a0),(3,.sl 23),(4,.I s15)] [(23,⟨List.map iF j22,(List.map iF j22).length,true,1,true⟩)]) (λj22 h=>?_) λκ21 h=>?_
   .refine S6 3 J ?_;exact eL h (Wk.trans (n0 _ [23]) (WP (λl=>if l=910003 then 23 else l)))
   .refine c8 ?_;refine S3 2 J<|iL h J J g5 m7 λv23 hv16 h=>S2 2 J ?_;refine cN h (λhc h=>?_) λhc h=>?_
    .refine S5 3 J ?_;refine y0 J (u7 (f:=iF) (cs:=[.I v23]) hv16 J J g5 m7 J J)<|S1 1 J<|y0 J (H5 (f:=iF) (l:=[v23]) J g5 m7 A0 J J nl J J)<|s7 h λv24 hv17 h=>I2 J (F7 (f:=iF) hv17 J J J J J J (.inl ⟨_,J,J⟩) g5 m7 F9 A0 J (λ_=>J)) J J J<|S2 1 J ?_;exact eJ h (Wk.trans (n0 _ [23]) W)
    .refine b8 ?_;exact eJ h (Wk.trans (n0 _ [910003]) (WP (λl=>if l=23 then 910003 else l)))
  .refine n9 ?_;refine b9<|b9<|j5 ?_;have h:=xL hx12 h;exact eJ h (Wk.trans (n0 _ [910003]) W)
theorem Au{a0 a1}:PO prog 228 [l4.Pv a0,.I a1] (tZ a0 a1) λr=>.L iF r:=by
 refine pO func228 λr h _ _=>?_;refine S4 2 J<|S3 2 J<|cF h E8 J J λv1 _ h=>S2 6 J<|c7<|S4 2 J ?_;refine cN h (λhc h=>?_) λhc h=>?_
 .refine S4 1 J ?_;refine a8 ?_;cases h;exact f1
 .refine b8 ?_;refine S3 2 J<|cF h tT J J λv2 _ h=>S2 1 J<|a8 ?_;cases h;exact f1
theorem gC{a0 a1}:PO prog 143 [.L iF a0,.I a1] (cT a0 a1) λr=>.I r:=by
 refine pO func143 λr h _ _=>?_;refine S4 1 J<|S4 1 J ?_;refine jq h (λj11=>St.of [(5,.I j11)] []) (λj11 h=>?_) λκ10 h=>?_
 .refine S4 2 J ?_;refine a8 ?_;cases h;exact f1
 .refine S4 1 J ?_;refine c8<|lq h (λq=>St.of [(0,.L iF a0),(1,.I a1),(5,.I q.1),(6,.I q.2)] []) W λq16 x15 h hx10=>?_;obtain⟨s13,s14⟩:=q16;refine c7<|S3 2 J<|nL J g5<|S2 1 J ?_;refine cN h (λhc h=>?_) λhc h=>?_
  .refine b8 ?_;refine jq h (λj19=>St.of [(0,.L iF a0),(1,.I a1),(5,.I j19),(6,.I s14)] []) (λj19 h=>?_) λκ18 h=>?_
   .refine S6 3 J ?_;exact eL h W
   .refine c8 ?_;refine S3 2 J<|iL h J J g5 m7 λv20 _ h=>S1 4 J<|g8 J (λhg=>mI J)<|g8 J (λhg=>r9 (ct hg) J J)<|y0 J (w8 J J J (λq=>V0 q))<|yN ?_;refine cN h (λhc h=>?_) λhc h=>?_
    .refine S6 3 J ?_;exact eJ h W
    .refine b8 ?_;exact eJ h W
  .refine n9 ?_;refine b9<|b9<|j5 ?_;have h:=xL hx10 h;exact eJ h W
theorem NI{a0 a1}:PO prog 295 [l4.Pv a0,.I a1] (ED a0 a1) λr=>.I r:=by
 refine pO func295 λr h _ _=>?_;refine S4 2 J<|S4 1 J<|S3 1 J<|cF h Q6 J J λv1 _ h=>S2 1 J ?_;refine jq h (λj11=>St.of [(5,.I j11)] []) (λj11 h=>?_) λκ10 h=>?_
 .refine S4 2 J ?_;refine a8 ?_;cases h;exact f1
 .refine S4 1 J ?_;refine c8<|lq h (λq=>St.of [(1,.I a1),(2,.ptr 2 0 0),(5,.I q.1),(6,.L iF v1),(7,.I q.2)] [(2,vR (l4.Pv a0) 3)]) W λq16 x15 h hx11=>?_;obtain⟨s13,s14⟩:=q16;refine c7<|S3 2 J<|nL J g5<|S2 1 J ?_;refine cN h (λhc h=>?_) λhc h=>?_
  .refine b8 ?_;refine c7<|c8<|bJ [] p8 (by kernel_rfl) (by kernel_rfl)<|S7 4 J<|s7 h λv17 hv12 h=>d0 J (u7 (f:=iF) (cs:=[.I v17]) hv12 J J g5 m7 J J) J<|S7 1 J<|s7 h λv18 hv13 h=>ax J (x4 J Au J hv13) J<|S7 1 J<|s7 h λv19 hv14 h=>d2 J (B7 J gC J hv14) J<|S8 2 J<|S6 3 J ?_;exact eL h W
  .refine n9 ?_;refine b9<|b9<|j5 ?_;have h:=xL hx11 h;exact eJ h W
theorem EG{a0 a1}:PO prog 296 [.L k7.Pv a0,.I a1] (qi a0 a1) λr=>.I r:=by
 refine pO func296 λr h _ _=>?_;refine S4 1 J<|S4 1 J<|S3 1 J<|cF h mZ J J λv1 _ h=>S2 1 J ?_;refine jq h (λj12=>St.of [(5,.I j12)] []) (λj12 h=>?_) λκ11 h=>?_
 .refine S4 2 J ?_;refine a8 ?_;cases h;exact f1
 .refine S4 1 J ?_;refine c8<|lq h (λq=>St.of [(1,.I a1),(5,.I q.1),(6,.L B0.Pv v1),(7,.I q.2)] []) W λq17 x16 h hx11=>?_;obtain⟨s14,s15⟩:=q17;refine c7<|S3 2 J<|nL J bc<|S2 1 J ?_;refine cN h (λhc h=>?_) λhc h=>?_
  .refine b8 ?_;refine jq h (λj20=>St.of [(1,.I a1),(5,.I j20),(6,.L B0.Pv v1),(7,.I s15)] []) (λj20 h=>?_) λκ19 h=>?_
   .refine S6 3 J ?_;exact eL h W
   .refine c8 ?_;refine S3 2 J<|iL h J J bc fg λv21 _ h=>S1 5 J<|g8 J (λhg=>mI J)<|g8 J (λhg=>r9 (ct hg) J J)<|y0 J (w8 J J J (λq=>V0 q))<|yN ?_;refine cN h (λhc h=>?_) λhc h=>?_
    .refine S6 3 J ?_;exact eJ h W
    .refine b8 ?_;exact eJ h W
  .refine n9 ?_;refine b9<|b9<|j5 ?_;have h:=xL hx11 h;exact eJ h W
theorem EH{a0 a1 a2}:PO prog 226 [l4.Pv a0,.L k7.Pv a1,.I a2] (qj a0 a1 a2) λr=>.I r:=by
 refine pO func226 λr h _ _=>?_;refine S4 2 J<|S3 2 J<|cA h NI J J λv1 _ h=>S1 2 J<|cA h EG J J λv2 _ h=>S2 2 J<|a8 ?_;cases h;exact f1
theorem wJ{a0 a1 a2}:PO prog 142 [l4.Pv a0,.L k7.Pv a1,.I a2] (pc a0 a1 a2) λr=>.I r:=by
 refine pO func142 λr h _ _=>?_;refine S4 2 J<|S3 2 J<|cF h E8 J J λv1 _ h=>S2 6 J<|c7<|S4 2 J ?_;refine cN h (λhc h=>?_) λhc h=>?_
 .refine S4 1 J ?_;refine a8 ?_;cases h;exact f1
 .refine b8 ?_;refine dr [] p8 (by kernel_rfl) (by kernel_rfl)<|S7 5 J<|s7 h λv2 hv2 h=>d2 J (B7 J EH J hv2) J<|S8 2 J<|a8 ?_;cases h;exact f1
theorem HJ{a0 a1 a2}:PO prog 82 [l4.Pv a0,.L k7.Pv a1,.L iF a2] (uj a0 a1 a2) λr=>.bool r:=by
 refine pO func82 λr h _ _=>?_;refine S4 2 J<|S3 1 J<|cF h Q6 J J λv1 _ h=>S2 1 J ?_;refine jq h (λ_=>St.of [] []) (λq10 h=>?_) λκ9 h=>?_
 .refine S4 1 J ?_;refine a8 ?_;cases h;exact f1
 .refine S4 1 J ?_;refine c8<|lq h (λs12=>St.of [(1,.L k7.Pv a1),(2,.L iF a2),(3,.ptr 3 0 0),(7,.L iF v1),(8,.I s12)] [(3,vR (l4.Pv a0) 3)]) W λs12 x13 h hx12=>c7<|S3 2 J<|nL J g5<|S2 1 J ?_;refine cN h (λhc h=>?_) λhc h=>?_
  .refine b8 ?_;refine c7<|c8<|dr [] p8 (by kernel_rfl) (by kernel_rfl)<|S7 3 J<|s7 h λv14 hv13 h=>d0 J (u7 (f:=iF) (cs:=[.I v14]) hv13 J J g5 m7 J J) J<|S7 1 J<|s7 h λv15 hv14 h=>d2 J (B7 J um J hv14) J<|S7 2 J<|C0 J (λhg=>oL J J J X9 V6 nl J) J<|y7 J (λhg _ hN=>om (d:=.L k7.Pv a1) J) J<|y7 J (λhg _ hN=>om (d:=.L iF v1) J) J<|y7 J (λhg _ hN=>mI J) J<|C0 J (λhg=>u7 (f:=iF) (cs:=[.I v14]) hv13 (ct hg) (ct hg) g5 m7 J J) J<|C0 J (λhg=>D6 (ct hg) x6 J) J<|s7 h λv16 hv15 h=>ef J (λhg=>B7 J wJ (A3 (ct hg) (A3 (ct hg) (A3 (ct hg) J))) (C8 hv15 hg)) J<|y7 J (λhg _ hN=>om (d:=.L iF a2) J) J<|y7 J (λhg _ hN=>om (d:=.L iF v1) J) J<|y7 J (λhg _ hN=>mI J) J<|C0 J (λhg=>u7 (f:=iF) (cs:=[.I v14]) hv13 (ct hg) (ct hg) g5 m7 J J) J<|C0 J (λhg=>D6 (ct hg) x6 J) J<|s7 h λv17 hv16 h=>ef J (λhg=>B7 J gC (A3 (ct hg) (A3 (ct hg) J)) (C8 hv16 hg)) J<|y7 J (λhg _ hN=>r9 (ct hg) (ct hg) J) J<|d7 J (λ_ hN=>w8 J J J (λq=>V0 q)) J<|G6 ?_;refine cN h (λhc h=>?_) λhc h=>?_
   .refine S4 1 J ?_;refine a8 ?_;have h:=xL hx12 h;cases h;exact f1
   .refine b8 ?_;refine S6 3 J ?_;exact eL h W
  .refine n9 ?_;refine b9<|b9<|j5 ?_;have h:=xL hx12 h;exact eJ h W
theorem EL{a0}:PO prog 36 [c5.Pv a0] (ql a0) λr=>.bool r:=by
 refine pO func36 λr h _ _=>?_;refine S4 2 J<|c7<|S3 2 J<|cA h EC J J λv1 _ h=>S1 2 J<|g8 J (λhg=>oF J sF J)<|g8 J (λhg=>oS (ct hg) J J Da J)<|s7 h λv2 hv2 h=>g8 J (λhg=>B7 J EF (A3 (ct hg) J) (C8 hv2 hg))<|g8 J (λhg=>Z4 (ct hg) J)<|y0 J (y5 J J J (λq=>P1 q))<|S1 1 J<|g8 J (λhg=>oF J ym J)<|g8 J (λhg=>oS (ct hg) J J fR J)<|g8 J (λhg=>N8 (f:=iF) (ct hg) g5)<|g8 J (λhg=>r9 (ct hg) J J)<|y0 J (y5 J J J (λq=>P1 q))<|S1 1 J<|g8 J (λhg=>oF J yn J)<|g8 J (λhg=>oS (ct hg) J J IN J)<|g8 J (λhg=>N8 (f:=m9.Pv) (ct hg) K9)<|g8 J (λhg=>r9 (ct hg) J J)<|y0 J (y5 J J J (λq=>P1 q))<|yN ?_;refine cN h (λhc h=>?_) λhc h=>?_
 .refine S4 1 J ?_;refine a8 ?_;cases h;exact f1
 .refine b8 ?_;refine dr [] p8 (by kernel_rfl) (by kernel_rfl)<|S7 1 J<|s7 h λv3 hv3 h=>d2 J (B7 J EO J hv3) J<|S7 1 J<|C0 J (λhg=>oL J J J A6 w9 nl J) J<|s7 h λv4 hv4 h=>ef J (λhg=>B7 J EN (A3 (ct hg) J) (C8 hv4 hg)) J<|d7 J (λ_ hN=>w8 J J J (λq=>V0 q)) J<|S7 1 J<|C0 J (λhg=>oL J J J A6 w9 nl J) J<|s7 h λv5 hv5 h=>ef J (λhg=>B7 J EM (A3 (ct hg) J) (C8 hv5 hg)) J<|d7 J (λ_ hN=>w8 J J J (λq=>V0 q)) J<|S7 1 J<|C0 J (λhg=>oL J J J A6 w9 nl J) J<|s7 h λv6 hv6 h=>ef J (λhg=>B7 J EP (A3 (ct hg) J) (C8 hv6 hg)) J<|d7 J (λ_ hN=>w8 J J J (λq=>V0 q)) J<|S7 1 J<|y7 J (λhg _ hN=>oF J Ot J) J<|C0 J (λhg=>oL (ct hg) J J X9 V6 nl J) J<|y7 J (λhg _ hN=>oF J sF J) J<|C0 J (λhg=>oS (ct hg) J J Da J) J<|C0 J (λhg=>oL J J J A6 w9 nl J) J<|s7 h λv7 hv7 h=>rP J (λhg=>x4 J EJ (A3 (ct hg) J) (C8 hv7 hg)) J<|s7 h λv8 hv8 h=>ef J (λhg=>B7 J HJ (A3 (ct hg) (A3 (ct hg) (A3 (ct hg) J))) (C8 hv8 hg)) J<|d7 J (λ_ hN=>w8 J J J (λq=>V0 q)) J<|S8 1 J<|a8 ?_;cases h;exact f1
theorem FQ{a0}:PO prog 18 [b7.Pv a0] (qK a0) λr=>.bool r:=by
 refine pO func18 λr h _ _=>?_;refine S4 2 J<|S3 1 J<|cA h Bb J J λv1 _ h=>S1 1 J<|g8 J (λhg=>oF J Oo J)<|g8 J (λhg=>oF (ct hg) Om J)<|g8 J (λhg=>oS (ct hg) J J x6 J)<|g8 J (λhg=>r9 (ct hg) J J)<|y0 J (w8 J J J (λq=>V0 q))<|S1 1 J<|g8 J (λhg=>oL J J J y6 u4 nl J)<|s7 h λv2 hv2 h=>MI J (λhg=>x4 J jT (A3 (ct hg) J) (C8 hv2 hg))<|s7 h λv3 hv3 h=>g8 J (λhg=>B7 J EL (A3 (ct hg) J) (C8 hv3 hg))<|y0 J (w8 J J J (λq=>V0 q))<|S2 1 J<|a8 ?_;cases h;exact f1
theorem wM{a0}:PO prog 54 [c5.Pv a0] (lC a0) λr=>.L iF r:=by
 refine pO func54 λr h _ _=>?_;refine S4 2 J<|sR<|y0 J (A9 J g5 m7)<|S2 1 J<|S3 2 J<|cF h Q6 J J λv1 _ h=>S2 1 J ?_;refine jq h (λj16=>St.of [(3,.sl 910003)] [(910003,⟨List.map iF j16,(List.map iF j16).length,true,1,true⟩)]) (λj16 h=>?_) λκ15 h=>?_
 .refine S4 2 J ?_;refine a8 ?_;cases h;exact f1
 .refine S4 1 J ?_;refine c8<|lq h (λq=>St.of [(1,.ptr 1 0 0),(3,.sl 910003),(4,.L iF v1),(5,.I q.1)] [(1,vR (c5.Pv a0) 8),(910003,⟨List.map iF q.2,(List.map iF q.2).length,true,1,true⟩)]) (Wk.trans (D7 (t:=3) (l:=920003) (z:=1) J J) (WP (λl=>if l=910003 then 920003 else l))) λq21 x20 h hx15=>?_;obtain⟨s18,s19⟩:=q21;refine c7<|S3 2 J<|nL J g5<|S2 1 J ?_;refine cN h (λhc h=>?_) λhc h=>?_
  .refine b8 ?_;refine jq h (λj26=>St.of [(1,.ptr 1 0 0),(3,.sl 37),(4,.L iF v1),(5,.I s18)] [(37,⟨List.map iF j26,(List.map iF j26).length,true,1,true⟩),(1,vR (c5.Pv a0) 8)]) (λj26 h=>?_) λκ25 h=>?_
   .refine S6 3 J ?_;exact eL h (Wk.trans (n0 _ [37]) (WP (λl=>if l=910003 then 37 else l)))
   .refine c8 ?_;refine dr [] p8 (by kernel_rfl) (by kernel_rfl)<|S7 4 J<|s7 h λv27 hv20 h=>d0 J (u7 (f:=iF) (cs:=[.I v27]) hv20 J J g5 m7 J J) J<|S7 1 J<|s7 h λv28 hv21 h=>ax J (x4 J E8 J hv21) J<|S7 4 J<|B6 (x':=D2.Pv v28.1) (cl':=true) J J (.inr J) kc<|S8 1 J<|S4 3 J ?_;refine cN h (λhc h=>?_) λhc h=>?_
    .refine S5 3 J ?_;refine y0 J (u7 (f:=iF) (cs:=[.I v27]) hv20 J J g5 m7 J J)<|S1 1 J<|y0 J (H5 (f:=iF) (l:=[v27]) J g5 m7 A0 J J nl J J)<|s7 h λv29 hv22 h=>I2 J (F7 (f:=iF) hv22 J J J J J J (.inl ⟨_,J,J⟩) g5 m7 F9 A0 J (λ_=>J)) J J J<|S2 1 J ?_;exact eJ h (Wk.trans (n0 _ [37]) W)
    .refine b8 ?_;exact eJ h (Wk.trans (n0 _ [910003]) (WP (λl=>if l=37 then 910003 else l)))
  .refine n9 ?_;refine b9<|b9<|j5 ?_;have h:=xL hx15 h;exact eJ h (Wk.trans (n0 _ [910003]) W)
theorem Ay{a0}:PO prog 19 [c5.Pv a0] (jN a0) λr=>.bool r:=by
 refine pO func19 λr h _ _=>?_;refine S4 2 J<|S3 1 J<|cF h wM J J λv1 _ h=>nL J g5<|S2 2 J<|a8 ?_;cases h;exact f1
theorem Iy{a0}:PO prog 10 [.L (Ls k8.Pv) a0] (uX a0) λr=>.bool r:=by
 refine pO func10 λr h _ _=>?_;refine S4 1 J ?_;refine jq h (λ_=>St.of [(0,.L (Ls k8.Pv) a0)] []) (λq6 h=>?_) λκ5 h=>?_
 .refine S3 1 J ?_;refine nL J fS<|S2 2 J<|a8 ?_;cases h;exact f1
 .refine S4 1 J ?_;refine c8<|lq h (λs8=>St.of [(0,.L (Ls k8.Pv) a0),(3,.I s8)] []) W λs8 x9 h hx8=>c7<|S3 2 J<|nL J fS<|S1 2 J<|g8 J (λhg=>mI J)<|g8 J (λhg=>r9 (ct hg) J J)<|y0 J (w8 J J J (λq=>V0 q))<|yN ?_;refine cN h (λhc h=>?_) λhc h=>?_
  .refine b8 ?_;refine c7<|c8<|S3 2 J<|iL h J J fS pJ λv10 _ h=>S1 1 J<|nL J fe<|S2 1 J ?_;refine cN h (λhc h=>?_) λhc h=>?_
   .refine S4 1 J ?_;refine a8 ?_;have h:=xL hx8 h;cases h;exact f1
   .refine b8 ?_;refine S6 3 J ?_;exact eL h W
  .refine n9 ?_;refine b9<|b9<|j5 ?_;have h:=xL hx8 h;exact eJ h W
theorem uV{a0}:PO prog 14 [.L (Ls k8.Pv) a0] (lT a0) λr=>.L (Ls s6.Pv) r:=by
 refine pO func14 λr h _ _=>?_;refine S4 1 J<|sR<|y0 J (A9 J gZ jh)<|S2 1 J ?_;refine jq h (λj47=>St.of [(3,.sl 910003)] [(910003,⟨List.map (Ls s6.Pv) j47,(List.map (Ls s6.Pv) j47).length,true,1,true⟩)]) (λj47 h=>?_) λκ46 h=>?_
 .refine S4 2 J ?_;refine a8 ?_;cases h;exact f1
 .refine S4 1 J ?_;refine c8<|lq h (λq=>St.of [(0,.L (Ls k8.Pv) a0),(3,.sl 910003),(4,.I q.1)] [(910003,⟨List.map (Ls s6.Pv) q.2,(List.map (Ls s6.Pv) q.2).length,true,1,true⟩)]) (Wk.trans (D7 (t:=3) (l:=920003) (z:=1) J J) (WP (λl=>if l=910003 then 920003 else l))) λq52 x51 h hx36=>?_;obtain⟨s49,s50⟩:=q52;refine c7<|S3 2 J<|nL J fS<|S2 1 J ?_;refine cN h (λhc h=>?_) λhc h=>?_
  .refine b8 ?_;refine jq h (λj73=>St.of [(0,.L (Ls k8.Pv) a0),(3,.sl 37),(4,.I s49)] [(37,⟨List.map (Ls s6.Pv) j73,s50.length,true,1,true⟩)]) (λj73 h=>?_) λκ72 h=>?_
   .refine S6 3 J ?_;exact eL h (Wk.trans (n0 _ [37]) (WP (λl=>if l=910003 then 37 else l)))
   .refine c8 ?_;refine sR<|y0 J (A9 J ff de)<|S2 1 J ?_;refine jq h (λj83=>St.of [(0,.L (Ls k8.Pv) a0),(3,.sl 910003),(4,.I s49),(5,.sl 910005)] [(910005,⟨List.map s6.Pv j83,(List.map s6.Pv j83).length,true,4,true⟩),(910003,⟨List.map (Ls s6.Pv) s50,(List.map (Ls s6.Pv) s50).length,true,1,true⟩)]) (λj83 h=>?_) λκ82 h=>?_
    .refine S5 2 J ?_;refine U9 (ZP 35 J)<|y0 J (H5 (f:=(Ls s6.Pv)) (l:=[j83]) J gZ jh Lb J J nl J J)<|s7 h λv84 hv59 h=>I2 J (F7 (f:=(Ls s6.Pv)) hv59 J J J J J J (.inl ⟨_,J,J⟩) gZ jh Sa Lb J (λ_=>J)) J J J<|S2 1 J ?_;exact eJ h W
    .refine S4 1 J ?_;refine c8<|lq h (λq=>St.of [(0,.L (Ls k8.Pv) a0),(3,.sl 910003),(4,.I s49),(5,.sl 910005),(6,.I q.1)] [(910003,⟨List.map (Ls s6.Pv) s50,(List.map (Ls s6.Pv) s50).length,true,1,true⟩),(910005,⟨List.map s6.Pv q.2,(List.map s6.Pv q.2).length,true,4,true⟩)]) (Wk.trans (D7 (t:=5) (l:=920005) (z:=4) J J) (Wk.trans (n0 _ [910003]) (WP (λl=>if l=910005 then 920005 else l)))) λq89 x88 h hx62=>?_;obtain⟨s86,s87⟩:=q89;refine c7<|S3 3 J<|iL h J J fS pJ λv90 hv63 h=>S1 1 J<|nL J fe<|S2 1 J ?_;refine cN h (λhc h=>?_) λhc h=>?_
     .refine b8 ?_;refine c7<|c8<|S5 3 J<|y0 J (u7 (f:=(Ls k8.Pv)) (cs:=[.L k8.Pv v90]) hv63 J J fS pJ J J)<|S1 2 J<|iL h J J fe gv λv91 _ h=>S1 1 J<|y0 J (H5 (f:=s6.Pv) (l:=[(⟨v91.Kind,v91.A,v91.B,v91.C⟩:s6)]) J ff de sI J J nl J J)<|s7 h λv92 hv65 h=>I2 J (F7 (f:=s6.Pv) hv65 J J J J J J (.inl ⟨_,J,J⟩) ff de RZ sI J (λ_=>J)) J J J<|S2 1 J<|S6 3 J ?_;exact eL h (Wk.trans (n0 _ [910003,33]) (WP (λl=>if l=910005 then 33 else l)))
     .refine n9 ?_;refine b9<|b9<|j5 ?_;have h:=xL hx62 h;exact eJ h (Wk.trans (n0 _ [910003,910005]) W)
  .refine n9 ?_;refine b9<|b9<|j5 ?_;have h:=xL hx36 h;exact eJ h (Wk.trans (n0 _ [910003]) W)
theorem uw{a0}:PO prog 55 [s6.Pv a0] (T3 a0) λr=>.bool r:=by
 refine pO func55 λr h _ _=>?_;unfold T3 at h;refine S4 2 J<|S3 4 J<|g8 J (λhg=>oF J MK J)<|g8 J (λhg=>oS (ct hg) J J x6 J)<|g8 J (λhg=>r9 (ct hg) J J)<|y0 J (w8 J J J (λq=>V0 q))<|S2 1 J<|a8 ?_;cases h;exact f1
theorem Q8{a0 a1 a2 a3}:PO prog 100 [.I a0,.I a1,.I a2,.I a3] (bM a0 a1 a2 a3) λr=>.I r:=by
 refine pO func100 λr h _ _=>?_;refine S4 1 J<|c7<|S3 4 J<|g8 J (λhg=>mI J)<|g8 J (λhg=>mI J)<|g8 J (λhg=>r9 (ct hg) (ct hg) J)<|y0 J (y5 J J J (λq=>P1 q))<|yN ?_;refine cN h (λhc h=>?_) λhc h=>?_
 .refine S4 2 J ?_;refine a8 ?_;cases h;exact f1
 .refine b8 ?_;refine S4 1 J<|a8 ?_;cases h;exact f1
theorem Y7{a0 a1 a2}:PO prog 101 [.I a0,.I a1,.I a2] (ah a0 a1 a2) λr=>.I r:=by
 refine pO func101 λr h _ _=>?_;refine S4 1 J<|c7<|S4 2 J ?_;refine cN h (λhc h=>?_) λhc h=>?_
 .refine S4 2 J ?_;refine a8 ?_;cases h;exact f1
 .refine b8 ?_;refine c7<|S4 2 J ?_;refine cN h (λhc h=>?_) λhc h=>?_
  .refine S4 2 J ?_;refine a8 ?_;cases h;exact f1
  .refine b8 ?_;refine S4 2 J<|a8 ?_;cases h;exact f1
theorem nc{a0}:PO prog 56 [s6.Pv a0] (bt a0) λr=>.I r:=by
 refine pO func56 λr h _ _=>?_;refine S4 2 J<|S3 2 J<|cA h Q8 J J λv1 _ h=>S2 1 J<|S3 2 J<|cA h Q8 J J λv2 _ h=>S2 1 J<|c7<|S4 2 J<|c8<|S4 2 J ?_;refine cN h (λhc h=>?_) λhc h=>?_
 .refine dr [] p8 (by kernel_rfl) (by kernel_rfl) ?_;refine S7 3 J<|s7 h λv3 hv3 h=>d2 J (B7 J Q8 J hv3) J<|S7 2 J<|s7 h λv4 hv4 h=>d2 J (B7 J Q8 J hv4) J<|s7 h λv5 hv5 h=>d2 J (B7 J Y7 J hv5) J<|S8 1 J<|a8 ?_;cases h;exact f1
 .refine jq h (λj7=>St.of [(1,.ptr 1 0 0),(3,.I v1),(4,.I v2),(12,.I a0.Kind),(23,.bool j7)] [(1,vR (s6.Pv a0) 4)]) (λj7 h=>?_) λκ6 h=>?_
  .refine cN h (λhc h=>?_) λhc h=>?_
   .refine S3 2 J ?_;refine cA h Y7 J J λv8 _ h=>S2 1 J<|a8 ?_;cases h;exact f1
   .refine S4 2 J ?_;refine cN h (λhc h=>?_) λhc h=>?_
    .refine S4 2 J ?_;refine a8 ?_;cases h;exact f1
    .refine S4 2 J ?_;refine cN h (λhc h=>?_) λhc h=>?_
     .refine S3 4 J ?_;refine cA h Q8 J J λv9 _ h=>cA h Y7 J J λv10 _ h=>S2 1 J<|a8 ?_;cases h;exact f1
     .refine S4 2 J ?_;refine cN h (λhc h=>?_) λhc h=>?_
      .refine dr [] p8 (by kernel_rfl) (by kernel_rfl) ?_;refine S7 3 J<|s7 h λv11 hv10 h=>d2 J (B7 J Q8 J hv10) J<|S7 2 J<|s7 h λv12 hv11 h=>d2 J (B7 J Q8 J hv11) J<|s7 h λv13 hv12 h=>d2 J (B7 J Y7 J hv12) J<|S8 1 J<|a8 ?_;cases h;exact f1
      .refine S4 2 J ?_;refine cN h (λhc h=>?_) λhc h=>?_
       .refine dr [] p8 (by kernel_rfl) (by kernel_rfl) ?_;refine S7 2 J<|s7 h λv14 hv13 h=>d2 J (B7 J Q8 J hv13) J<|S7 2 J<|s7 h λv15 hv14 h=>d2 J (B7 J Q8 J hv14) J<|S7 2 J<|s7 h λv16 hv15 h=>d2 J (B7 J Q8 J hv15) J<|s7 h λv17 hv16 h=>d2 J (B7 J Y7 J hv16) J<|S8 1 J<|a8 ?_;cases h;exact f1
       .refine S4 2 J ?_;refine cN h (λhc h=>?_) λhc h=>?_
        .refine S3 3 J ?_;refine cA h Q8 J J λv18 _ h=>cA h Y7 J J λv19 _ h=>S2 1 J<|a8 ?_;cases h;exact f1
        .refine S4 2 J ?_;refine cN h (λhc h=>?_) λhc h=>?_
         .refine S3 3 J ?_;refine cA h Q8 J J λv20 _ h=>cA h Y7 J J λv21 _ h=>S2 1 J<|a8 ?_;cases h;exact f1
         .refine S4 2 J ?_;refine cN h (λhc h=>?_) λhc h=>?_
          .refine S4 1 J ?_;refine a8 ?_;cases h;exact f1
          .refine S4 2 J ?_;refine cN h (λhc h=>?_) λhc h=>?_
           .refine S3 2 J ?_;refine cA h Q8 J J λv22 _ h=>S2 1 J<|a8 ?_;cases h;exact f1
           .refine b8 ?_;refine S4 1 J<|a8 ?_;cases h;exact f1
  .refine S4 2 J ?_;refine cN h (λhc h=>?_) λhc h=>?_
   .refine b8 ?_;exact eJ h W
   .refine S4 2 J ?_;refine cN h (λhc h=>?_) λhc h=>?_
    .refine b8 ?_;exact eJ h W
    .refine S6 2 J ?_;exact eJ h W
theorem ER{a0}:PO prog 20 [.L (Ls s6.Pv) a0] (gS a0) λr=>.bool r:=by
 refine pO func20 λr h _ _=>?_;refine S4 1 J<|c7<|S3 1 J<|nL J gZ<|S2 1 J ?_;refine cN h (λhc h=>?_) λhc h=>?_
 .refine S4 1 J ?_;refine a8 ?_;cases h;exact f1
 .refine b8 ?_;refine jq h (λ_=>St.of [] []) (λq21 h=>?_) λκ20 h=>?_
  .refine S4 1 J ?_;refine a8 ?_;cases h;exact f1
  .refine S4 1 J ?_;refine c8<|lq h (λs23=>St.of [(0,.L (Ls s6.Pv) a0),(3,.I s23)] []) W λs23 x24 h hx22=>c7<|S3 2 J<|nL J gZ<|S2 1 J ?_;refine cN h (λhc h=>?_) λhc h=>?_
   .refine b8 ?_;refine jq h (λ_=>St.of [(0,.L (Ls s6.Pv) a0),(3,.I s23)] []) (λq33 h=>?_) λκ32 h=>?_
    .refine S6 3 J ?_;exact eL h W
    .refine c8 ?_;refine c7<|S3 2 J<|iL h J J gZ jh λv34 hv31 h=>S1 1 J<|nL J ff<|S2 1 J ?_;refine cN h (λhc h=>?_) λhc h=>?_
     .refine S4 1 J ?_;refine a8 ?_;have h:=xL hx22 h;cases h;exact f1
     .refine b8 ?_;refine S4 1 J<|c8<|lq h (λs36=>St.of [(0,.L (Ls s6.Pv) a0),(3,.I s23),(4,.I s36)] []) W λs36 x37 h hx34=>c7<|S3 3 J<|y0 J (u7 (f:=(Ls s6.Pv)) (cs:=[.L s6.Pv v34]) hv31 J J gZ jh J J)<|S1 1 J<|nL J ff<|S2 1 J ?_;refine cN h (λhc h=>?_) λhc h=>?_
      .refine b8 ?_;refine c7<|c8<|S3 2 J<|y0 J (u7 (f:=(Ls s6.Pv)) (cs:=[.L s6.Pv v34]) hv31 J J gZ jh J J)<|S1 2 J<|iL h J J ff de λv38 hv35 h=>S1 1 J<|cA h uw J J λv39 _ h=>S1 2 J<|g8 J (λhg=>om (d:=.L (Ls s6.Pv) a0) J)<|g8 J (λhg=>mI J)<|g8 J (λhg=>u7 (f:=(Ls s6.Pv)) (cs:=[.L s6.Pv v34]) hv31 (ct hg) (ct hg) gZ jh J J)<|g8 J (λhg=>D6 (ct hg) RX J)<|g8 J (λhg=>mI J)<|g8 J (λhg=>u7 (f:=s6.Pv) (cs:=s6.Pc v38) hv35 (ct hg) (ct hg) ff de J J)<|g8 J (λhg=>la (ct hg) xq de nl J)<|s7 h λv40 hv37 h=>g8 J (λhg=>B7 J nc (A3 (ct hg) J) (C8 hv37 hg))<|g8 J (λhg=>r9 (ct hg) J J)<|y0 J (y5 J J J (λq=>P1 q))<|yN ?_;refine cN h (λhc h=>?_) λhc h=>?_
       .refine S4 1 J ?_;refine a8 ?_;have h:=xL hx34 h;have h:=xL hx22 h;cases h;exact f1
       .refine b8 ?_;refine S6 3 J ?_;exact eL h W
      .refine n9 ?_;refine b9<|b9<|j5 ?_;have h:=xL hx34 h;exact eJ h W
   .refine n9 ?_;refine b9<|b9<|j5 ?_;have h:=xL hx22 h;exact eJ h W
theorem Br{a0}:PO prog 88 [k8.Pv a0] (rG a0) λr=>.bool r:=by
 refine pO func88 λr h _ _=>?_;unfold rG at h;refine S4 2 J<|S3 4 J<|g8 J (λhg=>oF J MM J)<|g8 J (λhg=>oS (ct hg) J J x6 J)<|g8 J (λhg=>r9 (ct hg) J J)<|y0 J (w8 J J J (λq=>V0 q))<|S2 1 J<|a8 ?_;cases h;exact f1
theorem C2:PO prog 232 [.fn (.func 233) []] (au) λr=>k9.Pv r:=by
 refine pO func232 λr h _ _=>?_;unfold au at h;refine S4 1 J<|S3 1 J<|y0 J (p9 (cs:=[.fn (.func 233) [],.I 0,.I 5,.I 6]) J dd L3 J J J)<|U9 (nV 4 (d':=.agg [tg (some 233),.I 0,.I 5,.I 6]) J)<|S2 1 J<|a8 ?_;cases h;exact⟨J,[_],⟨oL J J J gu M1 nl J,tr⟩,J,io⟩
theorem aA:PO prog 235 [.fn (.func 236) []] (U2) λr=>k9.Pv r:=by
 refine pO func235 λr h _ _=>?_;unfold U2 at h;refine S4 1 J<|S3 1 J<|y0 J (p9 (cs:=[.fn (.func 236) [],.I (-1),.I 5,.I 13]) J dd L3 J J J)<|U9 (nV 4 (d':=.agg [tg (some 236),.I (-1),.I 5,.I 13]) J)<|S2 1 J<|a8 ?_;cases h;exact⟨J,[_],⟨oL J J J gu M1 nl J,tr⟩,J,io⟩
theorem F6{a0}:PO prog 231 [.L k9.Pv a0] (K8 a0) λr=>.L k9.Pv r:=by
 refine pO func231 λr h _ _=>?_;unfold K8 at h;refine S4 1 J<|S4 2 J<|a8 ?_;cases h;exact f1
theorem M3:PO prog 232 [.fn (.func 234) []] (aw) λr=>k9.Pv r:=by
 refine pO func232 λr h _ _=>?_;unfold aw at h;refine S4 1 J<|S3 1 J<|y0 J (p9 (cs:=[.fn (.func 234) [],.I 0,.I 5,.I 6]) J dd L3 J J J)<|U9 (nV 4 (d':=.agg [tg (some 234),.I 0,.I 5,.I 6]) J)<|S2 1 J<|a8 ?_;cases h;exact⟨J,[_],⟨oL J J J gu M1 nl J,tr⟩,J,io⟩
theorem jd:PO prog 237 [.fn (.func 236) []] (Y2) λr=>k9.Pv r:=by
 refine pO func237 λr h _ _=>?_;unfold Y2 at h;refine S4 1 J<|S3 1 J<|y0 J (p9 (cs:=[.fn (.func 236) [],.I 0,.I 3,.I 5]) J dd L3 J J J)<|U9 (nV 4 (d':=.agg [tg (some 236),.I 0,.I 3,.I 5]) J)<|S2 1 J<|a8 ?_;cases h;exact⟨J,[_],⟨oL J J J gu M1 nl J,tr⟩,J,io⟩
theorem jc:PO prog 237 [.fn (.func 234) []] (Y1) λr=>k9.Pv r:=by
 refine pO func237 λr h _ _=>?_;unfold Y1 at h;refine S4 1 J<|S3 1 J<|y0 J (p9 (cs:=[.fn (.func 234) [],.I 0,.I 3,.I 5]) J dd L3 J J J)<|U9 (nV 4 (d':=.agg [tg (some 234),.I 0,.I 3,.I 5]) J)<|S2 1 J<|a8 ?_;cases h;exact⟨J,[_],⟨oL J J J gu M1 nl J,tr⟩,J,io⟩
theorem eD:PO prog 238 [.fn (.func 236) []] (Q2) λr=>k9.Pv r:=by
 refine pO func238 λr h _ _=>?_;unfold Q2 at h;refine S4 1 J<|S3 1 J<|y0 J (p9 (cs:=[.fn (.func 236) [],.I (-1),.I 5,.I 6]) J dd L3 J J J)<|U9 (nV 4 (d':=.agg [tg (some 236),.I (-1),.I 5,.I 6]) J)<|S2 1 J<|a8 ?_;cases h;exact⟨J,[_],⟨oL J J J gu M1 nl J,tr⟩,J,io⟩
theorem kg:PO prog 239 [.fn (.func 233) []] (aq) λr=>k9.Pv r:=by
 refine pO func239 λr h _ _=>?_;unfold aq at h;refine S4 1 J<|S3 1 J<|y0 J (p9 (cs:=[.fn (.func 233) [],.I 0,.I 5,.I 7]) J dd L3 J J J)<|U9 (nV 4 (d':=.agg [tg (some 233),.I 0,.I 5,.I 7]) J)<|S2 1 J<|a8 ?_;cases h;exact⟨J,[_],⟨oL J J J gu M1 nl J,tr⟩,J,io⟩
theorem V7:PO prog 238 [.fn (.func 234) []] (Q1) λr=>k9.Pv r:=by
 refine pO func238 λr h _ _=>?_;unfold Q1 at h;refine S4 1 J<|S3 1 J<|y0 J (p9 (cs:=[.fn (.func 234) [],.I (-1),.I 5,.I 6]) J dd L3 J J J)<|U9 (nV 4 (d':=.agg [tg (some 234),.I (-1),.I 5,.I 6]) J)<|S2 1 J<|a8 ?_;cases h;exact⟨J,[_],⟨oL J J J gu M1 nl J,tr⟩,J,io⟩
theorem kh:PO prog 239 [.fn (.func 234) []] (ar) λr=>k9.Pv r:=by
 refine pO func239 λr h _ _=>?_;unfold ar at h;refine S4 1 J<|S3 1 J<|y0 J (p9 (cs:=[.fn (.func 234) [],.I 0,.I 5,.I 7]) J dd L3 J J J)<|U9 (nV 4 (d':=.agg [tg (some 234),.I 0,.I 5,.I 7]) J)<|S2 1 J<|a8 ?_;cases h;exact⟨J,[_],⟨oL J J J gu M1 nl J,tr⟩,J,io⟩
theorem xd:PO prog 147 [] (mn) λr=>.abs (Z0 (List.map (iq iF (Ls k9.Pv)) r)):=by
 refine pO func147 λr h _ _=>?_;refine S4 1 J<|sR<|IF (KT:=Int) (VT:=List k9) (EK:=iF) (E:=(Ls k9.Pv)) 5000001 J J<|cF h C2 J J λv1 hv1 h=>y0 J (p9 (cs:=[.fn (.func 234) [],.I 0,.I 4,.I 1]) J dd L3 J J J)<|U9 (nV 3 (d':=.agg [tg (some 234),.I 0,.I 4,.I 1]) J)<|cF h aA J J λv2 hv2 h=>y0 J (H5 (f:=k9.Pv) (l:=[v1,(⟨(some 234),0,4,1⟩:k9),v2]) J bf M1 L3 J J nl J J)<|cF h F6 J J λv3 _ h=>bO (es:=[]) (k:=1) (v:=v3) (E:=(Ls k9.Pv)) (EK:=iF) (.inr J) J J J J J J V5 (C3 N3)<|yc J (x4 J C2 J hv1)<|cF h M3 J J λv4 hv4 h=>y0 J (H5 (f:=k9.Pv) (l:=[v1,v4]) J bf M1 L3 J J nl J J)<|cF h F6 J J λv5 hv5 h=>bO (es:=(u9 [] 1 v3)) (k:=2) (v:=v5) (E:=(Ls k9.Pv)) (EK:=iF) (.inr J) J J J J J J V5 (C3 N3)<|yc J (x4 J C2 J hv1)<|y0 J (H5 (f:=k9.Pv) (l:=[v1]) J bf M1 L3 J J nl J J)<|cF h F6 J J λv6 _ h=>bO (es:=(u9 (u9 [] 1 v3) 2 v5)) (k:=3) (v:=v6) (E:=(Ls k9.Pv)) (EK:=iF) (.inr J) J J J J J J V5 (C3 N3)<|yc J (x4 J C2 J hv1)<|yc J (x4 J M3 J hv4)<|cF h jd J J λv7 _ h=>y0 J (H5 (f:=k9.Pv) (l:=[v1,v4,v7]) J bf M1 L3 J J nl J J)<|cF h F6 J J λv8 _ h=>bO (es:=(u9 (u9 (u9 [] 1 v3) 2 v5) 3 v6)) (k:=4) (v:=v8) (E:=(Ls k9.Pv)) (EK:=iF) (.inr J) J J J J J J V5 (C3 N3)<|yc J (x4 J C2 J hv1)<|cF h jc J J λv9 _ h=>cF h eD J J λv10 _ h=>y0 J (H5 (f:=k9.Pv) (l:=[v1,v9,v10]) J bf M1 L3 J J nl J J)<|cF h F6 J J λv11 _ h=>?_;refine bO (es:=(u9 (u9 (u9 (u9 [] 1 v3) 2 v5) 3 v6) 4 v8)) (k:=5) (v:=v11) (E:=(Ls k9.Pv)) (EK:=iF) (.inr J) J J J J J J V5 (C3 N3)<|cF h kg J J λv12 _ h=>cF h V7 J J λv13 hv13 h=>yc J (x4 J aA J hv2)<|y0 J (H5 (f:=k9.Pv) (l:=[v12,v13,v2]) J bf M1 L3 J J nl J J)<|cF h F6 J J λv14 _ h=>bO (es:=(u9 (u9 (u9 (u9 (u9 [] 1 v3) 2 v5) 3 v6) 4 v8) 5 v11)) (k:=6) (v:=v14) (E:=(Ls k9.Pv)) (EK:=iF) (.inr J) J J J J J J V5 (C3 N3)<|yc J (x4 J C2 J hv1)<|cF h kh J J λv15 _ h=>y0 J (H5 (f:=k9.Pv) (l:=[v1,v15]) J bf M1 L3 J J nl J J)<|cF h F6 J J λv16 _ h=>bO (es:=(u9 (u9 (u9 (u9 (u9 (u9 [] 1 v3) 2 v5) 3 v6) 4 v8) 5 v11) 6 v14)) (k:=7) (v:=v16) (E:=(Ls k9.Pv)) (EK:=iF) (.inr J) J J J J J J V5 (C3 N3)<|yc J (x4 J C2 J hv1)<|yc J (x4 J V7 J hv13)<|y0 J (H5 (f:=k9.Pv) (l:=[v1,v13]) J bf M1 L3 J J nl J J)<|cF h F6 J J λv17 _ h=>bO (es:=(u9 (u9 (u9 (u9 (u9 (u9 (u9 [] 1 v3) 2 v5) 3 v6) 4 v8) 5 v11) 6 v14) 7 v16)) (k:=8) (v:=v17) (E:=(Ls k9.Pv)) (EK:=iF) (.inr J) J J J J J J V5 (C3 N3)<|yc J (x4 J C2 J hv1)<|yc J (x4 J M3 J hv4)<|y0 J (H5 (f:=k9.Pv) (l:=[v1,v4]) J bf M1 L3 J J nl J J)<|yc J (x4 J F6 J hv5)<|bO (es:=(u9 (u9 (u9 (u9 (u9 (u9 (u9 (u9 [] 1 v3) 2 v5) 3 v6) 4 v8) 5 v11) 6 v14) 7 v16) 8 v17)) (k:=9) (v:=v5) (E:=(Ls k9.Pv)) (EK:=iF) (.inr J) J J J J J J V5 (C3 N3)<|yc J (x4 J C2 J hv1)<|yc J (x4 J M3 J hv4)<|y0 J (H5 (f:=k9.Pv) (l:=[v1,v4]) J bf M1 L3 J J nl J J)<|yc J (x4 J F6 J hv5)<|bO (es:=(u9 (u9 (u9 (u9 (u9 (u9 (u9 (u9 (u9 [] 1 v3) 2 v5) 3 v6) 4 v8) 5 v11) 6 v14) 7 v16) 8 v17) 9 v5)) (k:=10) (v:=v5) (E:=(Ls k9.Pv)) (EK:=iF) (.inr J) J J J J J J V5 (C3 N3)<|cF h F6 J J λv18 _ h=>bO (es:=(u9 (u9 (u9 (u9 (u9 (u9 (u9 (u9 (u9 (u9 [] 1 v3) 2 v5) 3 v6) 4 v8) 5 v11) 6 v14) 7 v16) 8 v17) 9 v5) 10 v5)) (k:=11) (v:=v18) (E:=(Ls k9.Pv)) (EK:=iF) (.inr J) J J J J J J V5 (C3 N3)<|y0 J (p9 (cs:=[.fn (.func 233) [],.I 0,.I 200,.I 12]) J dd L3 J J J) ?_;refine U9 (nV 46 (d':=.agg [tg (some 233),.I 0,.I 200,.I 12]) J)<|y0 J (H5 (f:=k9.Pv) (l:=[(⟨(some 233),0,200,12⟩:k9)]) J bf M1 L3 J J nl J J)<|cF h F6 J J λv19 _ h=>bO (es:=(u9 (u9 (u9 (u9 (u9 (u9 (u9 (u9 (u9 (u9 (u9 [] 1 v3) 2 v5) 3 v6) 4 v8) 5 v11) 6 v14) 7 v16) 8 v17) 9 v5) 10 v5) 11 v18)) (k:=12) (v:=v19) (E:=(Ls k9.Pv)) (EK:=iF) (.inr J) J J J J J J V5 (C3 N3)<|S2 2 J<|fL (KB 0 5000001 J J)<|a8 ?_;cases h;exact f1
theorem qY{a0}:PO prog 233 [k8.Pv a0] (rH a0) λr=>.I r:=by
 refine pO func233 λr h _ _=>?_;unfold rH at h;refine S4 2 J<|S4 3 J<|a8 ?_;cases h;exact f1
theorem qZ{a0}:PO prog 234 [k8.Pv a0] (rI a0) λr=>.I r:=by
 refine pO func234 λr h _ _=>?_;unfold rI at h;refine S4 2 J<|S4 3 J<|a8 ?_;cases h;exact f1
theorem ra{a0}:PO prog 236 [k8.Pv a0] (rJ a0) λr=>.I r:=by
 refine pO func236 λr h _ _=>?_;unfold rJ at h;refine S4 2 J<|S4 3 J<|a8 ?_;cases h;exact f1
theorem Jn{f:Fv}{a0:k8}{r:Int}(h:th f a0=some r):∃n,f=some n/\D3 prog n/\aj prog n [k8.Pv a0] (.I r):=by
 unfold th at h;by_cases e233:f=some 233
 .rw[zb e233] at h;exact⟨233,e233,(@qY a0).1,(@qY a0).2 _ h⟩
 rw[za e233] at h;by_cases e234:f=some 234
 .rw[zb e234] at h;exact⟨234,e234,(@qZ a0).1,(@qZ a0).2 _ h⟩
 rw[za e234] at h;by_cases e236:f=some 236
 .rw[zb e236] at h;exact⟨236,e236,(@ra a0).1,(@ra a0).2 _ h⟩
 rw[za e236] at h;cases h
theorem kf{a0}:PO prog 89 [k8.Pv a0] (aI a0) λr=>.I r:=by
 refine pO func89 λr h _ _=>?_;unfold aI at h;refine S4 2 J<|dr [] p8 (by kernel_rfl) (by kernel_rfl)<|s7 h λv1 hv1 h=>ax J (x4 J xd J hv1) J<|S7 2 J<|d4 J (Hf (es:=v1) (k:=a0.Kind) (E:=(Ls k9.Pv)) (EK:=iF) (d:=.tup [.L k9.Pv ((D1 v1 a0.Kind).getD ([]:List k9)),.bool ((D1 v1 a0.Kind).isSome)]) J J V5 (C3 N3) SU J (lk2 _ _ ([]:List k9))) J<|S8 5 J<|c7<|S4 2 J ?_;refine cN h (λhc h=>?_) λhc h=>?_
 .refine S4 1 J ?_;refine a8 ?_;cases h;exact f1
 .refine b8 ?_;refine jq h (λ_=>St.of [] []) (λq9 h=>?_) λκ8 h=>?_
  .refine S4 1 J ?_;refine a8 ?_;cases h;exact f1
  .refine S3 1 J ?_;refine nL J bf<|S2 1 J<|c8<|lq h (λs11=>St.of [(1,.ptr 1 0 0),(17,.L k9.Pv ((D1 v1 a0.Kind).getD ([]:List k9))),(18,.I (((D1 v1 a0.Kind).getD ([]:List k9)).length:Int)),(19,.I s11)] [(1,vR (k8.Pv a0) 4)]) W λs11 x12 h hx13=>S4 1 J<|c7 ?_;refine cN h (λhc h=>?_) λhc h=>?_
   .refine b8 ?_;refine c7<|c8<|sR<|iL h J J bf M1 λv13 _ h=>S2 3 J<|S3 3 J ?_;obtain⟨v14,hv15,h⟩:=oz h;obtain⟨n15,he16,hk17,hp18⟩:=Jn hv15;refine U9 (VP 24 J he16)<|y0 J (JC J hk17 J hp18)<|S2 1 J<|S3 5 J<|g8 J (λhg=>mI J)<|g8 J (λhg=>oF J MW J)<|g8 J (λhg=>oS (ct hg) J J x6 J)<|g8 J (λhg=>r9 (ct hg) (ct hg) J)<|y0 J (y5 J J J (λq=>P1 q))<|yN ?_;refine cN h (λhc h=>?_) λhc h=>?_
    .refine S4 3 J ?_;refine a8 ?_;have h:=xL hx13 h;cases h;exact f1
    .refine b8 ?_;refine S6 2 J ?_;exact eL h W
   .refine n9 ?_;refine b9<|b9<|j5 ?_;have h:=xL hx13 h;exact eJ h W
theorem Bs{a0}:PO prog 42 [.L (Ls k8.Pv) a0] (yv a0) λr=>.bool r:=by
 refine pO func42 λr h _ _=>?_;refine S4 1 J<|c7<|S3 1 J<|nL J fS<|S2 1 J ?_;refine cN h (λhc h=>?_) λhc h=>?_
 .refine S4 1 J ?_;refine a8 ?_;cases h;exact f1
 .refine b8 ?_;refine jq h (λ_=>St.of [] []) (λq21 h=>?_) λκ20 h=>?_
  .refine S4 1 J ?_;refine a8 ?_;cases h;exact f1
  .refine S3 1 J ?_;refine nL J fS<|S2 1 J<|c8<|lq h (λs23=>St.of [(10,.L (Ls k8.Pv) a0),(11,.I (a0.length:Int)),(12,.I s23)] []) W λs23 x24 h hx22=>S4 1 J<|c7 ?_;refine cN h (λhc h=>?_) λhc h=>?_
   .refine b8 ?_;refine jq h (λ_=>St.of [(10,.L (Ls k8.Pv) a0),(11,.I (a0.length:Int)),(12,.I s23)] []) (λq33 h=>?_) λκ32 h=>?_
    .refine S6 2 J ?_;exact eL h W
    .refine c8 ?_;refine sR<|iL h J J fS pJ λv34 _ h=>S2 2 J<|c7<|S3 1 J<|nL J fe<|S2 1 J ?_;refine cN h (λhc h=>?_) λhc h=>?_
     .refine S4 1 J ?_;refine a8 ?_;have h:=xL hx22 h;cases h;exact f1
     .refine b8 ?_;refine S3 1 J<|nL J fe<|S2 1 J<|c8<|lq h (λs36=>St.of [(10,.L (Ls k8.Pv) a0),(11,.I (a0.length:Int)),(12,.I s23),(19,.L k8.Pv v34),(20,.I (v34.length:Int)),(21,.I s36)] []) W λs36 x37 h hx34=>S4 1 J<|c7 ?_;refine cN h (λhc h=>?_) λhc h=>?_
      .refine b8 ?_;refine c7<|c8<|sR<|iL h J J fe gv λv38 _ h=>S2 3 J<|S3 1 J<|cA h Br J J λv39 _ h=>S1 2 J<|g8 J (λhg=>oL J J J xr gv nl J)<|s7 h λv40 hv37 h=>g8 J (λhg=>B7 J kf (A3 (ct hg) J) (C8 hv37 hg))<|g8 J (λhg=>r9 (ct hg) J J)<|y0 J (y5 J J J (λq=>P1 q))<|yN ?_;refine cN h (λhc h=>?_) λhc h=>?_
       .refine S4 1 J ?_;refine a8 ?_;have h:=xL hx34 h;have h:=xL hx22 h;cases h;exact f1
       .refine b8 ?_;refine S6 2 J ?_;exact eL h W
      .refine n9 ?_;refine b9<|b9<|j5 ?_;have h:=xL hx34 h;exact eJ h W
   .refine n9 ?_;refine b9<|b9<|j5 ?_;have h:=xL hx22 h;exact eJ h W
theorem oc{a0 a1}:PO prog 148 [.I a0,.I a1] (cH a0 a1) λr=>g6.Pv r:=by
 refine pO func148 λr h _ _=>?_;refine S4 1 J<|c7<|S3 3 J<|g8 J (λhg=>mI J)<|g8 J (λhg=>r9 (ct hg) J J)<|y0 J (y5 J J J (λq=>P1 q))<|S1 1 J<|g8 J (λhg=>mI J)<|g8 J (λhg=>r9 (ct hg) J J)<|y0 J (y5 J J J (λq=>P1 q))<|S1 1 J<|g8 J (λhg=>mI J)<|g8 J (λhg=>r9 (ct hg) J J)<|y0 J (y5 J J J (λq=>P1 q))<|yN ?_;refine cN h (λhc h=>?_) λhc h=>?_
 .refine sR ?_;refine y0 J (p9 (cs:=[.nl,.I 0]) J Ou OC J J J)<|ja (x':=.agg [.nl,.I 0]) (cl':=true) J J (.inl J) dg<|yN<|a8 ?_;cases h;exact⟨J,[_],⟨oL J J J fQ dg nl J,tr⟩,J,io⟩
 .refine b8 ?_;refine S3 1 J<|s7 h λv1 hv1 h=>y1 J (Hh (f:=c4.Pv) hv1 J J J O8 R7 pK KJ J J J) J<|S1 1 J<|y0 J (p9 (cs:=[.sl 21,.I a1]) J Ou OC J J J)<|S2 1 J<|a8 ?_;cases h;exact⟨J,[_],⟨oL J J J fQ dg nl J,tr⟩,J,io⟩
theorem FD{a0 a1}:PO prog 90 [.I a0,.I a1] (qA a0 a1) λr=>a7.Pv r:=by
 refine pO func90 λr h _ _=>?_;refine S4 1 J<|S3 2 J<|cF h oc J J λv1 _ h=>y0 J (p9 (cs:=[.L c4.Pv v1.Cells,.I v1.Last,.I 0]) J Ov OD J J J)<|S2 1 J<|a8 ?_;cases h;exact⟨J,[_],⟨oL J J J lZ mf nl J,tr⟩,J,io⟩
theorem IC{a0}:PO prog 91 [.I a0] (IB a0) λr=>.L g9.Pv r:=by
 refine pO func91 λr h _ _=>?_;refine S4 1 J<|c7<|S3 3 J<|g8 J (λhg=>mI J)<|g8 J (λhg=>r9 (ct hg) J J)<|y0 J (y5 J J J (λq=>P1 q))<|yN ?_;refine cN h (λhc h=>?_) λhc h=>?_
 .refine S4 1 J ?_;refine a8 ?_;cases h;exact f1
 .refine b8 ?_;refine S3 1 J<|s7 h λv1 hv1 h=>y1 J (Hh (f:=g9.Pv) hv1 J J J U1 Y0 Dq KL J J J) J<|S2 1 J ?_;refine jq h (λj9=>St.of [(3,.sl 12)] [(12,⟨List.map g9.Pv j9,0,true,3,true⟩)]) (λj9 h=>?_) λκ8 h=>?_
  .refine S4 2 J ?_;refine a8 ?_;cases h;exact f1
  .refine S3 1 J ?_;refine y0 J (Hg (f:=g9.Pv) J J J U1)<|S2 1 J<|c8<|lq h (λq=>St.of [(3,.sl 12),(14,.I (v1.length:Int)),(15,.I q.1)] [(12,⟨List.map g9.Pv q.2,0,true,3,true⟩)]) W λq14 x13 h hx9=>?_;obtain⟨s11,s12⟩:=q14;refine S4 1 J<|c7 ?_;refine cN h (λhc h=>?_) λhc h=>?_
   .refine b8 ?_;refine c7<|c8<|S4 2 J<|S5 2 J<|s7 h λv15 hv10 h=>y0 J (aN (f:=g9.Pv) hv10 J J J J U1 Y0 J)<|S1 1 J<|iZ (f:=g9.Pv) (v:=(⟨v15.Target,v15.Intact,(-1)⟩:g9)) hv10 J J (.inl J) m7<|yN<|S6 2 J ?_;exact eL h W
   .refine n9 ?_;refine b9<|b9<|j5 ?_;have h:=xL hx9 h;exact eJ h W
theorem GN{a0}:PO prog 92 [.I a0] (tu a0) λr=>.L c9.Pv r:=by
 refine pO func92 λr h _ _=>?_;refine S4 1 J<|c7<|S3 3 J<|g8 J (λhg=>mI J)<|g8 J (λhg=>r9 (ct hg) J J)<|y0 J (y5 J J J (λq=>P1 q))<|yN ?_;refine cN h (λhc h=>?_) λhc h=>?_
 .refine S4 1 J ?_;refine a8 ?_;cases h;exact f1
 .refine b8 ?_;refine S3 1 J<|s7 h λv1 hv1 h=>y1 J (Hh (f:=c9.Pv) hv1 J J J al bg xw KM J J J) J<|S2 1 J<|a8 ?_;cases h;exact f1
theorem mT{a0}:PO prog 149 [.I a0] (bK a0) λr=>g7.Pv r:=by
 refine pO func149 λr h _ _=>?_;unfold bK at h;refine S4 1 J<|S3 1 J<|y0 J (p9 (cs:=[.nl,.I a0]) J Wa Wf J J J)<|ja (x':=.agg [.nl,.I a0]) (cl':=true) J J (.inl J) dh<|yN<|a8 ?_;cases h;exact⟨J,[_],⟨oL J J J jZ dh nl J,tr⟩,J,io⟩
theorem Ip:PO prog 93 [] (Io) λr=>g7.Pv r:=by
 refine pO func93 λr h _ _=>?_;refine S4 1 J<|sR<|cF h mT J J λv1 _ h=>S2 1 J<|a8 ?_;cases h;exact⟨J,[_],⟨oL J J J jZ dh nl J,tr⟩,J,io⟩
theorem GQ{a0 a1 a2}:PO prog 43 [.I a0,.I a1,.I a2] (oO a0 a1 a2) λr=>b7.Pv r:=by
 refine pO func43 λr h _ _=>?_;refine S4 1 J<|c7<|S3 3 J<|g8 J (λhg=>mI J)<|g8 J (λhg=>r9 (ct hg) J J)<|y0 J (y5 J J J (λq=>P1 q))<|S1 1 J<|g8 J (λhg=>mI J)<|g8 J (λhg=>r9 (ct hg) J J)<|y0 J (y5 J J J (λq=>P1 q))<|S1 1 J<|g8 J (λhg=>mI J)<|g8 J (λhg=>r9 (ct hg) J J)<|y0 J (y5 J J J (λq=>P1 q))<|S1 1 J<|g8 J (λhg=>mI J)<|g8 J (λhg=>r9 (ct hg) J J)<|y0 J (y5 J J J (λq=>P1 q))<|S1 1 J<|g8 J (λhg=>mI J)<|g8 J (λhg=>r9 (ct hg) J J)<|y0 J (y5 J J J (λq=>P1 q))<|yN ?_;refine cN h (λhc h=>?_) λhc h=>?_
 .refine sR ?_;refine y0 J (p9 (cs:=[.nl,.I 0,.I 0,.nl,.nl,.nl,.nl,.I 0]) J Ow OE J J J)<|ja (x':=.agg [.nl,.I 0,.I 0,.nl,.nl,.nl,.nl,.I 0]) (cl':=true) J J (.inl J) u4<|yN<|a8 ?_;cases h;exact⟨J,[_],⟨oL J J J y6 u4 nl J,tr⟩,J,io⟩
 .refine b8 ?_;refine dr [] p8 (by kernel_rfl) (by kernel_rfl)<|S7 2 J<|s7 h λv1 hv1 h=>ax J (x4 J FD J hv1) J<|s7 h λv2 hv2 h=>d1 J (Hh (f:=iF) hv2 J J J g5 m7 A0 F9 J J J) J J J<|s7 h λv3 hv3 h=>ax J (x4 J IC J hv3) J<|S7 1 J<|s7 h λv4 hv4 h=>ax J (x4 J GN J hv4) J<|s7 h λv5 hv5 h=>ax J (x4 J Ip J hv5) J<|d7 J (λ_ hN=>p9 (cs:=[.L c4.Pv v1.S.Cells,.I v1.S.Last,.I v1.Serial,.sl 33,.L g9.Pv v3,.L c9.Pv v4,.L l5.Pv v5.L,.I v5.Cap]) J Ow OE J J J) J<|B6 (x':=.agg [.L c4.Pv v1.S.Cells,.I v1.S.Last,.I v1.Serial,.sl 33,.L g9.Pv v3,.L c9.Pv v4,.L l5.Pv v5.L,.I v5.Cap]) (cl':=false) J J (.inr J) u4<|G6<|a8 ?_;cases h;exact⟨J,[_],⟨oL J J J y6 u4 nl J,tr⟩,J,io⟩
theorem ki{a0 a1 a2 a3}:PO prog 12 [.I a0,.I a1,.I a2,.L (Ls k8.Pv) a3] (ij a0 a1 a2 a3) λr=>.tup [p7.Pv r.1,.I r.2]:=by
 refine pO func12 λr h _ _=>?_;refine S4 2 J<|c7<|S3 1 J<|cA h Bs J J λv1 _ h=>S2 1 J ?_;refine cN h (λhc h=>?_) λhc h=>?_
 .refine sR ?_;refine y0 J (p9 (cs:=[.nl,.I 0,.I 0,.nl,.nl,.nl,.nl,.I 0,.nl]) J Di Ds J J J)<|ja (x':=.agg [.nl,.I 0,.I 0,.nl,.nl,.nl,.nl,.I 0,.nl]) (cl':=true) J J (.inl J) Q0<|S2 1 J<|a8 ?_;cases h;exact⟨J,[_,_],⟨oL J J J ak Q0 nl J,⟨J,tr⟩⟩,J,io⟩
 .refine b8 ?_;refine S3 3 J<|cF h GQ J J λv2 _ h=>S2 2 J<|c7<|S3 2 J<|nL J g5<|S2 1 J ?_;refine cN h (λhc h=>?_) λhc h=>?_
  .refine sR ?_;refine y0 J (p9 (cs:=[.nl,.I 0,.I 0,.nl,.nl,.nl,.nl,.I 0,.nl]) J Di Ds J J J)<|ja (x':=.agg [.nl,.I 0,.I 0,.nl,.nl,.nl,.nl,.I 0,.nl]) (cl':=true) J J (.inl J) Q0<|S2 1 J<|a8 ?_;cases h;exact⟨J,[_,_],⟨oL J J J ak Q0 nl J,⟨J,tr⟩⟩,J,io⟩
  .refine b8 ?_;refine S3 2 J<|y0 J (p9 (cs:=[.L c4.Pv v2.S.S.Cells,.I v2.S.S.Last,.I v2.S.Serial,.L iF v2.Roots,.L g9.Pv v2.Cells,.L c9.Pv v2.T,.L l5.Pv v2.Q.L,.I v2.Q.Cap,.L (Ls k8.Pv) a3]) J Di Ds J J J)<|S2 2 J<|a8 ?_;cases h;exact⟨J,[_,_],⟨oL J J J ak Q0 nl J,⟨J,tr⟩⟩,J,io⟩
end Go.Proofs.YtjlokngooekbcaaGreat.Ok
