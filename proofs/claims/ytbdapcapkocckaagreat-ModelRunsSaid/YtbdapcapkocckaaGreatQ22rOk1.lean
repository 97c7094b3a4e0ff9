/- A part. -/
import Derived.Test.YtbdapcapkocckaaGreatQ22rPwC
import Derived.Test.YtbdapcapkocckaaGreatQ22rPwD
import Derived.Test.YtbdapcapkocckaaGreatSrt
import Derived.Test.YtbdapcapkocckaaGreatQ22rSh
import Derived.Test.YtbdapcapkocckaaGreatProg
set_option linter.unusedVariables false
set_option linter.unusedSimpArgs false
set_option linter.unusedSectionVars false
namespace Go.Proofs.YtbdapcapkocckaaGreat.Ok
open Go Go.Pw Go.Sh Go.Proofs
set_option maxRecDepth 100000
set_option maxHeartbeats 4000000
abbrev _root_.Go.Sh.k8.Pc(x:k8):List PV:=[.I x.Kind,.I x.A,.I x.B,.I x.C]
abbrev _root_.Go.Sh.k8.Pv(x:k8):PV:=.agg x.Pc
abbrev _root_.Go.Sh.b8.Pc(x:b8):List PV:=[.I x.Serial,.I x.Slot,.I x.Prog,.bool x.Started,.bool x.Alive,.bool x.Stuck,.L D x.Fields]
abbrev _root_.Go.Sh.b8.Pv(x:b8):PV:=.agg x.Pc
abbrev _root_.Go.Sh.l4.Pc(x:l4):List PV:=[.I x.Target,.bool x.Intact,.I x.Call]
abbrev _root_.Go.Sh.l4.Pv(x:l4):PV:=.agg x.Pc
abbrev _root_.Go.Sh.l5.Pc(x:l5):List PV:=[.I x.Key,.I x.Val]
abbrev _root_.Go.Sh.l5.Pv(x:l5):PV:=.agg x.Pc
abbrev _root_.Go.Sh.k7.Pc(x:k7):List PV:=[.I x.Kind,.I x.At,.I x.Prog]
abbrev _root_.Go.Sh.k7.Pv(x:k7):PV:=.agg x.Pc
abbrev _root_.Go.Sh.p9.Pc(x:p9):List PV:=[.I x.Serial,.I x.Strong,.I x.Weak,.I x.Prog,.bool x.Started,.L D x.Fields]
abbrev _root_.Go.Sh.p9.Pv(x:p9):PV:=.agg x.Pc
abbrev _root_.Go.Sh.g7.Pc(x:g7):List PV:=[.I x.State,.I x.Gen,.I x.Val.Serial,.I x.Val.Strong,.I x.Val.Weak,.I x.Val.Prog,.bool x.Val.Started,.L D x.Val.Fields]
abbrev _root_.Go.Sh.g7.Pv(x:g7):PV:=.agg x.Pc
abbrev _root_.Go.Sh.g8.Pc(x:g8):List PV:=[.I x.State,.I x.Key,.I x.Val]
abbrev _root_.Go.Sh.g8.Pv(x:g8):PV:=.agg x.Pc
abbrev _root_.Go.Sh.n0.Pc(x:n0):List PV:=[vq x.part,.I x.least,.I x.most,.I x.e]
abbrev _root_.Go.Sh.n0.Pv(x:n0):PV:=.agg x.Pc
abbrev _root_.Go.Sh.m8.Pc(x:m8):List PV:=[.L g7.Pv x.b7,.I x.Last]
abbrev _root_.Go.Sh.m8.Pv(x:m8):PV:=.agg x.Pc
abbrev _root_.Go.Sh.b6.Pc(x:b6):List PV:=[.L g7.Pv x.S.b7,.I x.S.Last,.I x.Serial]
abbrev _root_.Go.Sh.b6.Pv(x:b6):PV:=.agg x.Pc
abbrev _root_.Go.Sh.k9.Pc(x:k9):List PV:=[.L k7.Pv x.L,.I x.Cap]
abbrev _root_.Go.Sh.k9.Pv(x:k9):PV:=.agg x.Pc
abbrev _root_.Go.Sh.c7.Pc(x:c7):List PV:=[.L g7.Pv x.S.S.b7,.I x.S.S.Last,.I x.S.Serial,.L D x.Roots,.L l4.Pv x.b7,.L g8.Pv x.T,.L k7.Pv x.Q.L,.I x.Q.Cap]
abbrev _root_.Go.Sh.c7.Pv(x:c7):PV:=.agg x.Pc
abbrev _root_.Go.Sh.y5.Pc(x:y5):List PV:=[.L g7.Pv x.X.S.S.b7,.I x.X.S.S.Last,.I x.X.S.Serial,.L D x.X.Roots,.L l4.Pv x.X.b7,.L g8.Pv x.X.T,.L k7.Pv x.X.Q.L,.I x.X.Q.Cap,.L (Ls k8.Pv) x.Progs]
abbrev _root_.Go.Sh.y5.Pv(x:y5):PV:=.agg x.Pc
abbrev _root_.Go.Sh.a8.Pc(x:a8):List PV:=[.L b8.Pv x.Nodes,.L D x.Slots,.L D x.Gens,.I x.Last,.I x.Places,.I x.Serial,.L D x.Roots,.L l4.Pv x.b7,.L l5.Pv x.Pairs,.L k7.Pv x.Tasks,.L (Ls k8.Pv) x.Progs]
abbrev _root_.Go.Sh.a8.Pv(x:a8):PV:=.agg x.Pc
abbrev _root_.Go.Sh.l6.Pc(x:l6):List PV:=[.I x.V,.I x.E]
abbrev _root_.Go.Sh.l6.Pv(x:l6):PV:=.agg x.Pc
abbrev _root_.Go.Sh.g9.Pc(x:g9):List PV:=[.L D x.L,.I x.Cap]
abbrev _root_.Go.Sh.g9.Pv(x:g9):PV:=.agg x.Pc
abbrev _root_.Go.Sh.x6.Pc(x:x6):List PV:=[.L g7.Pv x.x.S.S.b7,.I x.x.S.S.Last,.I x.x.S.Serial,.L D x.x.Roots,.L l4.Pv x.x.b7,.L g8.Pv x.x.T,.L k7.Pv x.x.Q.L,.I x.x.Q.Cap,.I x.o.Kind,.I x.o.A,.I x.o.B,.I x.o.C]
abbrev _root_.Go.Sh.x6.Pv(x:x6):PV:=.agg x.Pc
abbrev _root_.Go.Sh.O5.Pc(x:O5):List PV:=[.I x.r,.I x.h]
abbrev _root_.Go.Sh.O5.Pv(x:O5):PV:=.agg x.Pc
abbrev _root_.Go.Sh.K6.Pc(x:K6):List PV:=[.I x.h,.I x.k,.I x.v]
abbrev _root_.Go.Sh.K6.Pv(x:K6):PV:=.agg x.Pc
abbrev _root_.Go.Sh.O4.Pc(x:O4):List PV:=[.L g8.Pv x.t]
abbrev _root_.Go.Sh.O4.Pv(x:O4):PV:=.agg x.Pc
abbrev _root_.Go.Sh.w8.Pc(x:w8):List PV:=[.I x.V,.I x.E]
abbrev _root_.Go.Sh.w8.Pv(x:w8):PV:=.agg x.Pc
abbrev _root_.Go.Sh.s6.Pc(x:s6):List PV:=[.I x.Kind,.I x.A,.I x.B,.I x.C]
abbrev _root_.Go.Sh.s6.Pv(x:s6):PV:=.agg x.Pc
abbrev _root_.Go.Sh.o5.Pc(x:o5):List PV:=[.I x.Serial,.I x.Slot,.I x.Prog,.bool x.Started,.bool x.Alive,.bool x.Stuck,.L D x.Fields]
abbrev _root_.Go.Sh.o5.Pv(x:o5):PV:=.agg x.Pc
abbrev _root_.Go.Sh.n7.Pc(x:n7):List PV:=[.I x.Target,.bool x.Intact,.I x.Call]
abbrev _root_.Go.Sh.n7.Pv(x:n7):PV:=.agg x.Pc
abbrev _root_.Go.Sh.r9.Pc(x:r9):List PV:=[.I x.Key,.I x.Val]
abbrev _root_.Go.Sh.r9.Pv(x:r9):PV:=.agg x.Pc
abbrev _root_.Go.Sh.o7.Pc(x:o7):List PV:=[.I x.Kind,.I x.At,.I x.Prog]
abbrev _root_.Go.Sh.o7.Pv(x:o7):PV:=.agg x.Pc
abbrev _root_.Go.Sh.mo.Pc(x:mo):List PV:=[.I x.Serial,.I x.Strong,.I x.Weak,.I x.Prog,.bool x.Started,.L D x.Fields]
abbrev _root_.Go.Sh.mo.Pv(x:mo):PV:=.agg x.Pc
abbrev _root_.Go.Sh.M7.Pc(x:M7):List PV:=[.I x.State,.I x.Gen,.I x.Val.Serial,.I x.Val.Strong,.I x.Val.Weak,.I x.Val.Prog,.bool x.Val.Started,.L D x.Val.Fields]
abbrev _root_.Go.Sh.M7.Pv(x:M7):PV:=.agg x.Pc
abbrev _root_.Go.Sh.C7.Pc(x:C7):List PV:=[.I x.State,.I x.Key,.I x.Val]
abbrev _root_.Go.Sh.C7.Pv(x:C7):PV:=.agg x.Pc
abbrev _root_.Go.Sh.eQ.Pc(x:eQ):List PV:=[.I x.State,.I x.Gen,.I x.Val]
abbrev _root_.Go.Sh.eQ.Pv(x:eQ):PV:=.agg x.Pc
abbrev _root_.Go.Sh.jv.Pc(x:jv):List PV:=[.L eQ.Pv x.b7,.I x.Last]
abbrev _root_.Go.Sh.jv.Pv(x:jv):PV:=.agg x.Pc
abbrev _root_.Go.Sh.aQ.Pc(x:aQ):List PV:=[.L M7.Pv x.b7,.I x.Last,.I x.Serial]
abbrev _root_.Go.Sh.aQ.Pv(x:aQ):PV:=.agg x.Pc
abbrev _root_.Go.Sh.F6.Pc(x:F6):List PV:=[.L o7.Pv x.L,.I x.Cap]
abbrev _root_.Go.Sh.F6.Pv(x:F6):PV:=.agg x.Pc
abbrev _root_.Go.Sh.df.Pc(x:df):List PV:=[.L M7.Pv x.S.b7,.I x.S.Last,.I x.S.Serial,.L D x.Roots,.L n7.Pv x.b7,.L C7.Pv x.T,.L o7.Pv x.Q.L,.I x.Q.Cap]
abbrev _root_.Go.Sh.df.Pv(x:df):PV:=.agg x.Pc
abbrev _root_.Go.Sh.bA.Pc(x:bA):List PV:=[.L M7.Pv x.X.S.b7,.I x.X.S.Last,.I x.X.S.Serial,.L D x.X.Roots,.L n7.Pv x.X.b7,.L C7.Pv x.X.T,.L o7.Pv x.X.Q.L,.I x.X.Q.Cap,.L (Ls s6.Pv) x.Progs]
abbrev _root_.Go.Sh.bA.Pv(x:bA):PV:=.agg x.Pc
abbrev _root_.Go.Sh.e6.Pc(x:e6):List PV:=[.L o5.Pv x.Nodes,.L D x.Slots,.L D x.Gens,.I x.Last,.I x.Places,.I x.Serial,.L D x.Roots,.L n7.Pv x.b7,.L r9.Pv x.Pairs,.L o7.Pv x.Tasks,.L (Ls s6.Pv) x.Progs]
abbrev _root_.Go.Sh.e6.Pv(x:e6):PV:=.agg x.Pc
def tO(t:Nat):Nat:=if t=183 then 4 else if t=187 then 0 else if t=191 then 1 else 0
theorem F4:K5 Tryz.prog 3=some false:=Φ
theorem fS:K5 Tryz.prog 4=some false:=Φ
theorem XJ:K5 Tryz.prog 22=some false:=Φ
theorem XK:K5 Tryz.prog 27=some false:=Φ
theorem fh:K5 Tryz.prog 28=some false:=Φ
theorem Kd:K5 Tryz.prog 29=some false:=Φ
theorem XL:K5 Tryz.prog 30=some false:=Φ
theorem XM:K5 Tryz.prog 31=some false:=Φ
theorem B0:K5 Tryz.prog 33=some true:=Φ
theorem xg:K5 Tryz.prog 34=some false:=Φ
theorem AZ:K5 Tryz.prog 37=some false:=Φ
theorem Ke:K5 Tryz.prog 38=some false:=Φ
theorem Ft:K5 Tryz.prog 39=some false:=Φ
theorem tM:K5 Tryz.prog 40=some false:=Φ
theorem E0:K5 Tryz.prog 43=some true:=Φ
theorem J6:K5 Tryz.prog 51=some true:=Φ
theorem tN:K5 Tryz.prog 54=some true:=Φ
theorem Fu:K5 Tryz.prog 65=some true:=Φ
theorem XN:K5 Tryz.prog 66=some false:=Φ
theorem jH:K5 Tryz.prog 68=some true:=Φ
theorem oi:K5 Tryz.prog 70=some true:=Φ
theorem Fw:K5 Tryz.prog 71=some false:=Φ
theorem kQ:K5 Tryz.prog 73=some true:=Φ
theorem y9:K5 Tryz.prog 75=some true:=Φ
theorem ot:K5 Tryz.prog 77=some true:=Φ
theorem XO:K5 Tryz.prog 91=some true:=Φ
theorem PH:K5 Tryz.prog 94=some true:=Φ
theorem PI:K5 Tryz.prog 96=some true:=Φ
theorem Kf:K5 Tryz.prog 98=some true:=Φ
theorem TN:K5 Tryz.prog 102=some false:=Φ
theorem As:K5 Tryz.prog 103=some true:=Φ
theorem iQ:K5 Tryz.prog 105=some true:=Φ
theorem dv:K5 Tryz.prog 145=some true:=Φ
theorem Fs:K5 Tryz.prog 147=some false:=Φ
theorem kf:K5 Tryz.prog 204=some true:=Φ
theorem rP:K5 Tryz.prog 206=some true:=Φ
theorem uO:K5 Tryz.prog 260=some true:=Φ
theorem LN:K5 Tryz.prog 281=some true:=Φ
theorem H7:J7 Tryz.prog 3=some 8:=Φ
theorem XP:J7 Tryz.prog 28=some 24:=Φ
theorem PJ:J7 Tryz.prog 51=some 16:=Φ
theorem XQ:J7 Tryz.prog 54=some 16:=Φ
theorem TO:J7 Tryz.prog 102=some 24:=Φ
theorem TP:J7 Tryz.prog 103=some 32:=Φ
theorem ou:J7 Tryz.prog 105=some 56:=Φ
theorem rQ:J7 Tryz.prog 110=some 56:=Φ
theorem Au:J7 Tryz.prog 112=some 16:=Φ
theorem rR:J7 Tryz.prog 113=some 16:=Φ
theorem rT:J7 Tryz.prog 133=some 24:=Φ
theorem LO:J7 Tryz.prog 141=some 24:=Φ
theorem Av:J7 Tryz.prog 144=some 24:=Φ
theorem ov:J7 Tryz.prog 145=some 24:=Φ
theorem LP:J7 Tryz.prog 316=some 80:=Φ
theorem LQ:J7 Tryz.prog 367=some 24:=Φ
theorem TR:J7 Tryz.prog 439=some 80:=Φ
theorem TS:J7 Tryz.prog 440=some 24:=Φ
theorem TT:J7 Tryz.prog 442=some 24:=Φ
theorem jI:B7 Tryz.prog 22=some 63:=Φ
theorem ak:B7 Tryz.prog 23=some 28:=Φ
theorem D0:B7 Tryz.prog 27=some 105:=Φ
theorem m7:B7 Tryz.prog 28=some 3:=Φ
theorem V4:B7 Tryz.prog 29=some 141:=Φ
theorem O1:B7 Tryz.prog 30=some 113:=Φ
theorem L2:B7 Tryz.prog 31=some 145:=Φ
theorem E1:B7 Tryz.prog 37=some 110:=Φ
theorem P8:B7 Tryz.prog 38=some 144:=Φ
theorem N6:B7 Tryz.prog 39=some 112:=Φ
theorem M2:B7 Tryz.prog 40=some 133:=Φ
theorem kR:B7 Tryz.prog 41=some 102:=Φ
theorem jJ:B7 Tryz.prog 63=some 65:=Φ
theorem cg:B7 Tryz.prog 66=some 316:=Φ
theorem fi:B7 Tryz.prog 71=some 367:=Φ
theorem kS:B7 Tryz.prog 80=some 51:=Φ
theorem qu:B7 Tryz.prog 86=some 54:=Φ
theorem XR:B7 Tryz.prog 89=some 439:=Φ
theorem XS:B7 Tryz.prog 92=some 440:=Φ
theorem iR:B7 Tryz.prog 102=some 103:=Φ
theorem dw:B7 Tryz.prog 198=some 204:=Φ
theorem LR:B7 Tryz.prog 279=some 442:=Φ
theorem ow:B7 Tryz.prog 291=some 31:=Φ
theorem PK:L4 Tryz.prog 33 0=some (0,27):=Φ
theorem PL:L4 Tryz.prog 33 1=some (1,28):=Φ
theorem Ba:L4 Tryz.prog 33 2=some (2,28):=Φ
theorem PM:L4 Tryz.prog 33 6=some (6,28):=Φ
theorem HU:L4 Tryz.prog 33 7=some (7,29):=Φ
theorem PN:L4 Tryz.prog 33 8=some (8,30):=Φ
theorem PQ:L4 Tryz.prog 33 9=some (9,31):=Φ
theorem Oe:L4 Tryz.prog 33 10=some (10,22):=Φ
theorem qv:L4 Tryz.prog 43 0=some (0,37):=Φ
theorem HV:L4 Tryz.prog 43 1=some (1,28):=Φ
theorem HW:L4 Tryz.prog 43 2=some (2,28):=Φ
theorem HX:L4 Tryz.prog 43 3=some (3,3):=Φ
theorem Bb:L4 Tryz.prog 43 4=some (4,3):=Φ
theorem HY:L4 Tryz.prog 43 5=some (5,3):=Φ
theorem Bc:L4 Tryz.prog 43 7=some (7,38):=Φ
theorem uP:L4 Tryz.prog 43 8=some (8,39):=Φ
theorem uQ:L4 Tryz.prog 43 9=some (9,40):=Φ
theorem Bd:L4 Tryz.prog 51 0=some (0,3):=Φ
theorem PR:L4 Tryz.prog 51 1=some (1,34):=Φ
theorem PS:L4 Tryz.prog 65 0=some (0,3):=Φ
theorem PT:L4 Tryz.prog 68 0=some (0,66):=Φ
theorem HZ:L4 Tryz.prog 75 1=some (3,28):=Φ
theorem PU:L4 Tryz.prog 75 2=some (4,29):=Φ
theorem PW:L4 Tryz.prog 75 4=some (6,73):=Φ
theorem Be:L4 Tryz.prog 94 0=some (0,40):=Φ
theorem NP:L4 Tryz.prog 103 0=some (0,3):=Φ
theorem DY:L4 Tryz.prog 105 0=some (0,3):=Φ
theorem NQ:L4 Tryz.prog 105 3=some (3,4):=Φ
theorem NR:L4 Tryz.prog 105 4=some (4,4):=Φ
theorem NT:L4 Tryz.prog 105 5=some (5,4):=Φ
theorem DZ:L4 Tryz.prog 110 0=some (0,3):=Φ
theorem Ea:L4 Tryz.prog 110 1=some (1,3):=Φ
theorem Eb:L4 Tryz.prog 110 2=some (2,3):=Φ
theorem xh:L4 Tryz.prog 110 3=some (3,4):=Φ
theorem xi:L4 Tryz.prog 110 4=some (4,4):=Φ
theorem rU:L4 Tryz.prog 110 5=some (5,4):=Φ
theorem Ec:L4 Tryz.prog 110 6=some (6,28):=Φ
theorem NU:L4 Tryz.prog 112 1=some (1,3):=Φ
theorem NV:L4 Tryz.prog 113 0=some (0,3):=Φ
theorem Ed:L4 Tryz.prog 113 1=some (1,3):=Φ
theorem NW:L4 Tryz.prog 133 0=some (0,3):=Φ
theorem Ee:L4 Tryz.prog 133 1=some (1,3):=Φ
theorem xj:L4 Tryz.prog 141 0=some (0,3):=Φ
theorem NX:L4 Tryz.prog 141 1=some (1,4):=Φ
theorem NY:L4 Tryz.prog 144 0=some (0,3):=Φ
theorem NZ:L4 Tryz.prog 144 1=some (1,4):=Φ
theorem Oa:L4 Tryz.prog 204 2=some (2,3):=Φ
theorem Ob:L4 Tryz.prog 260 1=some (1,3):=Φ
theorem Oc:L4 Tryz.prog 260 2=some (2,3):=Φ
theorem Ef:L4 Tryz.prog 260 4=some (4,4):=Φ
theorem Eg:L4 Tryz.prog 316 0=some (0,3):=Φ
theorem Od:L4 Tryz.prog 316 2=some (2,260):=Φ
theorem Of:L4 Tryz.prog 367 1=some (1,3):=Φ
theorem XT:D6 Tryz.prog 82:=kC Tryz.func82 J
theorem Fy:D6 Tryz.prog 105:=kC Tryz.func105 J
theorem TU:D6 Tryz.prog 158:=kC Tryz.func158 J
theorem TV:D6 Tryz.prog 169:=kC Tryz.func169 J
theorem TW:D6 Tryz.prog 190:=kC Tryz.func190 J
theorem LS:D6 Tryz.prog 200:=kC Tryz.func200 J
theorem LU:D6 Tryz.prog 223:=kC Tryz.func223 J
theorem TX:D6 Tryz.prog 230:=kC Tryz.func230 J
theorem TY:D6 Tryz.prog 231:=kC Tryz.func231 J
theorem TZ:D6 Tryz.prog 233:=kC Tryz.func233 J
theorem Ua:D6 Tryz.prog 270:=kC Tryz.func270 J
theorem Ub:D6 Tryz.prog 274:=kC Tryz.func274 J
theorem Uc:D6 Tryz.prog 279:=kC Tryz.func279 J
theorem Ud:D6 Tryz.prog 290:=kC Tryz.func290 J
theorem Ue:D6 Tryz.prog 301:=kC Tryz.func301 J
theorem Uf:D6 Tryz.prog 321:=kC Tryz.func321 J
theorem LV:D6 Tryz.prog 322:=kC Tryz.func322 J
theorem LW:D6 Tryz.prog 324:=kC Tryz.func324 J
theorem Ug:D6 Tryz.prog 340:=kC Tryz.func340 J
theorem LX:D6 Tryz.prog 341:=kC Tryz.func341 J
theorem V0:wM Tryz.prog 147=some (3,4):=Φ
theorem aE:wM Tryz.prog 200=some (3,198):=Φ
theorem cS:wM Tryz.prog 264=some (3,262):=Φ
theorem Bf:wM Tryz.prog 314=some (3,3):=Φ
theorem PY:D4 Tryz.prog 33=some (λi=>(#[(0,1),(1,1),(2,1),(3,1),(4,1),(5,1),(6,1),(7,1),(8,1),(9,1),(10,1)]:Array (Nat × Nat))[i]?):=Φ
theorem Kg:D4 Tryz.prog 43=some (λi=>(#[(0,1),(1,1),(2,1),(3,1),(4,1),(5,1),(6,1),(7,1),(8,1),(9,1),(10,1)]:Array (Nat × Nat))[i]?):=Φ
theorem ck:D4 Tryz.prog 51=some (λi=>(#[(0,1),(1,1)]:Array (Nat × Nat))[i]?):=Φ
theorem Bg:D4 Tryz.prog 54=some (λi=>(#[(0,1),(1,1)]:Array (Nat × Nat))[i]?):=Φ
theorem FB:D4 Tryz.prog 65=some (λi=>(#[(0,1),(1,1),(2,1),(3,1)]:Array (Nat × Nat))[i]?):=Φ
theorem PZ:D4 Tryz.prog 68=some (λi=>(#[(0,1),(1,1)]:Array (Nat × Nat))[i]?):=Φ
theorem Qa:D4 Tryz.prog 70=some (λi=>(#[(0,2),(2,1)]:Array (Nat × Nat))[i]?):=Φ
theorem Kh:D4 Tryz.prog 73=some (λi=>(#[(0,1),(1,1)]:Array (Nat × Nat))[i]?):=Φ
theorem Qc:D4 Tryz.prog 75=some (λi=>(#[(0,3),(3,1),(4,1),(5,1),(6,2)]:Array (Nat × Nat))[i]?):=Φ
theorem Ki:D4 Tryz.prog 77=some (λi=>(#[(0,8),(8,1)]:Array (Nat × Nat))[i]?):=Φ
theorem XU:D4 Tryz.prog 91=some (λi=>(#[(0,1),(1,1),(2,1)]:Array (Nat × Nat))[i]?):=Φ
theorem Bh:D4 Tryz.prog 94=some (λi=>(#[(0,1),(1,1)]:Array (Nat × Nat))[i]?):=Φ
theorem Qe:D4 Tryz.prog 96=some (λi=>(#[(0,3),(3,1),(4,1),(5,1),(6,2)]:Array (Nat × Nat))[i]?):=Φ
theorem Kj:D4 Tryz.prog 98=some (λi=>(#[(0,8),(8,1)]:Array (Nat × Nat))[i]?):=Φ
theorem Fz:D4 Tryz.prog 103=some (λi=>(#[(0,1),(1,1),(2,1),(3,1)]:Array (Nat × Nat))[i]?):=Φ
theorem LY:D4 Tryz.prog 105=some (λi=>(#[(0,1),(1,1),(2,1),(3,1),(4,1),(5,1),(6,1)]:Array (Nat × Nat))[i]?):=Φ
theorem LZ:D4 Tryz.prog 110=some (λi=>(#[(0,1),(1,1),(2,1),(3,1),(4,1),(5,1),(6,1)]:Array (Nat × Nat))[i]?):=Φ
theorem Uh:D4 Tryz.prog 112=some (λi=>(#[(0,1),(1,1)]:Array (Nat × Nat))[i]?):=Φ
theorem FA:D4 Tryz.prog 113=some (λi=>(#[(0,1),(1,1)]:Array (Nat × Nat))[i]?):=Φ
theorem Ma:D4 Tryz.prog 133=some (λi=>(#[(0,1),(1,1),(2,1)]:Array (Nat × Nat))[i]?):=Φ
theorem Ui:D4 Tryz.prog 141=some (λi=>(#[(0,1),(1,1),(2,1)]:Array (Nat × Nat))[i]?):=Φ
theorem Mb:D4 Tryz.prog 144=some (λi=>(#[(0,1),(1,1),(2,1)]:Array (Nat × Nat))[i]?):=Φ
theorem uR:D4 Tryz.prog 145=some (λi=>(#[(0,1),(1,1),(2,1)]:Array (Nat × Nat))[i]?):=Φ
theorem Uj:D4 Tryz.prog 183=some (λi=>(#[(0,4)]:Array (Nat × Nat))[i]?):=Φ
theorem Uk:D4 Tryz.prog 187=some (λi=>(#[]:Array (Nat × Nat))[i]?):=Φ
theorem Ul:D4 Tryz.prog 191=some (λi=>(#[(0,1)]:Array (Nat × Nat))[i]?):=Φ
theorem fT:D4 Tryz.prog 204=some (λi=>(#[(0,1),(1,1),(2,1),(3,1)]:Array (Nat × Nat))[i]?):=Φ
theorem Un:D4 Tryz.prog 206=some (λi=>(#[(0,1),(1,1)]:Array (Nat × Nat))[i]?):=Φ
theorem Uo:D4 Tryz.prog 260=some (λi=>(#[(0,1),(1,1),(2,1),(3,1),(4,1),(5,1)]:Array (Nat × Nat))[i]?):=Φ
theorem Up:D4 Tryz.prog 268=some (λi=>(#[(0,8),(8,4)]:Array (Nat × Nat))[i]?):=Φ
theorem Mc:D4 Tryz.prog 281=some (λi=>(#[(0,1),(1,1)]:Array (Nat × Nat))[i]?):=Φ
theorem Aw:D4 Tryz.prog 316=some (λi=>(#[(0,1),(1,1),(2,6)]:Array (Nat × Nat))[i]?):=Φ
theorem Uq:D4 Tryz.prog 354=some (λi=>(#[(0,1),(1,1),(2,1)]:Array (Nat × Nat))[i]?):=Φ
theorem Ur:D4 Tryz.prog 358=some (λi=>(#[(0,1)]:Array (Nat × Nat))[i]?):=Φ
theorem Md:D4 Tryz.prog 367=some (λi=>(#[(0,1),(1,1),(2,1)]:Array (Nat × Nat))[i]?):=Φ
theorem Us:D4 Tryz.prog 372=some (λi=>(#[(0,1)]:Array (Nat × Nat))[i]?):=Φ
theorem Ut:D4 Tryz.prog 386=some (λi=>(#[(0,1),(1,1)]:Array (Nat × Nat))[i]?):=Φ
theorem Qf:oJ Tryz.prog 54=some [1,1]:=Φ
theorem Uu:oJ Tryz.prog 112=some [1,1]:=Φ
theorem Uv:oJ Tryz.prog 133=some [1,1,1]:=Φ
theorem Uw:oJ Tryz.prog 144=some [1,0,1]:=Φ
theorem Me:ud Tryz.prog 183=true:=Φ
theorem Mf:ud Tryz.prog 187=true:=Φ
theorem Mg:ud Tryz.prog 191=true:=Φ
theorem n8:u5 Tryz.prog 3=some 1:=Φ
theorem a0w:u5 Tryz.prog 4=some 1:=Φ
theorem XV:u5 Tryz.prog 27=some 1:=Φ
theorem aF:u5 Tryz.prog 28=some 1:=Φ
theorem xk:u5 Tryz.prog 31=some 1:=Φ
theorem y7:u5 Tryz.prog 33=some 11:=Φ
theorem Qg:u5 Tryz.prog 37=some 1:=Φ
theorem XW:u5 Tryz.prog 40=some 1:=Φ
theorem B2:u5 Tryz.prog 43=some 11:=Φ
theorem C5:u5 Tryz.prog 51=some 2:=Φ
theorem il:u5 Tryz.prog 54=some 2:=Φ
theorem xl:u5 Tryz.prog 63=some 1:=Φ
theorem mE:u5 Tryz.prog 65=some 4:=Φ
theorem fV:u5 Tryz.prog 68=some 2:=Φ
theorem oy:u5 Tryz.prog 70=some 3:=Φ
theorem dP:u5 Tryz.prog 73=some 2:=Φ
theorem u9:u5 Tryz.prog 75=some 8:=Φ
theorem fk:u5 Tryz.prog 77=some 9:=Φ
theorem Qh:u5 Tryz.prog 91=some 3:=Φ
theorem Kk:u5 Tryz.prog 94=some 2:=Φ
theorem FD:u5 Tryz.prog 96=some 8:=Φ
theorem Bi:u5 Tryz.prog 98=some 9:=Φ
theorem lU:u5 Tryz.prog 102=some 1:=Φ
theorem fU:u5 Tryz.prog 103=some 4:=Φ
theorem z8:u5 Tryz.prog 105=some 7:=Φ
theorem B9:u5 Tryz.prog 110=some 7:=Φ
theorem R6:u5 Tryz.prog 112=some 2:=Φ
theorem V5:u5 Tryz.prog 113=some 2:=Φ
theorem N3:u5 Tryz.prog 133=some 3:=Φ
theorem Z0:u5 Tryz.prog 141=some 3:=Φ
theorem Q0:u5 Tryz.prog 144=some 3:=Φ
theorem F0:u5 Tryz.prog 145=some 3:=Φ
theorem Ux:u5 Tryz.prog 187=some 0:=Φ
theorem R7:u5 Tryz.prog 204=some 4:=Φ
theorem lV:u5 Tryz.prog 206=some 2:=Φ
theorem lW:u5 Tryz.prog 260=some 6:=Φ
theorem FC:u5 Tryz.prog 281=some 2:=Φ
theorem bd:u5 Tryz.prog 316=some 8:=Φ
theorem fa:u5 Tryz.prog 367=some 3:=Φ
theorem Uy:u5 Tryz.prog 439=some 8:=Φ
theorem Uz:u5 Tryz.prog 440=some 3:=Φ
theorem UA:u5 Tryz.prog 442=some 3:=Φ
theorem L1:Tryz.prog.underlying 3=some (.int .i64):=Φ
theorem Qi:Tryz.prog.underlying 4=some (.bool):=Φ
theorem A2:A6 Tryz.prog 3=some ((.I 0)):=Φ
theorem uT:A6 Tryz.prog 4=some ((.bool false)):=Φ
theorem Bj:A6 Tryz.prog 28=some ((.slice none 0 0)):=Φ
theorem XX:A6 Tryz.prog 31=some ((.slice none 0 0)):=Φ
theorem Qj:A6 Tryz.prog 33=some ((.agg #[(.slice none 0 0),(.slice none 0 0),(.slice none 0 0),(.I 0),(.I 0),(.I 0),(.slice none 0 0),(.slice none 0 0),(.slice none 0 0),(.slice none 0 0),(.slice none 0 0)])):=Φ
theorem Kl:A6 Tryz.prog 43=some ((.agg #[(.slice none 0 0),(.slice none 0 0),(.slice none 0 0),(.I 0),(.I 0),(.I 0),(.slice none 0 0),(.slice none 0 0),(.slice none 0 0),(.slice none 0 0),(.slice none 0 0)])):=Φ
theorem Y4:A6 Tryz.prog 51=some ((.agg #[(.I 0),(.I 0)])):=Φ
theorem tP:A6 Tryz.prog 54=some ((.agg #[(.I 0),(.I 0)])):=Φ
theorem XY:A6 Tryz.prog 63=some ((.slice none 0 0)):=Φ
theorem Bk:A6 Tryz.prog 65=some ((.agg #[(.I 0),(.I 0),(.I 0),(.I 0)])):=Φ
theorem Qk:A6 Tryz.prog 68=some ((.agg #[(.slice none 0 0),(.I 0)])):=Φ
theorem Ql:A6 Tryz.prog 70=some ((.agg #[(.slice none 0 0),(.I 0),(.I 0)])):=Φ
theorem Km:A6 Tryz.prog 73=some ((.agg #[(.slice none 0 0),(.I 0)])):=Φ
theorem Qm:A6 Tryz.prog 75=some ((.agg #[(.slice none 0 0),(.I 0),(.I 0),(.slice none 0 0),(.slice none 0 0),(.slice none 0 0),(.slice none 0 0),(.I 0)])):=Φ
theorem Ko:A6 Tryz.prog 77=some ((.agg #[(.slice none 0 0),(.I 0),(.I 0),(.slice none 0 0),(.slice none 0 0),(.slice none 0 0),(.slice none 0 0),(.I 0),(.slice none 0 0)])):=Φ
theorem XZ:A6 Tryz.prog 91=some ((.agg #[(.slice none 0 0),(.I 0),(.I 0)])):=Φ
theorem Bm:A6 Tryz.prog 94=some ((.agg #[(.slice none 0 0),(.I 0)])):=Φ
theorem Qn:A6 Tryz.prog 96=some ((.agg #[(.slice none 0 0),(.I 0),(.I 0),(.slice none 0 0),(.slice none 0 0),(.slice none 0 0),(.slice none 0 0),(.I 0)])):=Φ
theorem Kp:A6 Tryz.prog 98=some ((.agg #[(.slice none 0 0),(.I 0),(.I 0),(.slice none 0 0),(.slice none 0 0),(.slice none 0 0),(.slice none 0 0),(.I 0),(.slice none 0 0)])):=Φ
theorem Mh:A6 Tryz.prog 102=some ((.slice none 0 0)):=Φ
theorem uS:A6 Tryz.prog 103=some ((.agg #[(.I 0),(.I 0),(.I 0),(.I 0)])):=Φ
theorem bf:A6 Tryz.prog 105=some ((.agg #[(.I 0),(.I 0),(.I 0),(.bool false),(.bool false),(.bool false),(.slice none 0 0)])):=Φ
theorem iS:A6 Tryz.prog 110=some ((.agg #[(.I 0),(.I 0),(.I 0),(.bool false),(.bool false),(.bool false),(.slice none 0 0)])):=Φ
theorem kg:A6 Tryz.prog 112=some ((.agg #[(.I 0),(.I 0)])):=Φ
theorem bg:A6 Tryz.prog 113=some ((.agg #[(.I 0),(.I 0)])):=Φ
theorem fW:A6 Tryz.prog 133=some ((.agg #[(.I 0),(.I 0),(.I 0)])):=Φ
theorem FE:A6 Tryz.prog 141=some ((.agg #[(.I 0),(.bool false),(.I 0)])):=Φ
theorem kh:A6 Tryz.prog 144=some ((.agg #[(.I 0),(.bool false),(.I 0)])):=Φ
theorem bh:A6 Tryz.prog 145=some ((.agg #[(.I 0),(.I 0),(.I 0)])):=Φ
theorem Mi:A6 Tryz.prog 183=some ((.agg #[(.I 0),(.I 0),(.I 0),(.I 0)])):=Φ
theorem Mj:A6 Tryz.prog 187=some ((.agg #[])):=Φ
theorem Ml:A6 Tryz.prog 191=some ((.agg #[(.I 0)])):=Φ
theorem UB:A6 Tryz.prog 198=some ((.slice none 0 0)):=Φ
theorem Q1:A6 Tryz.prog 204=some ((.agg #[.nilFunc,(.I 0),(.I 0),(.I 0)])):=Φ
theorem UC:A6 Tryz.prog 206=some ((.agg #[(.slice none 0 0),(.I 0)])):=Φ
theorem UD:A6 Tryz.prog 260=some ((.agg #[(.I 0),(.I 0),(.I 0),(.I 0),(.bool false),(.slice none 0 0)])):=Φ
theorem UE:A6 Tryz.prog 262=some (.nilFunc):=Φ
theorem UF:A6 Tryz.prog 268=some ((.agg #[(.slice none 0 0),(.I 0),(.I 0),(.slice none 0 0),(.slice none 0 0),(.slice none 0 0),(.slice none 0 0),(.I 0),(.I 0),(.I 0),(.I 0),(.I 0)])):=Φ
theorem Mm:A6 Tryz.prog 281=some ((.agg #[(.slice none 0 0),(.I 0)])):=Φ
theorem rV:A6 Tryz.prog 316=some ((.agg #[(.I 0),(.I 0),(.I 0),(.I 0),(.I 0),(.I 0),(.bool false),(.slice none 0 0)])):=Φ
theorem UG:A6 Tryz.prog 354=some ((.agg #[(.I 0),(.I 0),(.I 0)])):=Φ
theorem UH:A6 Tryz.prog 358=some ((.agg #[(.slice none 0 0)])):=Φ
theorem Ax:A6 Tryz.prog 367=some ((.agg #[(.I 0),(.I 0),(.I 0)])):=Φ
theorem UI:A6 Tryz.prog 372=some ((.agg #[.nilFunc])):=Φ
theorem UJ:A6 Tryz.prog 386=some ((.agg #[(.I 0),(.I 0)])):=Φ
theorem UK:A6 Tryz.prog 439=some ((.agg #[(.I 0),(.I 0),(.I 0),(.I 0),(.I 0),(.I 0),(.bool false),(.slice none 0 0)])):=Φ
theorem UL:A6 Tryz.prog 440=some ((.agg #[(.I 0),(.I 0),(.I 0)])):=Φ
theorem UM:A6 Tryz.prog 442=some ((.agg #[(.I 0),(.I 0),(.I 0)])):=Φ
theorem r7:Tryz.prog.follows .mixedOrders=true:=Φ
def tb:TB:=⟨[((33,0),(0,27)),((33,1),(1,28)),((33,2),(2,28)),((33,3),(3,3)),((33,4),(4,3)),((33,5),(5,3)),((33,6),(6,28)),((33,7),(7,29)),((33,8),(8,30)),((33,9),(9,31)),((33,10),(10,22)),((43,0),(0,37)),((43,1),(1,28)),((43,2),(2,28)),((43,3),(3,3)),((43,5),(5,3)),((43,6),(6,28)),((43,7),(7,38)),((43,8),(8,39)),((43,9),(9,40)),((43,10),(10,41)),((51,0),(0,3)),((51,1),(1,34)),((65,0),(0,3)),((65,1),(1,3)),((65,2),(2,3)),((65,3),(3,3)),((68,0),(0,66)),((68,1),(1,3)),((70,0),(0,68)),((70,1),(2,3)),((73,0),(0,31)),((73,1),(1,3)),((75,0),(0,70)),((75,1),(3,28)),((75,2),(4,29)),((75,3),(5,71)),((75,4),(6,73)),((77,0),(0,75)),((77,1),(8,22)),((94,0),(0,40)),((94,1),(1,3)),((96,1),(3,28)),((103,0),(0,3)),((103,1),(1,3)),((103,2),(2,3)),((103,3),(3,3)),((105,0),(0,3)),((105,1),(1,3)),((105,2),(2,3)),((105,3),(3,4)),((105,4),(4,4)),((105,5),(5,4)),((105,6),(6,28)),((110,0),(0,3)),((110,1),(1,3)),((110,2),(2,3)),((110,3),(3,4)),((110,4),(4,4)),((110,5),(5,4)),((110,6),(6,28)),((112,0),(0,3)),((112,1),(1,3)),((113,0),(0,3)),((113,1),(1,3)),((133,0),(0,3)),((133,1),(1,3)),((133,2),(2,3)),((141,0),(0,3)),((141,1),(1,4)),((141,2),(2,3)),((144,0),(0,3)),((144,1),(1,4)),((144,2),(2,3)),((145,0),(0,3)),((145,1),(1,3)),((145,2),(2,3)),((183,0),(0,65)),((191,0),(0,3)),((204,0),(0,202)),((204,1),(1,3)),((204,3),(3,34)),((206,0),(0,28)),((206,1),(1,3)),((260,0),(0,3)),((260,1),(1,3)),((260,2),(2,3)),((260,3),(3,3)),((260,4),(4,4)),((260,5),(5,28)),((268,0),(0,75)),((268,1),(8,65)),((281,0),(0,279)),((281,1),(1,3)),((316,0),(0,3)),((316,1),(1,3)),((316,2),(2,260)),((354,0),(0,3)),((354,1),(1,3)),((354,2),(2,3)),((358,0),(0,71)),((367,0),(0,3)),((367,1),(1,3)),((367,2),(2,3)),((372,0),(0,370)),((386,0),(0,3)),((386,1),(1,3))],[(3,false),(4,false),(22,false),(27,false),(28,false),(29,false),(30,false),(31,false),(33,true),(34,false),(37,false),(38,false),(39,false),(40,false),(41,false),(43,true),(51,true),(54,true),(63,false),(65,true),(66,false),(68,true),(70,true),(71,false),(73,true),(75,true),(77,true),(96,true),(102,false),(103,true),(105,true),(110,true),(112,true),(113,true),(133,true),(141,true),(144,true),(145,true),(147,false),(202,false),(204,true),(206,true),(226,false),(260,true),(268,true),(279,false),(314,false),(316,true),(367,true),(370,false),(372,true)],[(3,1),(4,1),(27,1),(28,1),(29,1),(30,1),(31,1),(33,11),(34,1),(37,1),(38,1),(39,1),(40,1),(43,11),(51,2),(54,2),(65,4),(66,1),(68,2),(70,3),(71,1),(73,2),(75,8),(77,9),(94,2),(96,8),(98,9),(103,4),(105,7),(110,7),(112,2),(113,2),(133,3),(141,3),(144,3),(145,3),(147,1),(183,4),(191,1),(204,4),(206,2),(260,6),(268,12),(281,2),(314,1),(316,8),(367,3),(372,1)],[(3,.I 0),(4,.bool false),(28,.lst true (List.map D [])),(29,.lst true (List.map l4.Pv [])),(30,.lst true (List.map l5.Pv [])),(33,.agg [.lst true (List.map b8.Pv []),.lst true (List.map D []),.lst true (List.map D []),.I 0,.I 0,.I 0,.lst true (List.map D []),.lst true (List.map l4.Pv []),.lst true (List.map l5.Pv []),.lst true (List.map k7.Pv []),.lst true (List.map (Ls k8.Pv) [])]),(34,.I 0),(43,.agg [.lst true (List.map o5.Pv []),.lst true (List.map D []),.lst true (List.map D []),.I 0,.I 0,.I 0,.lst true (List.map D []),.lst true (List.map n7.Pv []),.lst true (List.map r9.Pv []),.lst true (List.map o7.Pv []),.lst true (List.map (Ls s6.Pv) [])]),(51,.agg [.I 0,.I 0]),(54,.agg [.I 0,.I 0]),(65,.agg [.I 0,.I 0,.I 0,.I 0]),(68,.agg [.lst true (List.map g7.Pv []),.I 0]),(70,.agg [.lst true (List.map g7.Pv []),.I 0,.I 0]),(71,.lst true (List.map g8.Pv [])),(73,.agg [.lst true (List.map k7.Pv []),.I 0]),(75,.agg [.lst true (List.map g7.Pv []),.I 0,.I 0,.lst true (List.map D []),.lst true (List.map l4.Pv []),.lst true (List.map g8.Pv []),.lst true (List.map k7.Pv []),.I 0]),(77,.agg [.lst true (List.map g7.Pv []),.I 0,.I 0,.lst true (List.map D []),.lst true (List.map l4.Pv []),.lst true (List.map g8.Pv []),.lst true (List.map k7.Pv []),.I 0,.lst true (List.map (Ls k8.Pv) [])]),(91,.agg [.lst true (List.map M7.Pv []),.I 0,.I 0]),(94,.agg [.lst true (List.map o7.Pv []),.I 0]),(96,.agg [.lst true (List.map M7.Pv []),.I 0,.I 0,.lst true (List.map D []),.lst true (List.map n7.Pv []),.lst true (List.map C7.Pv []),.lst true (List.map o7.Pv []),.I 0]),(98,.agg [.lst true (List.map M7.Pv []),.I 0,.I 0,.lst true (List.map D []),.lst true (List.map n7.Pv []),.lst true (List.map C7.Pv []),.lst true (List.map o7.Pv []),.I 0,.lst true (List.map (Ls s6.Pv) [])]),(103,.agg [.I 0,.I 0,.I 0,.I 0]),(105,.agg [.I 0,.I 0,.I 0,.bool false,.bool false,.bool false,.lst true (List.map D [])]),(110,.agg [.I 0,.I 0,.I 0,.bool false,.bool false,.bool false,.lst true (List.map D [])]),(113,.agg [.I 0,.I 0]),(133,.agg [.I 0,.I 0,.I 0]),(141,.agg [.I 0,.bool false,.I 0]),(144,.agg [.I 0,.bool false,.I 0]),(145,.agg [.I 0,.I 0,.I 0]),(147,.abs Kc),(183,.agg [.I 0,.I 0,.I 0,.I 0]),(187,.agg []),(191,.agg [.I 0]),(204,.agg [.nilfn,.I 0,.I 0,.I 0]),(206,.agg [.lst true (List.map D []),.I 0]),(260,.agg [.I 0,.I 0,.I 0,.I 0,.bool false,.lst true (List.map D [])]),(281,.agg [.lst true (List.map eQ.Pv []),.I 0]),(314,.abs Kc),(316,.agg [.I 0,.I 0,.I 0,.I 0,.I 0,.I 0,.bool false,.lst true (List.map D [])]),(367,.agg [.I 0,.I 0,.I 0]),(372,.agg [.nilfn])]⟩
theorem Tb:TB.Ok Tryz.prog tb:=⟨Φ,Φ,Φ,Φ⟩
section
variable{X:Ctx}{ops:Array Oper}{K:Ctx->St->Prop}{i n:Nat}{l l':List Oper}{env env':Nat->PV}{σ σ':Nat->Option Row}{Q:PX->Ctx->St->Prop}{y:Code}{KD:St->Prop}{bar:List Nat}
theorem S1(n:Nat)(h:run tb n l env σ=some (l',env',σ'))(k:Sq X ops (i+n) l' K ⟨env',σ'⟩)(hb:TB.Ok X.P tb:=by exact Tb):Sq X ops i l K ⟨env,σ⟩:=ZN hb n h k
theorem S2(n:Nat)(h:run tb n l env σ=some ([],env',σ'))(k:K X ⟨env',σ'⟩)(hb:TB.Ok X.P tb:=by exact Tb):Sq X ops i l K ⟨env,σ⟩:=ZN hb n h (yN k)
theorem S3{id:Nat}(n:Nat)(h:run tb n l env σ=some (l',env',σ'))(k:Sq X l.toArray (0+n) l' (λX' s=>aA X' y Q s) ⟨env',σ'⟩)(hd:jg X.N l.toArray=true:=by kernel_rfl)(hb:TB.Ok X.P tb:=by exact Tb):aA X (.seq (.region id l.toArray false) y) Q ⟨env,σ⟩:=sr hd (ZN hb n h k)
theorem S4{id:Nat}(n:Nat)(h:run tb n l env σ=some ([],env',σ'))(k:aA X y Q ⟨env',σ'⟩)(hd:jg X.N l.toArray=true:=by kernel_rfl)(hb:TB.Ok X.P tb:=by exact Tb):aA X (.seq (.region id l.toArray false) y) Q ⟨env,σ⟩:=sr hd (ZN hb n h (yN k))
theorem S5{id:Nat}(n:Nat)(h:run tb n l env σ=some (l',env',σ'))(k:Sq X l.toArray (0+n) l' (Q .normal) ⟨env',σ'⟩)(hd:jg X.N l.toArray=true:=by kernel_rfl)(hb:TB.Ok X.P tb:=by exact Tb):aA X (.region id l.toArray false) Q ⟨env,σ⟩:=sr1 hd (ZN hb n h k)
theorem S6{id:Nat}(n:Nat)(h:run tb n l env σ=some ([],env',σ'))(k:Q .normal X ⟨env',σ'⟩)(hd:jg X.N l.toArray=true:=by kernel_rfl)(hb:TB.Ok X.P tb:=by exact Tb):aA X (.region id l.toArray false) Q ⟨env,σ⟩:=sr1 hd (ZN hb n h (yN k))
theorem S7(n:Nat)(h:Wu tb bar n i l env σ=some (l',env',σ'))(k:Ex X.P ops bar true (i+n) l' ⟨env',σ'⟩ KD)(hb:TB.Ok X.P tb:=by exact Tb):Ex X.P ops bar true i l ⟨env,σ⟩ KD:=dG hb n h k
theorem S8(n:Nat)(h:Wu tb bar n i l env σ=some ([],env',σ'))(k:KD ⟨env',σ'⟩)(hb:TB.Ok X.P tb:=by exact Tb):Ex X.P ops bar true i l ⟨env,σ⟩ KD:=dG hb n h k
end
theorem ZT:Fq Tryz.prog (Tryz.sortF_ren.f 6):=Po Tryz.sortF
variable {p:Prop}
theorem Λ(k:p:=by cases h;exact f1):p:=k
theorem Ωb(k:p:=by cases h;exact f2):p:=k
theorem Ωc(k:p:=by cases h;exact⟨J,[_,_],⟨oL J J J y9 u9 nl J,⟨J,tr⟩⟩,J,io⟩):p:=k
theorem Ωe(k:p:=by cases h;exact⟨J,[_,_],⟨oL J J J B0 y7 nl J,⟨oL J J J J6 C5 nl J,tr⟩⟩,J,io⟩):p:=k
theorem Ωf(k:p:=by cases h;exact⟨J,[_],⟨oL J J J y9 u9 nl J,tr⟩,J,io⟩):p:=k
theorem Ωh(k:p:=by cases h;exact⟨J,[_],⟨oL J J J B0 y7 nl J,tr⟩,J,io⟩):p:=k
theorem Ωk(k:p:=by cases h;exact⟨J,[_,_,_],⟨oL J J J E0 B2 nl J,⟨J,⟨J,tr⟩⟩⟩,J,io⟩):p:=k
theorem Ωl(k:p:=by cases h;exact⟨J,[_,_],⟨oL J J J B0 y7 nl J,⟨J,tr⟩⟩,J,io⟩):p:=k
theorem Ωm(k:p:=by cases h;exact⟨J,[_],⟨oL J J J E0 B2 nl J,tr⟩,J,io⟩):p:=k
theorem Ωn(k:p:=by cases h;exact f3):p:=k
theorem Ωq(k:p:=by cases h;exact⟨J,[_,_],⟨oL J J J E0 B2 nl J,⟨J,tr⟩⟩,J,io⟩):p:=k
theorem Ωr(k:p:=by cases h;exact⟨J,[_],⟨oL J J J kf R7 nl J,tr⟩,J,io⟩):p:=k
theorem Ωu(k:p:=by cases h;exact⟨J,_,_,J,J,J,J⟩):p:=k
theorem Ωy(k:p:=by cases h;exact⟨J,[_,_],⟨oL J J J jH fV nl J,⟨J,tr⟩⟩,J,io⟩):p:=k
theorem Ωz(k:p:=by cases h;exact⟨J,[_,_],⟨oL J J J E0 B2 nl J,⟨oL J J J tN il nl J,tr⟩⟩,J,io⟩):p:=k
theorem ΩA(k:p:=by cases h;exact⟨J,[_,_,_],⟨oL J J J y9 u9 nl J,⟨J,⟨J,tr⟩⟩⟩,J,io⟩):p:=k
theorem ΩK(k:p:=by cases h;exact⟨J,[_,_],⟨oL J J J ot fk nl J,⟨oL J J J J6 C5 nl J,tr⟩⟩,J,io⟩):p:=k
theorem ΩO(k:p:=by cases h;exact⟨J,[_,_,_],⟨oL J J J oi oy nl J,⟨J,⟨J,tr⟩⟩⟩,J,io⟩):p:=k
theorem ΩP(k:p:=by cases h;exact⟨J,[_,_],⟨oL J J J ot fk nl J,⟨J,tr⟩⟩,J,io⟩):p:=k
theorem ΩQ(k:p:=by cases h;exact⟨J,[_,_],⟨oL J J J kQ dP nl J,⟨J,tr⟩⟩,J,io⟩):p:=k
theorem ΩR(k:p:=by cases h;exact⟨J,[_,_],⟨oL J J J uO lW nl J,⟨J,tr⟩⟩,J,io⟩):p:=k
theorem ΩS(k:p:=by cases h;exact⟨J,[_,_],⟨oL J J J oi oy nl J,⟨J,tr⟩⟩,J,io⟩):p:=k
theorem ΩT(k:p:=by cases h;exact⟨J,[_],⟨oL J J J iQ z8 nl J,tr⟩,J,io⟩):p:=k
theorem Ω7(k:p:=by cases h;exact⟨J,[_,_,_],⟨oL J J J kQ dP nl J,⟨oL J J J dv F0 nl J,⟨J,tr⟩⟩⟩,J,io⟩):p:=k
theorem Ω8(k:p:=by cases h;exact⟨J,[_,_,_],⟨oL J J J y9 u9 nl J,⟨oL J J J dv F0 nl J,⟨J,tr⟩⟩⟩,J,io⟩):p:=k
theorem Ω9(k:p:=by cases h;exact⟨J,[_,_],⟨oS J J J Fw J,⟨oS J J J xg J,tr⟩⟩,J,io⟩):p:=k
theorem Δa(k:p:=by cases h;exact⟨J,[_,_],⟨oL J J J Fu mE nl J,⟨J,tr⟩⟩,J,io⟩):p:=k
theorem Δb(k:p:=by cases h;exact⟨J,[_,_],⟨oL J J J rP lV nl J,⟨J,tr⟩⟩,J,io⟩):p:=k
theorem Δc(k:p:=by cases h;exact⟨J,[_,_],⟨oL J J J Kf Bi nl J,⟨J,tr⟩⟩,J,io⟩):p:=k
theorem Δd(k:p:=by cases h;exact⟨J,[_,_],⟨oL J J J As fU nl J,⟨J,tr⟩⟩,J,io⟩):p:=k
theorem Δe(k:p:=by cases h;exact⟨J,[_],⟨oL J J J jH fV nl J,tr⟩,J,io⟩):p:=k
theorem Δf(k:p:=by cases h;exact⟨J,[_],⟨oL J J J kQ dP nl J,tr⟩,J,io⟩):p:=k
theorem Δm(k:p:=by cases h;exact⟨J,[_,_,_],⟨oL J J J jH fV nl J,⟨oS J J J F4 J,⟨oS J J J xg J,tr⟩⟩⟩,J,io⟩):p:=k
theorem Δn(k:p:=by cases h;exact⟨J,[_],⟨oS J J J fS J,tr⟩,J,io⟩):p:=k
theorem Δo(k:p:=by cases h;exact⟨J,[_,_,_,_],⟨oL J J J y9 u9 nl J,⟨J,⟨J,⟨J,tr⟩⟩⟩⟩,J,io⟩):p:=k
theorem Δp(k:p:=by cases h;exact⟨J,[_,_,_],⟨oL J J J rP lV nl J,⟨J,⟨J,tr⟩⟩⟩,J,io⟩):p:=k
theorem Δq(k:p:=by cases h;exact⟨J,[_,_],⟨oL J J J iQ z8 nl J,⟨J,tr⟩⟩,J,io⟩):p:=k
theorem Δr(k:p:=by cases h;exact⟨J,[_],⟨oL J J J LN FC nl J,tr⟩,J,io⟩):p:=k
theorem Δs(k:p:=by cases h;exact⟨J,[_],⟨oL J J J PH Kk nl J,tr⟩,J,io⟩):p:=k
theorem Δt(k:p:=by cases h;exact⟨J,[_],⟨oL J J J PI FD nl J,tr⟩,J,io⟩):p:=k
theorem Δu(k:p:=by cases h;exact⟨J,[_],⟨oS J J J F4 J,tr⟩,J,io⟩):p:=k
theorem yR{b}:PO Tryz.prog 4 [.L (Ls k8.Pv) b] (jF b) λr=>.bool r:=x8 Tryz.func4 J λr h=>S4 1 J<|jq h (λ_=>St.of [(0,.L (Ls k8.Pv) b)] []) (λj h=>S3 1 J<|nL J jI<|S2 2 J<|M<|Λ) λg h=>S4 1 J<|c9<|lq h (λe=>St.of [(0,.L (Ls k8.Pv) b),(3,.I e)] []) W λe k h a=>g6<|S3 2 J<|nL J jI<|S1 2 J<|O J (λc=>mI J)<|O J (λc=>z6 (ct c) J J)<|y0 J (B3 J J J (λq=>fp q))<|yN<|Y h (λhc h=>Z<|g6<|c9<|S3 2 J<|iL h J J jI xl λf _ h=>S1 1 J<|nL J jJ<|S2 1 J<|Y h (λhc h=>S4 1 J<|M<|have h:=xL a h;Λ) λhc h=>Z<|S6 3 J<|eL h W) λhc h=>n9<|c8<|c8<|l7<|have h:=xL a h;eJ h W
theorem HE{b c}:PO Tryz.prog 5 [.L (Ls D) b,.I c] (iM b c) λr=>.bool r:=x8 Tryz.func5 J λr h=>S4 1 J<|jq h (λ_=>St.of [(0,.L (Ls D) b),(1,.I c)] []) (λk h=>S3 1 J<|nL J ak<|S2 3 J<|M<|Λ) λj h=>S4 1 J<|c9<|lq h (λf=>St.of [(0,.L (Ls D) b),(1,.I c),(5,.I f)] []) W λf m h a=>g6<|S3 2 J<|nL J ak<|S1 2 J<|O J (λe=>mI J)<|O J (λe=>z6 (ct e) J J)<|y0 J (B3 J J J (λq=>fp q))<|yN<|Y h (λhc h=>Z<|g6<|c9<|S3 2 J<|iL h J J ak aF λg _ h=>S1 1 J<|nL J m7<|S2 1 J<|Y h (λhc h=>S4 1 J<|M<|have h:=xL a h;Λ) λhc h=>Z<|S6 3 J<|eL h W) λhc h=>n9<|c8<|c8<|l7<|have h:=xL a h;eJ h W
theorem Dz{b}:PO Tryz.prog 90 [k8.Pv b] (iq b) λr=>.bool r:=x8 Tryz.func90 J λr h=>by unfold iq at h;exact S4 2 J<|S3 4 J<|O J (λa=>oF J PS J)<|O J (λa=>oS (ct a) J J F4 J)<|O J (λa=>z6 (ct a) J J)<|y0 J (B3 J J J (λq=>fp q))<|S2 1 J<|M<|Λ
theorem C8:PO Tryz.prog 173 [.fn (.func 174) []] (cq) λr=>n0.Pv r:=x8 Tryz.func173 J λr h=>by unfold cq at h;exact S4 1 J<|S3 1 J<|y0 J (o6 (cs:=[.fn (.func 174) [],.I 0,.I 5,.I 6]) J fT Q1 J J J)<|R5 (qc 4 (d':=.agg [vq (some 174),.I 0,.I 5,.I 6]) J)<|S2 1 J<|M<|Ωr
theorem cD:PO Tryz.prog 176 [.fn (.func 177) []] (ao) λr=>n0.Pv r:=x8 Tryz.func176 J λr h=>by unfold ao at h;exact S4 1 J<|S3 1 J<|y0 J (o6 (cs:=[.fn (.func 177) [],.I (-1),.I 5,.I 13]) J fT Q1 J J J)<|R5 (qc 4 (d':=.agg [vq (some 177),.I (-1),.I 5,.I 13]) J)<|S2 1 J<|M<|Ωr
theorem I4{a}:PO Tryz.prog 172 [.L n0.Pv a] (P6 a) λr=>.L n0.Pv r:=x8 Tryz.func172 J λr h=>by unfold P6 at h;exact S4 1 J<|S4 2 J<|M<|Λ
theorem R8:PO Tryz.prog 173 [.fn (.func 175) []] (cr) λr=>n0.Pv r:=x8 Tryz.func173 J λr h=>by unfold cr at h;exact S4 1 J<|S3 1 J<|y0 J (o6 (cs:=[.fn (.func 175) [],.I 0,.I 5,.I 6]) J fT Q1 J J J)<|R5 (qc 4 (d':=.agg [vq (some 175),.I 0,.I 5,.I 6]) J)<|S2 1 J<|M<|Ωr
theorem lO:PO Tryz.prog 178 [.fn (.func 177) []] (bm) λr=>n0.Pv r:=x8 Tryz.func178 J λr h=>by unfold bm at h;exact S4 1 J<|S3 1 J<|y0 J (o6 (cs:=[.fn (.func 177) [],.I 0,.I 3,.I 5]) J fT Q1 J J J)<|R5 (qc 4 (d':=.agg [vq (some 177),.I 0,.I 3,.I 5]) J)<|S2 1 J<|M<|Ωr
theorem lN:PO Tryz.prog 178 [.fn (.func 175) []] (bk) λr=>n0.Pv r:=x8 Tryz.func178 J λr h=>by unfold bk at h;exact S4 1 J<|S3 1 J<|y0 J (o6 (cs:=[.fn (.func 175) [],.I 0,.I 3,.I 5]) J fT Q1 J J J)<|R5 (qc 4 (d':=.agg [vq (some 175),.I 0,.I 3,.I 5]) J)<|S2 1 J<|M<|Ωr
theorem iu:PO Tryz.prog 179 [.fn (.func 177) []] (V7) λr=>n0.Pv r:=x8 Tryz.func179 J λr h=>by unfold V7 at h;exact S4 1 J<|S3 1 J<|y0 J (o6 (cs:=[.fn (.func 177) [],.I (-1),.I 5,.I 6]) J fT Q1 J J J)<|R5 (qc 4 (d':=.agg [vq (some 177),.I (-1),.I 5,.I 6]) J)<|S2 1 J<|M<|Ωr
theorem mG:PO Tryz.prog 180 [.fn (.func 174) []] (cm) λr=>n0.Pv r:=x8 Tryz.func180 J λr h=>by unfold cm at h;exact S4 1 J<|S3 1 J<|y0 J (o6 (cs:=[.fn (.func 174) [],.I 0,.I 5,.I 7]) J fT Q1 J J J)<|R5 (qc 4 (d':=.agg [vq (some 174),.I 0,.I 5,.I 7]) J)<|S2 1 J<|M<|Ωr
theorem aG:PO Tryz.prog 179 [.fn (.func 175) []] (V6) λr=>n0.Pv r:=x8 Tryz.func179 J λr h=>by unfold V6 at h;exact S4 1 J<|S3 1 J<|y0 J (o6 (cs:=[.fn (.func 175) [],.I (-1),.I 5,.I 6]) J fT Q1 J J J)<|R5 (qc 4 (d':=.agg [vq (some 175),.I (-1),.I 5,.I 6]) J)<|S2 1 J<|M<|Ωr
theorem mH:PO Tryz.prog 180 [.fn (.func 175) []] (cp) λr=>n0.Pv r:=x8 Tryz.func180 J λr h=>by unfold cp at h;exact S4 1 J<|S3 1 J<|y0 J (o6 (cs:=[.fn (.func 175) [],.I 0,.I 5,.I 7]) J fT Q1 J J J)<|R5 (qc 4 (d':=.agg [vq (some 175),.I 0,.I 5,.I 7]) J)<|S2 1 J<|M<|Ωr
theorem Ab:PO Tryz.prog 102 [] (oE) λr=>.abs (Y2 (List.map (dx D (Ls n0.Pv)) r)):=x8 Tryz.func102 J λr h=>S4 1 J<|sR<|Fl (KT:=Int) (VT:=List n0) (EK:=D) (E:=(Ls n0.Pv)) 5000001 J J<|cF h C8 J J λo b h=>y0 J (o6 (cs:=[.fn (.func 175) [],.I 0,.I 4,.I 1]) J fT Q1 J J J)<|R5 (qc 3 (d':=.agg [vq (some 175),.I 0,.I 4,.I 1]) J)<|cF h cD J J λv2 A h=>y0 J (G6 (f:=n0.Pv) (l:=[o,(⟨(some 175),0,4,1⟩:n0),v2]) J dw R7 Q1 J J nl J J)<|cF h I4 J J λv3 _ h=>aV (es:=[]) (k:=1) (v:=v3) (E:=(Ls n0.Pv)) (EK:=D) (.inr J) J J J J J J aE (A8 L1)<|yc J (x4 J C8 J b)<|cF h R8 J J λz s h=>y0 J (G6 (f:=n0.Pv) (l:=[o,z]) J dw R7 Q1 J J nl J J)<|cF h I4 J J λa u h=>aV (es:=(u6 [] 1 v3)) (k:=2) (v:=a) (E:=(Ls n0.Pv)) (EK:=D) (.inr J) J J J J J J aE (A8 L1)<|yc J (x4 J C8 J b)<|y0 J (G6 (f:=n0.Pv) (l:=[o]) J dw R7 Q1 J J nl J J)<|cF h I4 J J λm _ h=>aV (es:=(u6 (u6 [] 1 v3) 2 a)) (k:=3) (v:=m) (E:=(Ls n0.Pv)) (EK:=D) (.inr J) J J J J J J aE (A8 L1)<|yc J (x4 J C8 J b)<|yc J (x4 J R8 J s)<|cF h lO J J λH _ h=>y0 J (G6 (f:=n0.Pv) (l:=[o,z,H]) J dw R7 Q1 J J nl J J)<|cF h I4 J J λq _ h=>aV (es:=(u6 (u6 (u6 [] 1 v3) 2 a) 3 m)) (k:=4) (v:=q) (E:=(Ls n0.Pv)) (EK:=D) (.inr J) J J J J J J aE (A8 L1)<|yc J (x4 J C8 J b)<|cF h lN J J λN _ h=>cF h iu J J λB _ h=>y0 J (G6 (f:=n0.Pv) (l:=[o,N,B]) J dw R7 Q1 J J nl J J)<|cF h I4 J J λc _ h=>aV (es:=(u6 (u6 (u6 (u6 [] 1 v3) 2 a) 3 m) 4 q)) (k:=5) (v:=c) (E:=(Ls n0.Pv)) (EK:=D) (.inr J) J J J J J J aE (A8 L1)<|cF h mG J J λC _ h=>cF h aG J J λw t h=>yc J (x4 J cD J A)<|y0 J (G6 (f:=n0.Pv) (l:=[C,w,v2]) J dw R7 Q1 J J nl J J)<|cF h I4 J J λe _ h=>aV (es:=(u6 (u6 (u6 (u6 (u6 [] 1 v3) 2 a) 3 m) 4 q) 5 c)) (k:=6) (v:=e) (E:=(Ls n0.Pv)) (EK:=D) (.inr J) J J J J J J aE (A8 L1)<|yc J (x4 J C8 J b)<|cF h mH J J λF _ h=>y0 J (G6 (f:=n0.Pv) (l:=[o,F]) J dw R7 Q1 J J nl J J)<|cF h I4 J J λg _ h=>aV (es:=(u6 (u6 (u6 (u6 (u6 (u6 [] 1 v3) 2 a) 3 m) 4 q) 5 c) 6 e)) (k:=7) (v:=g) (E:=(Ls n0.Pv)) (EK:=D) (.inr J) J J J J J J aE (A8 L1)<|yc J (x4 J C8 J b)<|yc J (x4 J aG J t)<|y0 J (G6 (f:=n0.Pv) (l:=[o,w]) J dw R7 Q1 J J nl J J)<|cF h I4 J J λj _ h=>aV (es:=(u6 (u6 (u6 (u6 (u6 (u6 (u6 [] 1 v3) 2 a) 3 m) 4 q) 5 c) 6 e) 7 g)) (k:=8) (v:=j) (E:=(Ls n0.Pv)) (EK:=D) (.inr J) J J J J J J aE (A8 L1)<|yc J (x4 J C8 J b)<|yc J (x4 J R8 J s)<|y0 J (G6 (f:=n0.Pv) (l:=[o,z]) J dw R7 Q1 J J nl J J)<|yc J (x4 J I4 J u)<|aV (es:=(u6 (u6 (u6 (u6 (u6 (u6 (u6 (u6 [] 1 v3) 2 a) 3 m) 4 q) 5 c) 6 e) 7 g) 8 j)) (k:=9) (v:=a) (E:=(Ls n0.Pv)) (EK:=D) (.inr J) J J J J J J aE (A8 L1)<|yc J (x4 J C8 J b)<|yc J (x4 J R8 J s)<|y0 J (G6 (f:=n0.Pv) (l:=[o,z]) J dw R7 Q1 J J nl J J)<|yc J (x4 J I4 J u)<|aV (es:=(u6 (u6 (u6 (u6 (u6 (u6 (u6 (u6 (u6 [] 1 v3) 2 a) 3 m) 4 q) 5 c) 6 e) 7 g) 8 j) 9 a)) (k:=10) (v:=a) (E:=(Ls n0.Pv)) (EK:=D) (.inr J) J J J J J J aE (A8 L1)<|cF h I4 J J λx _ h=>aV (es:=(u6 (u6 (u6 (u6 (u6 (u6 (u6 (u6 (u6 (u6 [] 1 v3) 2 a) 3 m) 4 q) 5 c) 6 e) 7 g) 8 j) 9 a) 10 a)) (k:=11) (v:=x) (E:=(Ls n0.Pv)) (EK:=D) (.inr J) J J J J J J aE (A8 L1)<|y0 J (o6 (cs:=[.fn (.func 174) [],.I 0,.I 200,.I 12]) J fT Q1 J J J)<|R5 (qc 46 (d':=.agg [vq (some 174),.I 0,.I 200,.I 12]) J)<|y0 J (G6 (f:=n0.Pv) (l:=[(⟨(some 174),0,200,12⟩:n0)]) J dw R7 Q1 J J nl J J)<|cF h I4 J J λG _ h=>aV (es:=(u6 (u6 (u6 (u6 (u6 (u6 (u6 (u6 (u6 (u6 (u6 [] 1 v3) 2 a) 3 m) 4 q) 5 c) 6 e) 7 g) 8 j) 9 a) 10 a) 11 x)) (k:=12) (v:=G) (E:=(Ls n0.Pv)) (EK:=D) (.inr J) J J J J J J aE (A8 L1)<|S2 2 J<|de (HI 0 5000001 J J)<|M<|Λ
theorem te{a}:PO Tryz.prog 174 [k8.Pv a] (tT a) λr=>.I r:=x8 Tryz.func174 J λr h=>by unfold tT at h;exact S4 2 J<|S4 3 J<|M<|Λ
theorem tf{a}:PO Tryz.prog 175 [k8.Pv a] (tU a) λr=>.I r:=x8 Tryz.func175 J λr h=>by unfold tU at h;exact S4 2 J<|S4 3 J<|M<|Λ
theorem tg{a}:PO Tryz.prog 177 [k8.Pv a] (tV a) λr=>.I r:=x8 Tryz.func177 J λr h=>by unfold tV at h;exact S4 2 J<|S4 3 J<|M<|Λ
theorem KK{f:Fv}{e:k8}{r:Int}(h:vr f e=some r):∃n,f=some n/\D6 Tryz.prog n/\cd Tryz.prog n [k8.Pv e] (.I r):=by
 unfold vr at h;by_cases a:f=some 174
 .rw[zb a] at h;exact⟨174,a,(@te e).1,(@te e).2 _ h⟩
 rw[za a] at h;by_cases b:f=some 175
 .rw[zb b] at h;exact⟨175,b,(@tf e).1,(@tf e).2 _ h⟩
 rw[za b] at h;by_cases c:f=some 177
 .rw[zb c] at h;exact⟨177,c,(@tg e).1,(@tg e).2 _ h⟩
 rw[za c] at h;cases h
theorem mF{a}:PO Tryz.prog 52 [k8.Pv a] (al a) λr=>.I r:=x8 Tryz.func52 J λr h=>by unfold al at h;exact S4 2 J<|dr [] r7 Φ Φ<|s7 h λo s h=>cu J (x4 J Ab J s) J<|S7 2 J<|d4 J (ER (es:=o) (k:=a.Kind) (E:=(Ls n0.Pv)) (EK:=D) (d:=.tup [.L n0.Pv ((C4 o a.Kind).getD ([]:List n0)),.bool ((C4 o a.Kind).isSome)]) J J aE (A8 L1) UB J (lk2 _ _ ([]:List n0))) J<|S8 5 J<|g6<|S4 2 J<|Y h (λhc h=>S4 1 J<|M<|Λ) λhc h=>Z<|jq h (λ_=>St.of [] []) (λq9 h=>S4 1 J<|M<|Λ) λx h=>S3 1 J<|nL J dw<|S2 1 J<|c9<|lq h (λm=>St.of [(1,.ptr 1 0 0),(17,.L n0.Pv ((C4 o a.Kind).getD ([]:List n0))),(18,.I (((C4 o a.Kind).getD ([]:List n0)).length:Int)),(19,.I m)] [(1,U (k8.Pv a) 4)]) W λm w h b=>S4 1 J<|g6<|Y h (λhc h=>Z<|g6<|c9<|sR<|iL h J J dw R7 λu _ h=>S2 3 J<|S3 3 J<|by obtain⟨v,j,h⟩:=pJ h;obtain⟨t,e,f,g⟩:=KK j;exact R5 (XE 24 J e)<|y0 J (KR J f J g)<|S2 1 J<|S3 5 J<|O J (λc=>mI J)<|O J (λc=>oF J Oa J)<|O J (λc=>oS (ct c) J J F4 J)<|O J (λc=>z6 (ct c) (ct c) J)<|y0 J (D2 J J J (λq=>cV q))<|yN<|Y h (λhc h=>S4 3 J<|M<|have h:=xL b h;Λ) λhc h=>Z<|S6 2 J<|eL h W) λhc h=>n9<|c8<|c8<|l7<|have h:=xL b h;eJ h W
theorem DA{c}:PO Tryz.prog 47 [.L (Ls k8.Pv) c] (ir c) λr=>.bool r:=x8 Tryz.func47 J λr h=>S4 1 J<|g6<|S3 1 J<|nL J jI<|S2 1 J<|Y h (λhc h=>S4 1 J<|M<|Λ) λhc h=>Z<|jq h (λ_=>St.of [] []) (λs h=>S4 1 J<|M<|Λ) λm h=>S3 1 J<|nL J jI<|S2 1 J<|c9<|lq h (λb=>St.of [(10,.L (Ls k8.Pv) c),(11,.I (c.length:Int)),(12,.I b)] []) W λb x h a=>S4 1 J<|g6<|Y h (λhc h=>Z<|jq h (λ_=>St.of [(10,.L (Ls k8.Pv) c),(11,.I (c.length:Int)),(12,.I b)] []) (λt h=>S6 2 J<|eL h W) λo h=>c9<|sR<|iL h J J jI xl λk _ h=>S2 2 J<|g6<|S3 1 J<|nL J jJ<|S2 1 J<|Y h (λhc h=>S4 1 J<|M<|have h:=xL a h;Λ) λhc h=>Z<|S3 1 J<|nL J jJ<|S2 1 J<|c9<|lq h (λj=>St.of [(10,.L (Ls k8.Pv) c),(11,.I (c.length:Int)),(12,.I b),(19,.L k8.Pv k),(20,.I (k.length:Int)),(21,.I j)] []) W λj z h e=>S4 1 J<|g6<|Y h (λhc h=>Z<|g6<|c9<|sR<|iL h J J jJ mE λu _ h=>S2 3 J<|S3 1 J<|cA h Dz J J λv _ h=>S1 2 J<|O J (λf=>oL J J J Fu mE nl J)<|s7 h λw g h=>O J (λf=>F2 J mF (C3 (ct f) J) (I9 g f))<|O J (λf=>z6 (ct f) J J)<|y0 J (D2 J J J (λq=>cV q))<|yN<|Y h (λhc h=>S4 1 J<|M<|have h:=xL e h;have h:=xL a h;Λ) λhc h=>Z<|S6 2 J<|eL h W) λhc h=>n9<|c8<|c8<|l7<|have h:=xL e h;eJ h W) λhc h=>n9<|c8<|c8<|l7<|have h:=xL a h;eJ h W
theorem qm{e b}:PO Tryz.prog 159 [.I e,.I b] (bE e b) λr=>m8.Pv r:=x8 Tryz.func159 J λr h=>S4 1 J<|g6<|S3 3 J<|O J (λa=>mI J)<|O J (λa=>z6 (ct a) J J)<|y0 J (D2 J J J (λq=>cV q))<|S1 1 J<|O J (λa=>mI J)<|O J (λa=>z6 (ct a) J J)<|y0 J (D2 J J J (λq=>cV q))<|S1 1 J<|O J (λa=>mI J)<|O J (λa=>z6 (ct a) J J)<|y0 J (D2 J J J (λq=>cV q))<|yN<|Y h (λhc h=>sR<|y0 J (o6 (cs:=[.nl,.I 0]) J PZ Qk J J J)<|eZ (x':=.agg [.nl,.I 0]) (cl':=true) J J (.inl J) fV<|yN<|M<|Δe) λhc h=>Z<|S3 1 J<|s7 h λg c h=>y1 J (qi (f:=g7.Pv) c J J J cg bd rV LP J J J) J<|S1 1 J<|y0 J (o6 (cs:=[.sl 21,.I b]) J PZ Qk J J J)<|S2 1 J<|M<|Δe
theorem Hw{a b}:PO Tryz.prog 91 [.I a,.I b] (kM a b) λr=>b6.Pv r:=x8 Tryz.func91 J λr h=>S4 1 J<|S3 2 J<|cF h qm J J λc _ h=>y0 J (o6 (cs:=[.L g7.Pv c.b7,.I c.Last,.I 0]) J Qa Ql J J J)<|S2 1 J<|M<|by cases h;exact⟨J,[_],⟨oL J J J oi oy nl J,tr⟩,J,io⟩
theorem yV{j}:PO Tryz.prog 25 [.I j] (Dk j) λr=>.L l4.Pv r:=x8 Tryz.func25 J λr h=>S4 1 J<|g6<|S3 3 J<|O J (λk=>mI J)<|O J (λk=>z6 (ct k) J J)<|y0 J (D2 J J J (λq=>cV q))<|yN<|Y h (λhc h=>S4 1 J<|M<|Λ) λhc h=>Z<|S3 1 J<|s7 h λt c h=>y1 J (qi (f:=l4.Pv) c J J J V4 Z0 FE LO J J J) J<|S2 1 J<|jq h (λm=>St.of [(3,.sl 12)] [(12,⟨List.map l4.Pv m,0,true,3,true⟩)]) (λm h=>S4 2 J<|M<|Λ) λw h=>S3 1 J<|y0 J (Jb (f:=l4.Pv) J J J V4)<|S2 1 J<|c9<|lq h (λq=>St.of [(3,.sl 12),(14,.I (t.length:Int)),(15,.I q.1)] [(12,⟨List.map l4.Pv q.2,0,true,3,true⟩)]) W λg u h e=>by obtain⟨o,s⟩:=g;exact S4 1 J<|g6<|Y h (λhc h=>Z<|g6<|c9<|S4 2 J<|S5 2 J<|s7 h λb a h=>y0 J (Q4 (f:=l4.Pv) a J J J J V4 Z0 J)<|S1 1 J<|gW (f:=l4.Pv) (v:=(⟨b.Target,b.Intact,(-1)⟩:l4)) a J J (.inl J) n8<|yN<|S6 2 J<|eL h W) λhc h=>n9<|c8<|c8<|l7<|have h:=xL e h;eJ h W
theorem IF{b}:PO Tryz.prog 92 [.I b] (vy b) λr=>.L g8.Pv r:=x8 Tryz.func92 J λr h=>S4 1 J<|g6<|S3 3 J<|O J (λc=>mI J)<|O J (λc=>z6 (ct c) J J)<|y0 J (D2 J J J (λq=>cV q))<|yN<|Y h (λhc h=>S4 1 J<|M<|Λ) λhc h=>Z<|S3 1 J<|s7 h λe a h=>y1 J (qi (f:=g8.Pv) a J J J fi fa Ax LQ J J J) J<|S2 1 J<|M<|Λ
theorem pf{a}:PO Tryz.prog 160 [.I a] (dU a) λr=>k9.Pv r:=x8 Tryz.func160 J λr h=>by unfold dU at h;exact S4 1 J<|S3 1 J<|y0 J (o6 (cs:=[.nl,.I a]) J Kh Km J J J)<|eZ (x':=.agg [.nl,.I a]) (cl':=true) J J (.inl J) dP<|yN<|M<|Δf
theorem yK:PO Tryz.prog 93 [] (CX) λr=>k9.Pv r:=x8 Tryz.func93 J λr h=>S4 1 J<|sR<|cF h pf J J λa _ h=>S2 1 J<|M<|Δf
theorem II{o s t}:PO Tryz.prog 48 [.I o,.I s,.I t] (nj o s t) λr=>c7.Pv r:=x8 Tryz.func48 J λr h=>S4 1 J<|g6<|S3 3 J<|O J (λa=>mI J)<|O J (λa=>z6 (ct a) J J)<|y0 J (D2 J J J (λq=>cV q))<|S1 1 J<|O J (λa=>mI J)<|O J (λa=>z6 (ct a) J J)<|y0 J (D2 J J J (λq=>cV q))<|S1 1 J<|O J (λa=>mI J)<|O J (λa=>z6 (ct a) J J)<|y0 J (D2 J J J (λq=>cV q))<|S1 1 J<|O J (λa=>mI J)<|O J (λa=>z6 (ct a) J J)<|y0 J (D2 J J J (λq=>cV q))<|S1 1 J<|O J (λa=>mI J)<|O J (λa=>z6 (ct a) J J)<|y0 J (D2 J J J (λq=>cV q))<|yN<|Y h (λhc h=>sR<|y0 J (o6 (cs:=[.nl,.I 0,.I 0,.nl,.nl,.nl,.nl,.I 0]) J Qc Qm J J J)<|eZ (x':=.agg [.nl,.I 0,.I 0,.nl,.nl,.nl,.nl,.I 0]) (cl':=true) J J (.inl J) u9<|yN<|M<|Ωf) λhc h=>Z<|dr [] r7 Φ Φ<|S7 2 J<|s7 h λb e h=>cu J (x4 J Hw J e) J<|s7 h λv2 g h=>d1 J (qi (f:=D) g J J J m7 n8 A2 H7 J J J) J J J<|s7 h λv3 j h=>cu J (x4 J yV J j) J<|S7 1 J<|s7 h λu k h=>cu J (x4 J IF J k) J<|s7 h λc m h=>cu J (x4 J yK J m) J<|d7 J (λ_ v=>o6 (cs:=[.L g7.Pv b.S.b7,.I b.S.Last,.I b.Serial,.sl 33,.L l4.Pv v3,.L g8.Pv u,.L k7.Pv c.L,.I c.Cap]) J Qc Qm J J J) J<|B4 (x':=.agg [.L g7.Pv b.S.b7,.I b.S.Last,.I b.Serial,.sl 33,.L l4.Pv v3,.L g8.Pv u,.L k7.Pv c.L,.I c.Cap]) (cl':=false) J J (.inr J) u9<|E9<|M<|Ωf
theorem tu{b c e a}:PO Tryz.prog 20 [.I b,.I c,.I e,.L (Ls k8.Pv) a] (bo b c e a) λr=>.tup [y5.Pv r.1,.I r.2]:=x8 Tryz.func20 J λr h=>S4 2 J<|g6<|S3 1 J<|cA h DA J J λf _ h=>S2 1 J<|Y h (λhc h=>sR<|y0 J (o6 (cs:=[.nl,.I 0,.I 0,.nl,.nl,.nl,.nl,.I 0,.nl]) J Ki Ko J J J)<|eZ (x':=.agg [.nl,.I 0,.I 0,.nl,.nl,.nl,.nl,.I 0,.nl]) (cl':=true) J J (.inl J) fk<|S2 1 J<|M<|ΩP) λhc h=>Z<|S3 3 J<|cF h II J J λv2 _ h=>S2 2 J<|g6<|S3 2 J<|nL J m7<|S2 1 J<|Y h (λhc h=>sR<|y0 J (o6 (cs:=[.nl,.I 0,.I 0,.nl,.nl,.nl,.nl,.I 0,.nl]) J Ki Ko J J J)<|eZ (x':=.agg [.nl,.I 0,.I 0,.nl,.nl,.nl,.nl,.I 0,.nl]) (cl':=true) J J (.inl J) fk<|S2 1 J<|M<|ΩP) λhc h=>Z<|S3 2 J<|y0 J (o6 (cs:=[.L g7.Pv v2.S.S.b7,.I v2.S.S.Last,.I v2.S.Serial,.L D v2.Roots,.L l4.Pv v2.b7,.L g8.Pv v2.T,.L k7.Pv v2.Q.L,.I v2.Q.Cap,.L (Ls k8.Pv) a]) J Ki Ko J J J)<|S2 2 J<|M<|ΩP
theorem vO{k b c e}:PO Tryz.prog 7 [.I k,.I b,.I c,.L (Ls k8.Pv) e] (dA k b c e) λr=>.tup [a8.Pv r.1,.I r.2]:=x8 Tryz.func7 J λr h=>S4 2 J<|g6<|S3 4 J<|cF h tu J J λq _ h=>S2 6 J<|S4 2 J<|Y h (λhc h=>sR<|y0 J (o6 (cs:=[.nl,.nl,.nl,.I 0,.I 0,.I 0,.nl,.nl,.nl,.nl,.nl]) J PY Qj J J J)<|S1 1 J<|eZ (x':=.agg [.nl,.nl,.nl,.I 0,.I 0,.I 0,.nl,.nl,.nl,.nl,.nl]) (cl':=true) J J (.inl J) y7<|S2 1 J<|M<|Ωl) λhc h=>Z<|dr [] r7 Φ Φ<|S7 1 J<|s7 h λv2 a h=>d1 J (qi (f:=D) a J J J m7 n8 A2 H7 J J J) J J J<|S7 1 J<|d1 J (qi (f:=D) a J J J m7 n8 A2 H7 J J J) J J J<|S7 2 J<|s7 h λv3 g h=>d1 J (qi (f:=D) g J J J m7 n8 A2 H7 J J J) J J J<|s7 h λm j h=>cu J (x4 J yV J j) J<|S7 1 J<|d7 J (λ_ o=>o6 (cs:=[.nl,.sl 25,.sl 27,.I b,.I c,.I 0,.sl 30,.L l4.Pv m,.nl,.nl,.L (Ls k8.Pv) e]) J PY Qj J J J) J<|B4 (x':=.agg [.nl,.sl 25,.sl 27,.I b,.I c,.I 0,.sl 30,.L l4.Pv m,.nl,.nl,.L (Ls k8.Pv) e]) (cl':=false) J J (.inl J) y7<|S8 1 J<|M<|Ωl
theorem qy{k}:PO Tryz.prog 34 [.L D k] (Z2 k) λr=>.tup [k8.Pv r.1,.I r.2]:=x8 Tryz.func34 J λr h=>S4 2 J<|g6<|S3 1 J<|nL J m7<|S2 1 J<|Y h (λhc h=>sR<|y0 J (o6 (cs:=[.I 0,.I 0,.I 0,.I 0]) J FB Bk J J J)<|S2 2 J<|M<|Δa) λhc h=>Z<|dr [] r7 Φ Φ<|S7 1 J<|s7 h λg a h=>d0 J (A0 (f:=D) (cs:=[.I g]) a J J m7 n8 J J) J<|S7 2 J<|s7 h λv2 b h=>d0 J (A0 (f:=D) (cs:=[.I v2]) b J J m7 n8 J J) J<|S7 2 J<|s7 h λv3 c h=>d0 J (A0 (f:=D) (cs:=[.I v3]) c J J m7 n8 J J) J<|S7 2 J<|s7 h λj e h=>d0 J (A0 (f:=D) (cs:=[.I j]) e J J m7 n8 J J) J<|S7 1 J<|d7 J (λ_ m=>o6 (cs:=[.I g,.I v2,.I v3,.I j]) J FB Bk J J J) J<|S7 1 J<|B4 (x':=.agg [.I g,.I v2,.I v3,.I j]) (cl':=true) J J (.inl J) mE<|E9<|g6<|S3 1 J<|cA h mF J J λo _ h=>S2 1 J<|S4 2 J<|Y h (λhc h=>sR<|y0 J (o6 (cs:=[.I 0,.I 0,.I 0,.I 0]) J FB Bk J J J)<|S2 3 J<|M<|Δa) λhc h=>Z<|S4 3 J<|M<|Δa
theorem uh{a}:PO Tryz.prog 103 [b8.Pv a] (jQ a) λr=>.bool r:=x8 Tryz.func103 J λr h=>by unfold jQ at h;exact S4 2 J<|S4 3 J<|M<|Λ
theorem aX{a}:PO Tryz.prog 45 [.L b8.Pv a,.fn (.func 103) []] (F1 a) λr=>.L b8.Pv r:=x8 Tryz.func45 J λr h=>S4 1 J<|S4 1 J<|jq h (λe=>St.of [(5,.sl 910005)] [(910005,w7 b8.Pv e 7)]) (λe h=>S4 2 J<|M<|Λ) λo h=>S3 1 J<|nL J D0<|S2 1 J<|c9<|lq h (λq=>St.of [(1,.fn (.func 103) []),(5,.sl 910005),(8,.L b8.Pv a),(9,.I (a.length:Int)),(10,.I q.1)] [(910005,w7 b8.Pv q.2 7)]) (bP 5 920005 7 910005) λj w h c=>by obtain⟨k,t⟩:=j;exact S4 1 J<|g6<|Y h (λhc h=>Z<|jq h (λg=>St.of [(1,.fn (.func 103) []),(5,.sl 20),(8,.L b8.Pv a),(9,.I (a.length:Int)),(10,.I k)] [(20,w7 b8.Pv g 7)]) (λg h=>S6 2 J<|eL h (y8 [20] (M4 910005 20))) λs h=>c9<|sR<|iL h J J D0 z8 λm _ h=>S2 3 J<|S3 2 J<|cA h uh J J λu _ h=>yN<|Y h (λhc h=>S5 2 J<|y0 J (G6 (f:=b8.Pv) (l:=[m]) J D0 z8 bf J J nl J J)<|s7 h λv b h=>G3 J (E3 (f:=b8.Pv) b J J J J J J (.inl ⟨_,J,J⟩) D0 z8 ou bf J (λ_=>J)) J J J<|S2 1 J<|eJ h (E2 [20])) λhc h=>Z<|eJ h (y8 [910005] (M4 20 910005))) λhc h=>n9<|c8<|c8<|l7<|have h:=xL c h;eJ h (E2 [910005])
theorem ui{a}:PO Tryz.prog 89 [b8.Pv a] (jS a) λr=>.I r:=x8 Tryz.func89 J λr h=>by unfold jS at h;exact S4 2 J<|S4 3 J<|M<|Λ
theorem Z5{e}:PO Tryz.prog 88 [.L b8.Pv e,.fn (.func 89) []] (D8 e) λr=>.L D r:=x8 Tryz.func88 J λr h=>S4 1 J<|S4 1 J<|jq h (λc=>St.of [(5,.sl 910005)] [(910005,w7 D c 1)]) (λc h=>S4 2 J<|M<|Λ) λu h=>S3 1 J<|nL J D0<|S2 1 J<|c9<|lq h (λq=>St.of [(1,.fn (.func 89) []),(5,.sl 910005),(8,.L b8.Pv e),(9,.I (e.length:Int)),(10,.I q.1)] [(910005,w7 D q.2 1)]) (bP 5 920005 1 910005) λg t h b=>by obtain⟨k,m⟩:=g;exact S4 1 J<|g6<|Y h (λhc h=>Z<|g6<|c9<|sR<|iL h J J D0 z8 λo _ h=>S2 3 J<|S5 3 J<|cA h ui J J λj _ h=>y0 J (G6 (f:=D) (l:=[j]) J m7 n8 A2 J J nl J J)<|s7 h λs a h=>G3 J (E3 (f:=D) a J J J J J J (.inl ⟨_,J,J⟩) m7 n8 H7 A2 J (λ_=>J)) J J J<|S2 1 J<|S6 2 J<|eL h (y8 [19] (M4 910005 19))) λhc h=>n9<|c8<|c8<|l7<|have h:=xL b h;eJ h (E2 [910005])
theorem dC{a}:PO Tryz.prog 44 [.L b8.Pv a] (L6 a) λr=>.L D r:=x8 Tryz.func44 J λr h=>S4 1 J<|S3 1 J<|cF h Z5 J J λb _ h=>S2 1 J<|M<|Λ
theorem nD{a}:PO Tryz.prog 104 [.I a] (eP a) λr=>g9.Pv r:=x8 Tryz.func104 J λr h=>by unfold eP at h;exact S4 1 J<|S3 1 J<|y0 J (o6 (cs:=[.nl,.I a]) J Un UC J J J)<|eZ (x':=.agg [.nl,.I a]) (cl':=true) J J (.inl J) lV<|yN<|M<|by cases h;exact⟨J,[_],⟨oL J J J rP lV nl J,tr⟩,J,io⟩
theorem dE{a}:PO Tryz.prog 86 [a8.Pv a] (ar a) λr=>k9.Pv r:=x8 Tryz.func86 J λr h=>by unfold ar at h;exact S4 2 J<|dr [] r7 Φ Φ<|S7 2 J<|s7 h λc b h=>cu J (x4 J yK J b) J<|S7 1 J<|d7 J (λ_ e=>o6 (cs:=[.L k7.Pv a.Tasks,.I c.Cap]) J Kh Km J J J) J<|B4 (x':=.agg [.L k7.Pv a.Tasks,.I c.Cap]) (cl':=true) J J (.inr J) dP<|E9<|M<|Δf
theorem CY{a b}:PO Tryz.prog 157 [k9.Pv a,.I b] (sF a b) λr=>.fn (.func 200) [.rptr (k9.Pc r.1),.rptr [.I r.2]]:=x8 Tryz.func157 J λr h=>by unfold sF at h;exact S4 3 J<|S4 2 J<|M<|Λ
theorem wL{w}:PO Tryz.prog 85 [k9.Pv w] (iJ w) λr=>.L D r:=by
 refine x8 Tryz.func85 J λr h=>?_;refine S4 2 J<|S4 1 J ?_;refine jq h (λo=>St.of [(3,.ptr 2001 0 0)] [(2001,vS (.sl 912501) 1),(912501,w7 D o 1)]) (λo h=>?_) λH h=>?_
 .exact S4 2 J<|M<|Λ
 .refine S3 1 J ?_;refine cF h CY J J λa _ h=>yN<|c9<|de (uJ (M4 2011 3) [(3,.ptr 2011 0 0),(6,.fn (.func 200) [.rptr (k9.Pc a.1),.rptr [.I a.2]])] [(2011,U (.nl) 1)]) ?_;refine dc (fn:=Tryz.f200) (N1:=24) J Tryz.func200 J J nl J LS J J (λc x C g=>?_);refine S3 2 J<|nL J L2<|S2 1 J<|c9<|lq h (λq=>St.of [(1000003,.ptr 2011 0 0),(1000006,.fn (.func 200) [.rptr (k9.Pc a.1),.rptr [.I a.2]]),(0,.fn (.yield c) []),(2,.rptr [.I a.2]),(7,.L k7.Pv a.1.L),(8,.I (a.1.L.length:Int)),(9,.I q.1)] [(2011,vS (.sl 912511) 1),(912511,w7 D q.2 1)]) (Wk.trans (wZ (l0:=2011) (j:=0) (l:=922511) (z:=1) J J J J J) (WP (M4 912511 922511))) λu G h m=>?_;obtain⟨s,t⟩:=u;refine S4 1 J<|g6 ?_;refine Y h (λhc h=>?_) λhc h=>?_
  .refine Z ?_;refine g6<|c9<|sR<|iL h J J L2 F0 λe _ h=>S2 3 J<|S3 5 J<|O J (λB=>om (d:=.fn (.yield c) []) J)<|O J (λB=>oL J J J dv F0 nl J) ?_;rcases za3 ((e.Kind==a.2)==true) with b | b
   .exact have h:=Xo h b;R5 (uJ (M4 2019 912511) [(1000003,.ptr 2011 0 0),(1000006,.fn (.func 200) [.rptr (k9.Pc a.1),.rptr [.I a.2]]),(0,.fn (.yield c) []),(2,.rptr [.I a.2]),(7,.L k7.Pv a.1.L),(8,.I (a.1.L.length:Int)),(9,.I s),(17,.bool (e.Kind==a.2)),(18,.fn (.yield c) []),(19,k7.Pv e)] [(2011,vS (.sl 2019) 1),(2019,w7 D t 1)])<|kB g (zY some b) J J J J J (λA E F=>S6 2 J<|⟨J,c9<|S5 3 J<|y0 J (G6 (f:=D) (l:=[e.At]) J m7 n8 A2 J J nl J J)<|s7 h λv k h=>G3 J (E3 (f:=D) k J J J J J J (.inl ⟨_,J,J⟩) m7 n8 H7 A2 J (λ_=>J)) J J J<|S2 1 J<|⟨J,R5 (uJ (M4 2020 12) [(1000003,.ptr 2011 0 0),(1000006,.fn (.func 200) [.rptr (k9.Pc a.1),.rptr [.I a.2]]),(0,.fn (.yield c) []),(2,.rptr [.I a.2]),(7,.L k7.Pv a.1.L),(8,.I (a.1.L.length:Int)),(9,.I s),(17,.bool (e.Kind==a.2)),(20,.bool true)] [(2011,vS (.sl 2020) 1),(2020,⟨List.map D v,t.length,true,1,true⟩)])<|y0 (zY some b) (bb J J)<|y0 J (mn J J b)<|yN<|J9 false J (λq=>nomatch q) (λ_=>Z<|S6 2 J<|eL h (y8 [2020] (M4 912511 2020)))⟩⟩)
   .exact have h:=Xn h b;ee (zY some b)<|ee (zY some b)<|y0 J (pc J J b)<|yN<|J9 false J (λq=>nomatch q) (λ_=>Z<|S6 2 J<|eL h (E2 [912511]))
  .exact n9<|c8<|c8<|l7<|.inl ⟨J,have h:=xL m h;eJ h (y8 [912511] (λl=>if l=2001 then 2011 else if l=912501 then 912511 else l))⟩
theorem eX{b}:PO Tryz.prog 87 [.L (Ls D) b] (J1 b) λr=>.L D r:=by
 refine x8 Tryz.func87 J λr h=>?_;refine S4 1 J<|S4 1 J ?_;refine jq h (λa=>St.of [(0,.L (Ls D) b),(3,.I a)] []) (λa h=>?_) λz h=>?_
 .refine S3 1 J ?_;refine R5 (WE [(0,.L (Ls D) b),(23,.I a)] []) ?_;refine xc (fn:=Tryz.f158) (N1:=27) J J Tryz.func158 J TU J J nl (λe8 o9=>?_);refine S4 1 J ?_;refine jq h (λ_=>St.of [(1000000,.L (Ls D) b),(1000023,.I a),(0,.nl),(1,.I a)] []) (λF h=>?_) λA h=>?_
  .exact g6<|S3 2 J<|NK J J m7<|S1 1 J<|nL (f:=D) (xs:=[]) J m7<|S2 3 J<|S4 2 J<|Y h (λhc h=>S5 2 J<|NK J J m7<|y0 J (AJ (t':=true) (xs:=[]) (ys:=[]) J m7 n8 (λ_ q=>nomatch q) J ⟨_,J⟩ J (λq=>nomatch q) (zC _) (zU _) (zC _) J J)<|S1 1 J<|s7 h λS c h=>XG (f:=D) J c J nl J J m7 L1 n8 nl A2 H7 J J J<|S1 1 J<|nL (f:=D) (xs:=[]) J m7<|Tz [(1000000,.L (Ls D) b),(1000023,.I a),(0,.nl),(1,.I (y4 (a-(y4 (0-0))))),(8,.I a),(9,.nl),(10,.I 0),(11,.nl),(12,.I 0),(13,.I (y4 (0-0))),(14,.I (y4 (a-(y4 (0-0))))),(15,.I (y4 (a-(y4 (0-0))))),(16,.bool (decide ((y4 (a-(y4 (0-0)))) > 0))),(17,.nl),(18,.nl),(19,.I 0),(20,.nl),(21,.I (y4 (a-(y4 (0-0))))),(23,.nl),(24,.I 0)] [] J ⟨J,J,J,J,J,J,J,J,J,J,J,J,J,J,J,J,J,J,J,J,J,J,J,J,J,J,J,J,J,J,J,J,J,J,J,J,J,J,J,J,J,J,J,J,J,J,J,J,J,J,J,J,J,J,J,J,J,J,J,J,tr⟩ tr J J nl J J J m7 n8<|S2 1 J<|S4 2 J<|M<|⟨J,[.sl 25],⟨J,tr⟩,R5 (uJ (M4 2001 25) [(0,.L (Ls D) b),(24,.sl 2001)] [(2001,⟨List.map D [],0,true,1,true⟩)])<|S2 1 J<|jq h (λo=>St.of [(6,.sl 2001)] [(2001,w7 D o 1)]) (λo h=>S4 2 J<|M<|Λ) λB h=>S3 1 J<|nL J ak<|S2 1 J<|c9<|lq h (λq=>St.of [(6,.sl 2001),(25,.L (Ls D) b),(26,.I (b.length:Int)),(27,.I q.1)] [(2001,w7 D q.2 1)]) (E2 [2001]) λu x27 h j=>by obtain⟨G,H⟩:=u;exact S4 1 J<|g6<|Y h (λhc h=>Z<|g6<|c9<|sR<|iL h J J ak aF λT _ h=>S2 2 J<|S5 2 J<|s7 h λV e h=>G3 J (E3 (f:=D) e J J J J J J (.inl ⟨_,J,J⟩) m7 n8 H7 A2 J (λ_=>J)) J J J<|S2 1 J<|S6 2 J<|eL h (y8 [33] (M4 2001 33))) λhc h=>n9<|c8<|c8<|l7<|have h:=xL j h;eJ h (E2 [2001])⟩) λhc h=>Z<|S4 2 J<|M<|⟨J,[.nl],⟨J,tr⟩,R5 (WE [(0,.L (Ls D) b),(24,.nl)] [])<|S2 1 J<|jq h (λs=>St.of [(6,.sl 910006)] [(910006,w7 D s 1)]) (λs h=>S4 2 J<|M<|Λ) λC h=>S3 1 J<|nL J ak<|S2 1 J<|c9<|lq h (λq=>St.of [(6,.sl 910006),(25,.L (Ls D) b),(26,.I (b.length:Int)),(27,.I q.1)] [(910006,w7 D q.2 1)]) (bP 6 920006 1 910006) λv x43 h k=>by obtain⟨N,P⟩:=v;exact S4 1 J<|g6<|Y h (λhc h=>Z<|g6<|c9<|sR<|iL h J J ak aF λv45 _ h=>S2 2 J<|S5 2 J<|s7 h λv46 g h=>G3 J (E3 (f:=D) g J J J J J J (.inl ⟨_,J,J⟩) m7 n8 H7 A2 J (λ_=>J)) J J J<|S2 1 J<|S6 2 J<|eL h (y8 [33] (M4 910006 33))) λhc h=>n9<|c8<|c8<|l7<|have h:=xL k h;eJ h (E2 [910006])⟩
  .refine S4 2 J ?_;refine Y h (λhc h=>?_) λhc h=>?_;·cases h
   .exact Z<|eJ h W
 .refine S3 1 J ?_;refine nL J ak<|S2 1 J<|c9<|lq h (λq=>St.of [(0,.L (Ls D) b),(3,.I q.1),(9,.L (Ls D) b),(10,.I (b.length:Int)),(11,.I q.2)] []) W λw x50 h m=>?_;obtain⟨R,x⟩:=w;refine S4 1 J<|g6 ?_;refine Y h (λhc h=>?_) λhc h=>?_
  .refine Z ?_;refine jq h (λt=>St.of [(0,.L (Ls D) b),(3,.I t),(9,.L (Ls D) b),(10,.I (b.length:Int)),(11,.I x)] []) (λt h=>?_) λE h=>?_
   .exact S6 2 J<|eL h W
   .refine c9 ?_;refine sR<|iL h J J ak aF λv55 _ h=>S2 2 J<|S3 2 J<|nL J m7<|S2 2 J<|S4 2 J ?_;refine Y h (λhc h=>?_) λhc h=>?_;·cases h
    .exact Z<|eJ h W
  .exact n9<|c8<|c8<|l7<|have h:=xL m h;eJ h W
theorem W8{a}:PO Tryz.prog 107 [g9.Pv a] (N9 a) λr=>.I r:=x8 Tryz.func107 J λr h=>by unfold N9 at h;exact S4 2 J<|S3 2 J<|nL J m7<|S2 1 J<|M<|Λ
theorem gK{b c e}:PO Tryz.prog 181 [.L D b,.I c,.I e] (X8 b c e) λr=>.lst true (List.map D r):=x8 Tryz.func181 J λr h=>by unfold X8 at h;exact S4 1 J<|S3 4 J<|s7 h λg a h=>y0 J (RZ (f:=D) a J ⟨_,J⟩ ⟨_,J⟩ ⟨_,J⟩ J J m7 n8 (λ_=>J))<|S2 1 J<|M<|Λ
theorem Z8{b c}:PO Tryz.prog 106 [g9.Pv b,.I c] (H0 b c) λr=>.tup [g9.Pv r.1,.I r.2]:=x8 Tryz.func106 J λr h=>by unfold H0 at h;exact S4 3 J<|g6<|dr [] r7 Φ Φ<|S7 1 J<|s7 h λj a h=>d2 J (F2 J W8 J a) J<|S8 3 J<|Y h (λhc h=>S4 3 J<|M<|Δb) λhc h=>Z<|dr [] r7 Φ Φ<|S7 3 J<|d2 J (F2 J W8 J a) J<|s7 h λv2 e h=>cu J (x4 J gK J e) J<|S7 1 J<|Ow J (G6 (f:=D) (l:=[c]) J m7 n8 A2 J J nl J J) J<|s7 h λv3 g h=>d3 J (eO (f:=D) g J J (.inl ⟨_,J,J⟩) m7 n8 H7 A2 J (λ_=>J)) J J J<|S7 1 J<|B4 (x':=.agg [.sl 19,.I b.Cap]) (cl':=false) J J (.inl J) aF<|E9<|S4 3 J<|M<|Δb
theorem uw{a e}:PO Tryz.prog 182 [g9.Pv a,.I e] (jV a e) λr=>.tup [g9.Pv r.1,.L D r.2]:=x8 Tryz.func182 J λr h=>S4 3 J<|S3 2 J<|cA h W8 J J λf b h=>y0 J (Xu J J J)<|y0 J (Sa J J J)<|S2 1 J<|S3 3 J<|cF h gK J J λv2 _ h=>S2 1 J<|dr [] r7 Φ Φ<|S7 4 J<|d2 J (F2 J W8 J b) J<|s7 h λv3 c h=>cu J (x4 J gK J c) J<|S7 1 J<|B4 (x':=.agg [.L D v3,.I a.Cap]) (cl':=true) J J (.inr J) aF<|E9<|S4 4 J<|M<|Δb
theorem nE{b}:PO Tryz.prog 108 [g9.Pv b] (bW b) λr=>.tup [g9.Pv r.1,.I r.2.1,.I r.2.2]:=x8 Tryz.func108 J λr h=>S4 4 J<|S3 1 J<|cF h uw J J λe _ h=>S2 6 J<|g6<|S3 1 J<|nL J m7<|S2 1 J<|Y h (λhc h=>S4 1 J<|S4 5 J<|M<|Δp) λhc h=>Z<|dr [2,3] r7 Φ Φ<|S7 2 J<|s7 h λv2 a h=>d7 J (λ_ c=>A0 (f:=D) (cs:=[.I v2]) a J J m7 n8 J J) J<|d7 J (λ_ c=>I5 J F4 J) J<|B4 (x':=g9.Pv e.1) (cl':=true) J J (.inr J) lV<|S8 2 J<|M<|Δp
theorem Ah{a b}:PO Tryz.prog 183 [b8.Pv a,.rptr [.I b]] (gE a b) λr=>.bool r:=x8 Tryz.func183 J λr h=>by unfold gE at h;exact S4 2 J<|S4 5 J<|M<|Λ
theorem U1{b c}:PO Tryz.prog 115 [.L b8.Pv b,.fn (.func 183) [.rptr [.I c]]] (B6 b c) λr=>.I r:=x8 Tryz.func115 J λr h=>S4 1 J<|jq h (λ_=>St.of [] []) (λm h=>S4 1 J<|M<|Λ) λk h=>S3 1 J<|nL J D0<|S2 1 J<|c9<|lq h (λe=>St.of [(0,.L b8.Pv b),(1,.fn (.func 183) [.rptr [.I c]]),(7,.I (b.length:Int)),(8,.I e)] []) W λe j h a=>S4 1 J<|g6<|Y h (λhc h=>Z<|g6<|c9<|S4 2 J<|S3 3 J<|iL h J J D0 z8 λf _ h=>S1 1 J<|cA h Ah J J λg _ h=>yN<|Y h (λhc h=>S4 2 J<|M<|have h:=xL a h;Λ) λhc h=>Z<|S6 2 J<|eL h W) λhc h=>n9<|c8<|c8<|l7<|have h:=xL a h;eJ h W
theorem W2{a b}:PO Tryz.prog 109 [a8.Pv a,.I b] (M3 a b) λr=>.I r:=x8 Tryz.func109 J λr h=>S4 3 J<|S3 3 J<|cA h U1 J J λc _ h=>S2 1 J<|M<|Λ
theorem sV{a b}:PO Tryz.prog 184 [l5.Pv a,.rptr [.I b]] (dD a b) λr=>.bool r:=x8 Tryz.func184 J λr h=>by unfold dD at h;exact S4 2 J<|S4 5 J<|M<|Λ
theorem aM{a j}:PO Tryz.prog 121 [.L l5.Pv a,.fn (.func 184) [.rptr [.I j]]] (E7 a j) λr=>.L l5.Pv r:=x8 Tryz.func121 J λr h=>S4 1 J<|S4 1 J<|jq h (λe=>St.of [(5,.sl 910005)] [(910005,w7 l5.Pv e 2)]) (λe h=>S4 2 J<|M<|Λ) λs h=>S3 1 J<|nL J O1<|S2 1 J<|c9<|lq h (λq=>St.of [(1,.fn (.func 184) [.rptr [.I j]]),(5,.sl 910005),(8,.L l5.Pv a),(9,.I (a.length:Int)),(10,.I q.1)] [(910005,w7 l5.Pv q.2 2)]) (bP 5 920005 2 910005) λk x h c=>by obtain⟨m,u⟩:=k;exact S4 1 J<|g6<|Y h (λhc h=>Z<|jq h (λg=>St.of [(1,.fn (.func 184) [.rptr [.I j]]),(5,.sl 20),(8,.L l5.Pv a),(9,.I (a.length:Int)),(10,.I m)] [(20,w7 l5.Pv g 2)]) (λg h=>S6 2 J<|eL h (y8 [20] (M4 910005 20))) λt h=>c9<|sR<|iL h J J O1 V5 λo _ h=>S2 3 J<|S3 2 J<|cA h sV J J λv _ h=>yN<|Y h (λhc h=>S5 2 J<|y0 J (G6 (f:=l5.Pv) (l:=[o]) J O1 V5 bg J J nl J J)<|s7 h λw b h=>G3 J (E3 (f:=l5.Pv) b J J J J J J (.inl ⟨_,J,J⟩) O1 V5 rR bg J (λ_=>J)) J J J<|S2 1 J<|eJ h (E2 [20])) λhc h=>Z<|eJ h (y8 [910005] (M4 20 910005))) λhc h=>n9<|c8<|c8<|l7<|have h:=xL c h;eJ h (E2 [910005])
theorem sW{a}:PO Tryz.prog 185 [l5.Pv a] (iA a) λr=>.I r:=x8 Tryz.func185 J λr h=>by unfold iA at h;exact S4 2 J<|S4 3 J<|M<|Λ
theorem Y7{e}:PO Tryz.prog 83 [.L l5.Pv e,.fn (.func 185) []] (G8 e) λr=>.L D r:=x8 Tryz.func83 J λr h=>S4 1 J<|S4 1 J<|jq h (λc=>St.of [(5,.sl 910005)] [(910005,w7 D c 1)]) (λc h=>S4 2 J<|M<|Λ) λu h=>S3 1 J<|nL J O1<|S2 1 J<|c9<|lq h (λq=>St.of [(1,.fn (.func 185) []),(5,.sl 910005),(8,.L l5.Pv e),(9,.I (e.length:Int)),(10,.I q.1)] [(910005,w7 D q.2 1)]) (bP 5 920005 1 910005) λg t h b=>by obtain⟨k,m⟩:=g;exact S4 1 J<|g6<|Y h (λhc h=>Z<|g6<|c9<|sR<|iL h J J O1 V5 λo _ h=>S2 3 J<|S5 3 J<|cA h sW J J λj _ h=>y0 J (G6 (f:=D) (l:=[j]) J m7 n8 A2 J J nl J J)<|s7 h λs a h=>G3 J (E3 (f:=D) a J J J J J J (.inl ⟨_,J,J⟩) m7 n8 H7 A2 J (λ_=>J)) J J J<|S2 1 J<|S6 2 J<|eL h (y8 [19] (M4 910005 19))) λhc h=>n9<|c8<|c8<|l7<|have h:=xL b h;eJ h (E2 [910005])
theorem mj{b c}:PO Tryz.prog 110 [a8.Pv b,.I c] (O8 b c) λr=>.L D r:=x8 Tryz.func110 J λr h=>by unfold O8 at h;exact S4 3 J<|S3 3 J<|s7 h λe a h=>Ka J (x4 J aM J a) J<|S2 1 J<|S3 1 J<|cF h Y7 J J λv2 _ h=>S2 1 J<|M<|Λ
theorem xM{e}:PO Tryz.prog 53 [a8.Pv e] (iY e) λr=>.abs (Y2 (List.map (dx D PV.bool) r)):=x8 Tryz.func53 J λr h=>S4 2 J<|S3 2 J<|cF h aX J J λv1 _ h=>cF h dC J J λv2 _ h=>S2 1 J<|sR<|Fl (KT:=Int) (VT:=Bool) (EK:=D) (E:=PV.bool) 5000012 J J<|aV (es:=[]) (k:=0) (v:=true) (E:=PV.bool) (EK:=D) (.inr J) J J J J J J V0 (A8 L1)<|S2 3 J<|S3 2 J<|nL J D0<|cF h nD J J λv3 _ h=>S2 2 J<|S4 2 J<|drY [] 9 r7 Φ Φ Φ Φ nl<|S7 4 J<|s7 h λv4 hv4 h=>cu J (x4 J dE J hv4) J<|s7 h λv5 hv5 h=>cu J (x4 J wL J hv5) J<|S7 1 J<|Ow J (G6 (f:=(Ls D)) (l:=[e.Roots,v5,v2]) J ak aF Bj J J nl J J) J<|s7 h λz hv6 h=>cu J (x4 J eX J hv6) J<|E9<|GK (uJ (λl=>if l=2001 then 5 else if l=2002 then 4 else if l=2003 then 1 else if l=5002004 then 5000012 else l) [(1,.ptr 2003 0 0),(4,.ptr 2002 0 0),(5,.ptr 2001 0 0),(6,.fn (.func 105) [.ptr 2002 0 0,.ptr 2001 0 0]),(19,.fn (.func 105) [.ptr 2002 0 0,.ptr 2001 0 0]),(27,.L D z)] [(2001,U (g9.Pv v3) 2),(2002,vS (.mp 5002004) 1),(5002004,⟨[.mapc (List.map (dx D PV.bool) (u6 [] 0 true))],0,false,0,false⟩),(2003,U (a8.Pv e) 11)])<|LI (fn:=Tryz.f105) (N1:=25) J J J Tryz.func105 J Fy J J nl (λe7 o8=>jqR h (λq=>St.of [(1000001,.ptr 2003 0 0),(1000004,.ptr 2002 0 0),(1000005,.ptr 2001 0 0),(1000006,.fn (.func 105) [.ptr 2002 0 0,.ptr 2001 0 0]),(1000019,.fn (.func 105) [.ptr 2002 0 0,.ptr 2001 0 0]),(1000027,.L D z)] [(2001,U (g9.Pv q.1) 2),(2002,vS (.mp 5002004) 1),(5002004,⟨[.mapc (List.map (dx D PV.bool) q.2)],0,false,0,false⟩),(2003,U (a8.Pv e) 11)]) (λq24 h=>dup (by obtain⟨j22,j23⟩:=q24;exact ⟨J,[],tr,⟨_,xa [(1,.ptr 2003 0 0),(4,.ptr 2002 0 0),(5,.ptr 2001 0 0),(6,.fn (.func 105) [.ptr 2002 0 0,.ptr 2001 0 0])] [(2001,U (g9.Pv j22) 2),(2002,vS (.mp 5002004) 1),(5002004,⟨[.mapc (List.map (dx D PV.bool) j23)],0,false,0,false⟩),(2003,U (a8.Pv e) 11)] ⟨J,J,J,J,J,J,J,J,J,J,J,J,tr⟩ ⟨rS,R2 J J J (λq=>nomatch q) J J J J,R2 J J J (λq=>nomatch q) J J J J,rS,tr⟩,E9<|jq h (λu=>St.of [(4,.ptr 2002 0 0)] [(2002,vS (.mp 5002004) 1),(5002004,⟨[.mapc (List.map (dx D PV.bool) u)],0,false,0,false⟩)]) (λu h=>S4 2 J<|de (HI 2 5002004 J J)<|M<|Λ) λκ99 h=>c9<|lq h (λq=>St.of [(1,.ptr 2003 0 0),(4,.ptr 2002 0 0),(5,.ptr 2001 0 0),(6,.fn (.func 105) [.ptr 2002 0 0,.ptr 2001 0 0])] [(2001,U (g9.Pv q.1) 2),(2002,vS (.mp 5002004) 1),(5002004,⟨[.mapc (List.map (dx D PV.bool) q.2)],0,false,0,false⟩),(2003,U (a8.Pv e) 11)]) W λR x104 h G=>by obtain⟨s102,s103⟩:=R;exact g6<|S3 1 J<|cA h W8 J J λv106 _ h=>S2 1 J<|Y h (λhc h=>Z<|c9<|S4 1 J<|S3 1 J<|cF h nE J J λc _ h=>S2 6 J<|drY [] 9 r7 Φ Φ Φ Φ nl<|S7 5 J<|s7 h λv108 C h=>d2 J (F2 J W2 J C) J<|s7 h λa F h=>d0 J (A0 (f:=b8.Pv) (cs:=b8.Pc a) F J J D0 z8 J J) J<|S8 2 J<|GK (WE [(1,.ptr 2003 0 0),(4,.ptr 2002 0 0),(5,.ptr 2001 0 0),(6,.fn (.func 105) [.ptr 2002 0 0,.ptr 2001 0 0]),(7,.I c.2.1),(38,.fn (.func 105) [.ptr 2002 0 0,.ptr 2001 0 0]),(46,.L D a.Fields)] [(2001,U (g9.Pv c.1) 2),(2002,vS (.mp 5002004) 1),(5002004,⟨[.mapc (List.map (dx D PV.bool) s103)],0,false,0,false⟩),(2003,U (a8.Pv e) 11)])<|LI (fn:=Tryz.f105) (N1:=25) J J J Tryz.func105 J Fy J J nl (λe72 o73=>jqR h (λq=>St.of [(1000001,.ptr 2003 0 0),(1000004,.ptr 2002 0 0),(1000005,.ptr 2001 0 0),(1000006,.fn (.func 105) [.ptr 2002 0 0,.ptr 2001 0 0]),(1000007,.I c.2.1),(1000038,.fn (.func 105) [.ptr 2002 0 0,.ptr 2001 0 0]),(1000046,.L D a.Fields)] [(2001,U (g9.Pv q.1) 2),(2002,vS (.mp 5002004) 1),(5002004,⟨[.mapc (List.map (dx D PV.bool) q.2)],0,false,0,false⟩),(2003,U (a8.Pv e) 11)]) (λS h=>dup (by obtain⟨w,x⟩:=S;exact ⟨J,[],tr,⟨_,xa [(1,.ptr 2003 0 0),(4,.ptr 2002 0 0),(5,.ptr 2001 0 0),(6,.fn (.func 105) [.ptr 2002 0 0,.ptr 2001 0 0]),(7,.I c.2.1)] [(2001,U (g9.Pv w) 2),(2002,vS (.mp 5002004) 1),(5002004,⟨[.mapc (List.map (dx D PV.bool) x)],0,false,0,false⟩),(2003,U (a8.Pv e) 11)] ⟨J,J,J,J,J,J,J,J,J,J,J,J,J,J,J,tr⟩ ⟨rS,R2 J J J (λq=>nomatch q) J J J J,R2 J J J (λq=>nomatch q) J J J J,rS,tr⟩,E9<|S5 3 J<|cF h mj J J λb _ h=>R5 (WE [(1,.ptr 2003 0 0),(4,.ptr 2002 0 0),(5,.ptr 2001 0 0),(6,.fn (.func 105) [.ptr 2002 0 0,.ptr 2001 0 0]),(48,.fn (.func 105) [.ptr 2002 0 0,.ptr 2001 0 0]),(51,.L D b)] [(2001,U (g9.Pv w) 2),(2002,vS (.mp 5002004) 1),(5002004,⟨[.mapc (List.map (dx D PV.bool) x)],0,false,0,false⟩),(2003,U (a8.Pv e) 11)])<|xc (fn:=Tryz.f105) (N1:=25) J J Tryz.func105 J Fy J J nl (λe84 o85=>jqR h (λq=>St.of [(1000001,.ptr 2003 0 0),(1000004,.ptr 2002 0 0),(1000005,.ptr 2001 0 0),(1000006,.fn (.func 105) [.ptr 2002 0 0,.ptr 2001 0 0]),(1000048,.fn (.func 105) [.ptr 2002 0 0,.ptr 2001 0 0]),(1000051,.L D b)] [(2001,U (g9.Pv q.1) 2),(2002,vS (.mp 5002004) 1),(5002004,⟨[.mapc (List.map (dx D PV.bool) q.2)],0,false,0,false⟩),(2003,U (a8.Pv e) 11)]) (λT h=>dup (by obtain⟨N,P⟩:=T;exact ⟨J,[],tr,R5 (WE [(1,.ptr 2003 0 0),(4,.ptr 2002 0 0),(5,.ptr 2001 0 0),(6,.fn (.func 105) [.ptr 2002 0 0,.ptr 2001 0 0])] [(2001,U (g9.Pv N) 2),(2002,vS (.mp 5002004) 1),(5002004,⟨[.mapc (List.map (dx D PV.bool) P)],0,false,0,false⟩),(2003,U (a8.Pv e) 11)])<|yN<|eL h W⟩)) λκ143 h=>S3 1 J<|nL J m7<|S2 1 J<|c9<|lq h (λq=>St.of [(1000001,.ptr 2003 0 0),(1000004,.ptr 2002 0 0),(1000005,.ptr 2001 0 0),(1000006,.fn (.func 105) [.ptr 2002 0 0,.ptr 2001 0 0]),(1000048,.fn (.func 105) [.ptr 2002 0 0,.ptr 2001 0 0]),(1000051,.L D b),(1,.ptr 2002 0 0),(2,.ptr 2001 0 0),(6,.L D b),(7,.I (b.length:Int)),(8,.I q.1)] [(2001,U (g9.Pv q.2.1) 2),(2002,vS (.mp 5002004) 1),(5002004,⟨[.mapc (List.map (dx D PV.bool) q.2.2)],0,false,0,false⟩),(2003,U (a8.Pv e) 11)]) W λV x151 h H=>by obtain⟨s148,s149,g⟩:=V;exact S4 1 J<|g6<|Y h (λhc h=>Z<|jq h (λq=>St.of [(1000001,.ptr 2003 0 0),(1000004,.ptr 2002 0 0),(1000005,.ptr 2001 0 0),(1000006,.fn (.func 105) [.ptr 2002 0 0,.ptr 2001 0 0]),(1000048,.fn (.func 105) [.ptr 2002 0 0,.ptr 2001 0 0]),(1000051,.L D b),(1,.ptr 2002 0 0),(2,.ptr 2001 0 0),(6,.L D b),(7,.I (b.length:Int)),(8,.I s148)] [(2001,U (g9.Pv q.1) 2),(2002,vS (.mp 5002004) 1),(5002004,⟨[.mapc (List.map (dx D PV.bool) q.2)],0,false,0,false⟩),(2003,U (a8.Pv e) 11)]) (λq158 h=>by obtain⟨j156,j157⟩:=q158;exact S6 2 J<|eL h W) λκ155 h=>c9<|sR<|iL h J J m7 n8 λo _ h=>S2 2 J<|S3 2 J<|Fi (es:=g) (k:=o) (E:=PV.bool) (EK:=D) (d:=.bool ((C4 g o).getD (false:Bool))) J J J J V0 (A8 L1) uT J (Rz _ _ _)<|S2 1 J<|Y h (λhc h=>S3 2 J<|aV (es:=g) (k:=o) (v:=true) (E:=PV.bool) (EK:=D) (.inl J) J J J J J J V0 (A8 L1)<|yN<|S5 2 J<|cF h Z8 J J λv160 _ h=>S2 4 J<|eJ h W) λhc h=>Z<|eJ h W) λhc h=>n9<|c8<|c8<|l7<|have h:=xL H h;eJ h W)⟩⟩)) λκ124 h=>S3 1 J<|nL J m7<|S2 1 J<|c9<|lq h (λq=>St.of [(1000001,.ptr 2003 0 0),(1000004,.ptr 2002 0 0),(1000005,.ptr 2001 0 0),(1000006,.fn (.func 105) [.ptr 2002 0 0,.ptr 2001 0 0]),(1000007,.I c.2.1),(1000038,.fn (.func 105) [.ptr 2002 0 0,.ptr 2001 0 0]),(1000046,.L D a.Fields),(1,.ptr 2002 0 0),(2,.ptr 2001 0 0),(6,.L D a.Fields),(7,.I (a.Fields.length:Int)),(8,.I q.1)] [(2001,U (g9.Pv q.2.1) 2),(2002,vS (.mp 5002004) 1),(5002004,⟨[.mapc (List.map (dx D PV.bool) q.2.2)],0,false,0,false⟩),(2003,U (a8.Pv e) 11)]) W λq166 x165 h A=>by obtain⟨s162,s163,j⟩:=q166;exact S4 1 J<|g6<|Y h (λhc h=>Z<|jq h (λq=>St.of [(1000001,.ptr 2003 0 0),(1000004,.ptr 2002 0 0),(1000005,.ptr 2001 0 0),(1000006,.fn (.func 105) [.ptr 2002 0 0,.ptr 2001 0 0]),(1000007,.I c.2.1),(1000038,.fn (.func 105) [.ptr 2002 0 0,.ptr 2001 0 0]),(1000046,.L D a.Fields),(1,.ptr 2002 0 0),(2,.ptr 2001 0 0),(6,.L D a.Fields),(7,.I (a.Fields.length:Int)),(8,.I s162)] [(2001,U (g9.Pv q.1) 2),(2002,vS (.mp 5002004) 1),(5002004,⟨[.mapc (List.map (dx D PV.bool) q.2)],0,false,0,false⟩),(2003,U (a8.Pv e) 11)]) (λq172 h=>by obtain⟨j170,j171⟩:=q172;exact S6 2 J<|eL h W) λκ169 h=>c9<|sR<|iL h J J m7 n8 λs _ h=>S2 2 J<|S3 2 J<|Fi (es:=j) (k:=s) (E:=PV.bool) (EK:=D) (d:=.bool ((C4 j s).getD (false:Bool))) J J J J V0 (A8 L1) uT J (Rz _ _ _)<|S2 1 J<|Y h (λhc h=>S3 2 J<|aV (es:=j) (k:=s) (v:=true) (E:=PV.bool) (EK:=D) (.inl J) J J J J J J V0 (A8 L1)<|yN<|S5 2 J<|cF h Z8 J J λv174 _ h=>S2 4 J<|eJ h W) λhc h=>Z<|eJ h W) λhc h=>n9<|c8<|c8<|l7<|have h:=xL A h;eJ h W)) λhc h=>n9<|c8<|c8<|l7<|have h:=xL G h;eJ h W⟩⟩)) λκ21 h=>S3 1 J<|nL J m7<|S2 1 J<|c9<|lq h (λq=>St.of [(1000001,.ptr 2003 0 0),(1000004,.ptr 2002 0 0),(1000005,.ptr 2001 0 0),(1000006,.fn (.func 105) [.ptr 2002 0 0,.ptr 2001 0 0]),(1000019,.fn (.func 105) [.ptr 2002 0 0,.ptr 2001 0 0]),(1000027,.L D z),(1,.ptr 2002 0 0),(2,.ptr 2001 0 0),(6,.L D z),(7,.I (z.length:Int)),(8,.I q.1)] [(2001,U (g9.Pv q.2.1) 2),(2002,vS (.mp 5002004) 1),(5002004,⟨[.mapc (List.map (dx D PV.bool) q.2.2)],0,false,0,false⟩),(2003,U (a8.Pv e) 11)]) W λq180 x179 h B=>by obtain⟨s176,s177,m⟩:=q180;exact S4 1 J<|g6<|Y h (λhc h=>Z<|jq h (λq=>St.of [(1000001,.ptr 2003 0 0),(1000004,.ptr 2002 0 0),(1000005,.ptr 2001 0 0),(1000006,.fn (.func 105) [.ptr 2002 0 0,.ptr 2001 0 0]),(1000019,.fn (.func 105) [.ptr 2002 0 0,.ptr 2001 0 0]),(1000027,.L D z),(1,.ptr 2002 0 0),(2,.ptr 2001 0 0),(6,.L D z),(7,.I (z.length:Int)),(8,.I s176)] [(2001,U (g9.Pv q.1) 2),(2002,vS (.mp 5002004) 1),(5002004,⟨[.mapc (List.map (dx D PV.bool) q.2)],0,false,0,false⟩),(2003,U (a8.Pv e) 11)]) (λq186 h=>by obtain⟨j184,j185⟩:=q186;exact S6 2 J<|eL h W) λκ183 h=>c9<|sR<|iL h J J m7 n8 λt _ h=>S2 2 J<|S3 2 J<|Fi (es:=m) (k:=t) (E:=PV.bool) (EK:=D) (d:=.bool ((C4 m t).getD (false:Bool))) J J J J V0 (A8 L1) uT J (Rz _ _ _)<|S2 1 J<|Y h (λhc h=>S3 2 J<|aV (es:=m) (k:=t) (v:=true) (E:=PV.bool) (EK:=D) (.inl J) J J J J J J V0 (A8 L1)<|yN<|S5 2 J<|cF h Z8 J J λv188 _ h=>S2 4 J<|eJ h W) λhc h=>Z<|eJ h W) λhc h=>n9<|c8<|c8<|l7<|have h:=xL B h;eJ h W)
theorem qU{b c}:PO Tryz.prog 54 [b8.Pv b,.rptr [.abs (Y2 (List.map (dx D PV.bool) c))]] (cL b c) λr=>.bool r:=x8 Tryz.func54 J λr h=>by unfold cL at h;exact S4 2 J<|S3 3 J<|O J (λa=>I5 J Fs J)<|O J (λa=>oF J DY J)<|O J (λa=>oS (ct a) J J F4 J)<|O J (λa=>ER (es:=c) (k:=b.Serial) (E:=PV.bool) (EK:=D) (d:=.bool ((C4 c b.Serial).getD (false:Bool))) (ct a) (ct a) V0 (A8 L1) uT J (Rz _ _ _))<|O J (λa=>bb (ct a) J)<|y0 J (B3 J J J (λq=>fp q))<|S2 1 J<|M<|Λ
theorem az{a j}:PO Tryz.prog 45 [.L b8.Pv a,.fn (.func 54) [.rptr [.abs (Y2 (List.map (dx D PV.bool) j))]]] (E5 a j) λr=>.L b8.Pv r:=x8 Tryz.func45 J λr h=>S4 1 J<|S4 1 J<|jq h (λe=>St.of [(5,.sl 910005)] [(910005,w7 b8.Pv e 7)]) (λe h=>S4 2 J<|M<|Λ) λs h=>S3 1 J<|nL J D0<|S2 1 J<|c9<|lq h (λq=>St.of [(1,.fn (.func 54) [.rptr [.abs (Y2 (List.map (dx D PV.bool) j))]]),(5,.sl 910005),(8,.L b8.Pv a),(9,.I (a.length:Int)),(10,.I q.1)] [(910005,w7 b8.Pv q.2 7)]) (bP 5 920005 7 910005) λk x h c=>by obtain⟨m,u⟩:=k;exact S4 1 J<|g6<|Y h (λhc h=>Z<|jq h (λg=>St.of [(1,.fn (.func 54) [.rptr [.abs (Y2 (List.map (dx D PV.bool) j))]]),(5,.sl 20),(8,.L b8.Pv a),(9,.I (a.length:Int)),(10,.I m)] [(20,w7 b8.Pv g 7)]) (λg h=>S6 2 J<|eL h (y8 [20] (M4 910005 20))) λt h=>c9<|sR<|iL h J J D0 z8 λo _ h=>S2 3 J<|S3 2 J<|cA h qU J J λv _ h=>yN<|Y h (λhc h=>S5 2 J<|y0 J (G6 (f:=b8.Pv) (l:=[o]) J D0 z8 bf J J nl J J)<|s7 h λw b h=>G3 J (E3 (f:=b8.Pv) b J J J J J J (.inl ⟨_,J,J⟩) D0 z8 ou bf J (λ_=>J)) J J J<|S2 1 J<|eJ h (E2 [20])) λhc h=>Z<|eJ h (y8 [910005] (M4 20 910005))) λhc h=>n9<|c8<|c8<|l7<|have h:=xL c h;eJ h (E2 [910005])
theorem nu{b}:PO Tryz.prog 55 [b8.Pv b] (eI b) λr=>.bool r:=x8 Tryz.func55 J λr h=>by unfold eI at h;exact S4 2 J<|S3 4 J<|O J (λa=>oF J NQ J)<|O J (λa=>oS (ct a) J J fS J)<|O J (λa=>bb (ct a) J)<|y0 J (B3 J J J (λq=>fp q))<|S2 1 J<|M<|Λ
theorem bM{a}:PO Tryz.prog 45 [.L b8.Pv a,.fn (.func 55) []] (G0 a) λr=>.L b8.Pv r:=x8 Tryz.func45 J λr h=>S4 1 J<|S4 1 J<|jq h (λe=>St.of [(5,.sl 910005)] [(910005,w7 b8.Pv e 7)]) (λe h=>S4 2 J<|M<|Λ) λo h=>S3 1 J<|nL J D0<|S2 1 J<|c9<|lq h (λq=>St.of [(1,.fn (.func 55) []),(5,.sl 910005),(8,.L b8.Pv a),(9,.I (a.length:Int)),(10,.I q.1)] [(910005,w7 b8.Pv q.2 7)]) (bP 5 920005 7 910005) λj w h c=>by obtain⟨k,t⟩:=j;exact S4 1 J<|g6<|Y h (λhc h=>Z<|jq h (λg=>St.of [(1,.fn (.func 55) []),(5,.sl 20),(8,.L b8.Pv a),(9,.I (a.length:Int)),(10,.I k)] [(20,w7 b8.Pv g 7)]) (λg h=>S6 2 J<|eL h (y8 [20] (M4 910005 20))) λs h=>c9<|sR<|iL h J J D0 z8 λm _ h=>S2 3 J<|S3 2 J<|cA h nu J J λu _ h=>yN<|Y h (λhc h=>S5 2 J<|y0 J (G6 (f:=b8.Pv) (l:=[m]) J D0 z8 bf J J nl J J)<|s7 h λv b h=>G3 J (E3 (f:=b8.Pv) b J J J J J J (.inl ⟨_,J,J⟩) D0 z8 ou bf J (λ_=>J)) J J J<|S2 1 J<|eJ h (E2 [20])) λhc h=>Z<|eJ h (y8 [910005] (M4 20 910005))) λhc h=>n9<|c8<|c8<|l7<|have h:=xL c h;eJ h (E2 [910005])
theorem Ck{a}:PO Tryz.prog 42 [a8.Pv a] (mh a) λr=>.fn (.func 82) [.rptr (a8.Pc r)]:=x8 Tryz.func42 J λr h=>by unfold mh at h;exact S4 2 J<|S4 2 J<|M<|Λ
theorem ug{a}:PO Tryz.prog 84 [l5.Pv a] (jP a) λr=>.I r:=x8 Tryz.func84 J λr h=>by unfold jP at h;exact S4 2 J<|S4 3 J<|M<|Λ
theorem Z4{e}:PO Tryz.prog 83 [.L l5.Pv e,.fn (.func 84) []] (D7 e) λr=>.L D r:=x8 Tryz.func83 J λr h=>S4 1 J<|S4 1 J<|jq h (λc=>St.of [(5,.sl 910005)] [(910005,w7 D c 1)]) (λc h=>S4 2 J<|M<|Λ) λu h=>S3 1 J<|nL J O1<|S2 1 J<|c9<|lq h (λq=>St.of [(1,.fn (.func 84) []),(5,.sl 910005),(8,.L l5.Pv e),(9,.I (e.length:Int)),(10,.I q.1)] [(910005,w7 D q.2 1)]) (bP 5 920005 1 910005) λg t h b=>by obtain⟨k,m⟩:=g;exact S4 1 J<|g6<|Y h (λhc h=>Z<|g6<|c9<|sR<|iL h J J O1 V5 λo _ h=>S2 3 J<|S5 3 J<|cA h ug J J λj _ h=>y0 J (G6 (f:=D) (l:=[j]) J m7 n8 A2 J J nl J J)<|s7 h λs a h=>G3 J (E3 (f:=D) a J J J J J J (.inl ⟨_,J,J⟩) m7 n8 H7 A2 J (λ_=>J)) J J J<|S2 1 J<|S6 2 J<|eL h (y8 [19] (M4 910005 19))) λhc h=>n9<|c8<|c8<|l7<|have h:=xL b h;eJ h (E2 [910005])
theorem xK{a}:PO Tryz.prog 46 [b8.Pv a] (mQ a) λr=>.bool r:=x8 Tryz.func46 J λr h=>by unfold mQ at h;exact S4 2 J<|S4 3 J<|M<|Λ
theorem P7{a}:PO Tryz.prog 45 [.L b8.Pv a,.fn (.func 46) []] (D1 a) λr=>.L b8.Pv r:=x8 Tryz.func45 J λr h=>S4 1 J<|S4 1 J<|jq h (λe=>St.of [(5,.sl 910005)] [(910005,w7 b8.Pv e 7)]) (λe h=>S4 2 J<|M<|Λ) λo h=>S3 1 J<|nL J D0<|S2 1 J<|c9<|lq h (λq=>St.of [(1,.fn (.func 46) []),(5,.sl 910005),(8,.L b8.Pv a),(9,.I (a.length:Int)),(10,.I q.1)] [(910005,w7 b8.Pv q.2 7)]) (bP 5 920005 7 910005) λj w h c=>by obtain⟨k,t⟩:=j;exact S4 1 J<|g6<|Y h (λhc h=>Z<|jq h (λg=>St.of [(1,.fn (.func 46) []),(5,.sl 20),(8,.L b8.Pv a),(9,.I (a.length:Int)),(10,.I k)] [(20,w7 b8.Pv g 7)]) (λg h=>S6 2 J<|eL h (y8 [20] (M4 910005 20))) λs h=>c9<|sR<|iL h J J D0 z8 λm _ h=>S2 3 J<|S3 2 J<|cA h xK J J λu _ h=>yN<|Y h (λhc h=>S5 2 J<|y0 J (G6 (f:=b8.Pv) (l:=[m]) J D0 z8 bf J J nl J J)<|s7 h λv b h=>G3 J (E3 (f:=b8.Pv) b J J J J J J (.inl ⟨_,J,J⟩) D0 z8 ou bf J (λ_=>J)) J J J<|S2 1 J<|eJ h (E2 [20])) λhc h=>Z<|eJ h (y8 [910005] (M4 20 910005))) λhc h=>n9<|c8<|c8<|l7<|have h:=xL c h;eJ h (E2 [910005])
theorem lk{T e}:PO Tryz.prog 15 [a8.Pv T,.I e] (da T e) λr=>.I r:=x8 Tryz.func15 J λr h=>S4 3 J<|S4 2 J<|jq h (λA=>St.of [(5,.ptr 2001 0 0)] [(2001,U (.I A) 1)]) (λA h=>S4 2 J<|M<|Λ) λV h=>S3 1 J<|cF h Ck J J λb _ h=>yN<|c9<|de (uJ (λl=>if l=2003 then 5 else if l=2004 then 3 else l) [(3,.ptr 2004 0 0),(5,.ptr 2003 0 0),(8,.fn (.func 82) [.rptr (a8.Pc b)])] [(2003,U (.I 0) 1),(2004,U (.I e) 1)])<|dc (fn:=Tryz.f82) (N1:=43) J Tryz.func82 J J nl J XT J J (λa e34 o35 k=>dr [] r7 Φ Φ<|S7 4 J<|s7 h λP m h=>cu J (x4 J Z4 J m) J<|S7 1 J<|s7 h λv36 o h=>cu J (x4 J dE J o) J<|s7 h λR s h=>cu J (x4 J wL J s) J<|Ow J (G6 (f:=(Ls D)) (l:=[b.Roots,P,R]) J ak aF Bj J J nl J J) J<|S8 1 J<|jq h (λB=>St.of [(1000003,.ptr 2004 0 0),(1000005,.ptr 2003 0 0),(1000008,.fn (.func 82) [.rptr (a8.Pc b)]),(0,.fn (.yield a) []),(3,.sl 910003)] [(910003,w7 (Ls D) B 1),(2003,U (.I 0) 1),(2004,U (.I e) 1)]) (λB h=>S3 1 J<|by obtain⟨c,u,h⟩:=pJ h;exact Ka J (x4 J eX J u) J<|nL J m7<|S2 1 J<|c9<|lq h (λq=>St.of [(1000003,.ptr 2004 0 0),(1000005,.ptr 2003 0 0),(1000008,.fn (.func 82) [.rptr (a8.Pc b)]),(0,.fn (.yield a) []),(32,.L D c),(33,.I (c.length:Int)),(34,.I q.1)] [(2003,U (.I q.2) 1),(2004,U (.I e) 1)]) W λG x52 h w=>by obtain⟨j,N⟩:=G;exact S4 1 J<|g6<|Y h (λhc h=>Z<|g6<|c9<|sR<|iL h J J m7 n8 λC _ h=>S2 2 J<|S3 2 J<|R5 (WE [(1000003,.ptr 2004 0 0),(1000005,.ptr 2003 0 0),(1000008,.fn (.func 82) [.rptr (a8.Pc b)]),(0,.fn (.yield a) []),(32,.L D c),(33,.I (c.length:Int)),(34,.I j),(38,.fn (.yield a) []),(39,.I C)] [(2003,U (.I N) 1),(2004,U (.I e) 1)])<|kB k J J J J J J (λe52 o53 o54=>S6 1 J<|⟨J,jqE h (λg=>St.of [(2000003,.ptr 2004 0 0),(2000005,.ptr 2003 0 0),(2000008,.fn (.func 82) [.rptr (a8.Pc b)]),(1000000,.fn (.yield a) []),(1000032,.L D c),(1000033,.I (c.length:Int)),(1000034,.I j),(1000038,.fn (.yield a) []),(1000039,.I C)] [(2003,U (.I g) 1),(2004,U (.I e) 1)]) (λg h=>⟨J,R5 (WE [(1000003,.ptr 2004 0 0),(1000005,.ptr 2003 0 0),(1000008,.fn (.func 82) [.rptr (a8.Pc b)]),(0,.fn (.yield a) []),(32,.L D c),(33,.I (c.length:Int)),(34,.I j),(40,.bool true)] [(2003,U (.I g) 1),(2004,U (.I e) 1)])<|S2 1 J<|J9 false J (λq=>nomatch q) (λ_=>Z<|S6 2 J<|eL h W)⟩) λκ55 h=>c9<|S3 3 J<|O J (λF=>mI J)<|O J (λF=>oS J J J F4 J)<|O J (λF=>z6 (ct F) (ct F) J)<|y0 J (B3 J J J (λq=>fp q))<|yN<|Y h (λhc h=>S6 3 J<|eJ h W) λhc h=>Z<|eJ h W⟩)) λhc h=>n9<|c8<|c8<|l7<|.inl ⟨J,have h:=xL w h;eJ h (WP (M4 2001 2003))⟩) λκ46 h=>S3 2 J<|cF h P7 J J λE _ h=>nL J D0<|S2 1 J<|c9<|lq h (λq=>St.of [(1000003,.ptr 2004 0 0),(1000005,.ptr 2003 0 0),(1000008,.fn (.func 82) [.rptr (a8.Pc b)]),(0,.fn (.yield a) []),(3,.sl 910003),(19,.L b8.Pv E),(20,.I (E.length:Int)),(21,.I q.1)] [(2003,U (.I 0) 1),(2004,U (.I e) 1),(910003,w7 (Ls D) q.2 1)]) (Wk.trans (Tx (f:=(Ls D)) (t:=3) (l:=920003) (z:=1) J J (λ_=>J)) (WP (M4 910003 920003))) λH x61 h x=>by obtain⟨s59,s60⟩:=H;exact S4 1 J<|g6<|Y h (λhc h=>Z<|g6<|c9<|sR<|iL h J J D0 z8 λS _ h=>S2 3 J<|S5 3 J<|y0 J (G6 (f:=(Ls D)) (l:=[S.Fields]) J ak aF Bj J J nl J J)<|s7 h λv64 v h=>G3 J (E3 (f:=(Ls D)) v J J J J J J (.inl ⟨_,J,J⟩) ak aF XP Bj J (λ_=>J)) J J J<|S2 1 J<|S6 2 J<|eL h (y8 [29] (M4 910003 29))) λhc h=>n9<|c8<|c8<|l7<|have h:=xL x h;eJ h (E2 [910003]))
theorem D3{a}:PG Tryz.prog 139 [.L b8.Pv a] (w9 a) λr=>⟨List.map b8.Pv r,0,true,7,true⟩:=Jd Tryz.func139 J λr h=>by unfold w9 at h;exact S4 1 J<|g6<|S3 1 J<|xb J D0 λb hb=>yN<|J9 b J (λhc=>by obtain rfl:a = []:=ΩM;exact S4 1 J<|de (iO (t:=2) (l:=920000) (z:=7) J J)<|M<|Ωu) (λhc=>Z<|sR<|y0 J (D9 J D0 z8)<|S1 1 J<|y1 J (eO (f:=b8.Pv) h J J (.inl ⟨_,J,J⟩) D0 z8 ou bf J (λ_=>J)) J<|S2 1 J<|M<|⟨J,_,_,J,J,J,J⟩)
theorem Af{a}:PO Tryz.prog 186 [b8.Pv a] (oY a) λr=>b8.Pv r:=x8 Tryz.func186 J λr h=>by unfold oY at h;exact S4 2 J<|S4 2 J<|S4 2 J<|M<|ΩT
theorem iz{e g}:PO Tryz.prog 112 [a8.Pv e,.I g,.fn (.func 186) []] (V8 e g) λr=>a8.Pv r:=x8 Tryz.func112 J λr h=>S4 2 J<|S3 2 J<|cA h W2 J J λk _ h=>S2 1 J<|S3 2 J<|s7 h λv2 b h=>NL J (jr J D3 J b) J J<|S2 2 J<|dr [] r7 Φ Φ<|S7 7 J<|s7 h λv3 a h=>d0 J (Q4 (f:=b8.Pv) a J J J J D0 z8 J) J<|d0 J (Nc (f:=b8.Pv) (cs:=b8.Pc v3) a J J J iQ z8 nl J) J<|s7 h λj c h=>cu J (x4 J Af J c) J<|d0 J (Q4 (f:=b8.Pv) a J J J J D0 z8 J) J<|Il (f:=b8.Pv) (v:=j) a J J (.inr J) z8<|E9<|S4 2 J<|M<|Ωh
theorem iX{a b}:PO Tryz.prog 111 [a8.Pv a,.I b] (fy a b) λr=>a8.Pv r:=x8 Tryz.func111 J λr h=>S4 2 J<|g6<|S3 2 J<|cA h lk J J λc _ h=>S2 1 J<|Y h (λhc h=>S4 2 J<|M<|Ωh) λhc h=>Z<|S3 2 J<|cF h iz J J λv2 _ h=>S2 1 J<|M<|Ωh
theorem uk{a}:PO Tryz.prog 113 [b8.Pv a] (jT a) λr=>b8.Pv r:=x8 Tryz.func113 J λr h=>by unfold jT at h;exact S4 2 J<|S4 2 J<|S4 2 J<|M<|ΩT
theorem fQ{e g}:PO Tryz.prog 112 [a8.Pv e,.I g,.fn (.func 113) []] (Q8 e g) λr=>a8.Pv r:=x8 Tryz.func112 J λr h=>S4 2 J<|S3 2 J<|cA h W2 J J λk _ h=>S2 1 J<|S3 2 J<|s7 h λv2 b h=>NL J (jr J D3 J b) J J<|S2 2 J<|dr [] r7 Φ Φ<|S7 7 J<|s7 h λv3 a h=>d0 J (Q4 (f:=b8.Pv) a J J J J D0 z8 J) J<|d0 J (Nc (f:=b8.Pv) (cs:=b8.Pc v3) a J J J iQ z8 nl J) J<|s7 h λj c h=>cu J (x4 J uk J c) J<|d0 J (Q4 (f:=b8.Pv) a J J J J D0 z8 J) J<|Il (f:=b8.Pv) (v:=j) a J J (.inr J) z8<|E9<|S4 2 J<|M<|Ωh
theorem dY{a}:PG Tryz.prog 114 [.L k7.Pv a] (J5 a) λr=>⟨List.map k7.Pv r,0,true,3,true⟩:=Jd Tryz.func114 J λr h=>by unfold J5 at h;exact S4 1 J<|g6<|S3 1 J<|xb J L2 λb hb=>yN<|J9 b J (λhc=>by obtain rfl:a = []:=ΩM;exact S4 1 J<|de (iO (t:=2) (l:=920000) (z:=3) J J)<|M<|Ωu) (λhc=>Z<|sR<|y0 J (D9 J L2 F0)<|S1 1 J<|y1 J (eO (f:=k7.Pv) h J J (.inl ⟨_,J,J⟩) L2 F0 ov bh J (λ_=>J)) J<|S2 1 J<|M<|⟨J,_,_,J,J,J,J⟩)
theorem nw{j a}:PO Tryz.prog 56 [a8.Pv j,.I a] (bV j a) λr=>a8.Pv r:=x8 Tryz.func56 J λr h=>S4 2 J<|S3 2 J<|cF h iX J J λk _ h=>S2 1 J<|dr [] r7 Φ Φ<|S7 4 J<|s7 h λv2 b h=>d2 J (F2 J W2 J b) J<|s7 h λv3 c h=>d0 J (A0 (f:=b8.Pv) (cs:=b8.Pc v3) c J J D0 z8 J J) J<|S8 3 J<|S3 2 J<|cF h fQ J J λm _ h=>S2 1 J<|S3 2 J<|s7 h λo e h=>NL J (jr J dY J e) J J<|S1 2 J<|y0 J (o6 (cs:=[.I 1,.I a,.I v3.Prog]) J uR bh J J J)<|y0 J (G6 (f:=k7.Pv) (l:=[(⟨1,a,v3.Prog⟩:k7)]) J L2 F0 bh J J nl J J)<|s7 h λq g h=>G3 J (E3 (f:=k7.Pv) g J J J J J J (.inl ⟨_,J,J⟩) L2 F0 ov bh J (λ_=>J)) J J J<|S2 2 J<|S4 2 J<|M<|Ωh
theorem fL{b c}:PO Tryz.prog 137 [.L D b,.I c] (K3 b c) λr=>.I r:=x8 Tryz.func137 J λr h=>S4 1 J<|jq h (λ_=>St.of [] []) (λj h=>S4 1 J<|M<|Λ) λg h=>S3 1 J<|nL J m7<|S2 1 J<|c9<|lq h (λe=>St.of [(0,.L D b),(1,.I c),(7,.I (b.length:Int)),(8,.I e)] []) W λe k h a=>S4 1 J<|g6<|Y h (λhc h=>Z<|g6<|c9<|S4 2 J<|S3 3 J<|iL h J J m7 n8 λf _ h=>S2 2 J<|Y h (λhc h=>S4 2 J<|M<|have h:=xL a h;Λ) λhc h=>Z<|S6 2 J<|eL h W) λhc h=>n9<|c8<|c8<|l7<|have h:=xL a h;eJ h W
theorem P1{a b}:PO Tryz.prog 123 [.L D a,.I b] (H2 a b) λr=>.bool r:=x8 Tryz.func123 J λr h=>S4 1 J<|S3 2 J<|cA h fL J J λc _ h=>S2 2 J<|M<|Λ
theorem Aq{c e}:PO Tryz.prog 188 [l4.Pv c,.rptr [.L D e]] (dJ c e) λr=>.bool r:=x8 Tryz.func188 J λr h=>by unfold dJ at h;exact S4 2 J<|S3 3 J<|O J (λa=>oF J xj J)<|O J (λa=>oS (ct a) J J F4 J)<|O J (λa=>z6 (ct a) J J)<|y0 J (B3 J J J (λq=>fp q))<|S1 1 J<|O J (λa=>I5 J fh J)<|O J (λa=>oF J xj J)<|O J (λa=>oS (ct a) J J F4 J)<|s7 h λf b h=>O J (λa=>F2 J P1 (C3 (ct a) (C3 (ct a) J)) (I9 b a))<|y0 J (B3 J J J (λq=>fp q))<|S2 1 J<|M<|Λ
theorem jY{a k}:PO Tryz.prog 187 [.L l4.Pv a,.fn (.func 188) [.rptr [.L D k]]] (Q2 a k) λr=>.L D r:=x8 Tryz.func187 J λr h=>S4 1 J<|S4 1 J<|jq h (λe=>St.of [(5,.sl 910005)] [(910005,w7 D e 1)]) (λe h=>S4 2 J<|M<|Λ) λo h=>S3 1 J<|nL J V4<|S2 1 J<|c9<|lq h (λq=>St.of [(1,.fn (.func 188) [.rptr [.L D k]]),(5,.sl 910005),(8,.L l4.Pv a),(9,.I (a.length:Int)),(10,.I q.1)] [(910005,w7 D q.2 1)]) (bP 5 920005 1 910005) λm x h c=>by obtain⟨j,t⟩:=m;exact S4 1 J<|g6<|Y h (λhc h=>Z<|jq h (λg=>St.of [(1,.fn (.func 188) [.rptr [.L D k]]),(5,.sl 21),(8,.L l4.Pv a),(9,.I (a.length:Int)),(10,.I j)] [(21,w7 D g 1)]) (λg h=>S6 2 J<|eL h (y8 [21] (M4 910005 21))) λs h=>c9<|S3 1 J<|iL h J J V4 Z0 λu _ h=>S2 4 J<|S3 2 J<|cA h Aq J J λv _ h=>yN<|Y h (λhc h=>S5 2 J<|y0 J (G6 (f:=D) (l:=[j]) J m7 n8 A2 J J nl J J)<|s7 h λw b h=>G3 J (E3 (f:=D) b J J J J J J (.inl ⟨_,J,J⟩) m7 n8 H7 A2 J (λ_=>J)) J J J<|S2 1 J<|eJ h (E2 [21])) λhc h=>Z<|eJ h (y8 [910005] (M4 21 910005))) λhc h=>n9<|c8<|c8<|l7<|have h:=xL c h;eJ h (E2 [910005])
theorem pZ{c}:PG Tryz.prog 189 [.L l4.Pv c] (dt c) λr=>⟨List.map l4.Pv r,0,true,3,true⟩:=Jd Tryz.func189 J λr h=>by unfold dt at h;exact S4 1 J<|S3 1 J<|nL J V4<|s7 h λe a h=>y1 J (qi (f:=l4.Pv) a J J J V4 Z0 FE LO J J J) J<|S2 1 J<|S3 2 J<|s7 h λv2 b h=>a1w (f:=l4.Pv) b J J J (.inl ⟨_,J,J⟩) V4 Z0 (λ_=>J) Θ<|yN<|S4 2 J<|M<|Ωu
theorem tL{w x}:PO Tryz.prog 117 [.L l4.Pv w,.L D x] (iN w x) λr=>.tup [.L l4.Pv r.1,.L D r.2]:=x8 Tryz.func117 J λr h=>by unfold iN at h;exact S4 3 J<|S3 2 J<|s7 h λj k h=>Ka J (x4 J jY J k) J<|S2 1 J<|S3 1 J<|s7 h λv2 m h=>NL J (jr J pZ J m) J J<|S2 1 J<|S4 1 J<|jq h (λq=>St.of [(7,.sl 15),(8,.sl 910008)] [(910008,w7 D q.1 1),(15,⟨List.map l4.Pv q.2,0,true,3,true⟩)]) (λo h=>by obtain⟨B,C⟩:=o;exact S4 4 J<|M<|Ωb) λz h=>S3 1 J<|nL J m7<|S2 1 J<|c9<|lq h (λq=>St.of [(7,.sl 15),(8,.sl 910008),(16,.L D j),(17,.I (j.length:Int)),(18,.I q.1)] [(15,⟨List.map l4.Pv q.2.1,0,true,3,true⟩),(910008,w7 D q.2.2 1)]) (bP 8 920008 1 910008) λq30 R h e=>by obtain⟨t,G,H⟩:=q30;exact S4 1 J<|g6<|Y h (λhc h=>Z<|jq h (λq=>St.of [(7,.sl 15),(8,.sl 35),(16,.L D j),(17,.I (j.length:Int)),(18,.I t)] [(35,w7 D q.1 1),(15,⟨List.map l4.Pv q.2,0,true,3,true⟩)]) (λs h=>by obtain⟨E,F⟩:=s;exact S6 2 J<|eL h (y8 [35] (M4 910008 35))) λA h=>c9<|sR<|iL h J J m7 n8 λu _ h=>S2 2 J<|S3 2 J<|s7 h λg a h=>y0 J (Q4 (f:=l4.Pv) a J J J J V4 Z0 J)<|S1 1 J<|gW (f:=l4.Pv) (v:=(⟨g.Target,false,g.Call⟩:l4)) a J J (.inl J) a0w<|yN<|S3 2 J<|s7 h λN b h=>y0 J (Q4 (f:=l4.Pv) b J J J J V4 Z0 J)<|S1 1 J<|y0 J (wb (f:=l4.Pv) b J J J F4 J)<|S2 1 J<|Y h (λhc h=>S5 2 J<|y0 J (G6 (f:=D) (l:=[u]) J m7 n8 A2 J J nl J J)<|s7 h λP c h=>G3 J (E3 (f:=D) c J J J J J J (.inl ⟨_,J,J⟩) m7 n8 H7 A2 J (λ_=>J)) J J J<|S2 1 J<|eJ h (E2 [35])) λhc h=>Z<|eJ h (y8 [910008] (M4 35 910008))) λhc h=>n9<|c8<|c8<|l7<|have h:=xL e h;eJ h (E2 [910008])
theorem vP{a b}:PO Tryz.prog 119 [.I a,.rptr [.L l4.Pv b]] (gA a b) λr=>k7.Pv r:=x8 Tryz.func119 J λr h=>S4 1 J<|S3 3 J<|iL h J J V4 Z0 λc _ h=>S1 2 J<|y0 J (o6 (cs:=[.I 2,.I a,.I c.Call]) J uR bh J J J)<|S2 1 J<|M<|by cases h;exact⟨J,[_],⟨oL J J J dv F0 nl J,tr⟩,J,io⟩
theorem ay{e g}:PO Tryz.prog 118 [.L D e,.fn (.func 119) [.rptr [.L l4.Pv g]]] (E4 e g) λr=>.L k7.Pv r:=x8 Tryz.func118 J λr h=>S4 1 J<|S4 1 J<|jq h (λc=>St.of [(5,.sl 910005)] [(910005,w7 k7.Pv c 3)]) (λc h=>S4 2 J<|M<|Λ) λv h=>S3 1 J<|nL J m7<|S2 1 J<|c9<|lq h (λq=>St.of [(1,.fn (.func 119) [.rptr [.L l4.Pv g]]),(5,.sl 910005),(8,.L D e),(9,.I (e.length:Int)),(10,.I q.1)] [(910005,w7 k7.Pv q.2 3)]) (bP 5 920005 3 910005) λj u h b=>by obtain⟨m,o⟩:=j;exact S4 1 J<|g6<|Y h (λhc h=>Z<|g6<|c9<|sR<|iL h J J m7 n8 λs _ h=>S2 2 J<|S5 3 J<|cA h vP J J λk _ h=>y0 J (G6 (f:=k7.Pv) (l:=[k]) J L2 F0 bh J J nl J J)<|s7 h λt a h=>G3 J (E3 (f:=k7.Pv) a J J J J J J (.inl ⟨_,J,J⟩) L2 F0 ov bh J (λ_=>J)) J J J<|S2 1 J<|S6 2 J<|eL h (y8 [19] (M4 910005 19))) λhc h=>n9<|c8<|c8<|l7<|have h:=xL b h;eJ h (E2 [910005])
theorem dZ{b}:PO Tryz.prog 120 [.L (Ls k7.Pv) b] (I7 b) λr=>.L k7.Pv r:=by
 refine x8 Tryz.func120 J λr h=>?_;refine S4 1 J<|S4 1 J ?_;refine jq h (λa=>St.of [(0,.L (Ls k7.Pv) b),(3,.I a)] []) (λa h=>?_) λz h=>?_
 .refine S3 1 J ?_;refine R5 (WE [(0,.L (Ls k7.Pv) b),(23,.I a)] []) ?_;refine xc (fn:=Tryz.f190) (N1:=27) J J Tryz.func190 J TW J J nl (λe8 o9=>?_);refine S4 1 J ?_;refine jq h (λ_=>St.of [(1000000,.L (Ls k7.Pv) b),(1000023,.I a),(0,.nl),(1,.I a)] []) (λF h=>?_) λA h=>?_
  .exact g6<|S3 2 J<|NK J J L2<|S1 1 J<|nL (f:=k7.Pv) (xs:=[]) J L2<|S2 3 J<|S4 2 J<|Y h (λhc h=>S5 2 J<|NK J J L2<|y0 J (AJ (t':=true) (xs:=[]) (ys:=[]) J L2 F0 (λ_ q=>nomatch q) J ⟨_,J⟩ J (λq=>nomatch q) (zC _) (zU _) (zC _) J J)<|S1 1 J<|s7 h λS c h=>XG (f:=k7.Pv) J c J nl J J L2 L1 F0 nl bh ov J J J<|S1 1 J<|nL (f:=k7.Pv) (xs:=[]) J L2<|Tz [(1000000,.L (Ls k7.Pv) b),(1000023,.I a),(0,.nl),(1,.I (y4 (a-(y4 (0-0))))),(8,.I a),(9,.nl),(10,.I 0),(11,.nl),(12,.I 0),(13,.I (y4 (0-0))),(14,.I (y4 (a-(y4 (0-0))))),(15,.I (y4 (a-(y4 (0-0))))),(16,.bool (decide ((y4 (a-(y4 (0-0)))) > 0))),(17,.nl),(18,.nl),(19,.I 0),(20,.nl),(21,.I (y4 (a-(y4 (0-0))))),(23,.nl),(24,.I 0)] [] J ⟨J,J,J,J,J,J,J,J,J,J,J,J,J,J,J,J,J,J,J,J,J,J,J,J,J,J,J,J,J,J,J,J,J,J,J,J,J,J,J,J,J,J,J,J,J,J,J,J,J,J,J,J,J,J,J,J,J,J,J,J,tr⟩ tr J J nl J J J L2 F0<|S2 1 J<|S4 2 J<|M<|⟨J,[.sl 25],⟨J,tr⟩,R5 (uJ (M4 2001 25) [(0,.L (Ls k7.Pv) b),(24,.sl 2001)] [(2001,⟨List.map k7.Pv [],0,true,3,true⟩)])<|S2 1 J<|jq h (λo=>St.of [(6,.sl 2001)] [(2001,w7 k7.Pv o 3)]) (λo h=>S4 2 J<|M<|Λ) λB h=>S3 1 J<|nL J ow<|S2 1 J<|c9<|lq h (λq=>St.of [(6,.sl 2001),(25,.L (Ls k7.Pv) b),(26,.I (b.length:Int)),(27,.I q.1)] [(2001,w7 k7.Pv q.2 3)]) (E2 [2001]) λu x27 h j=>by obtain⟨G,H⟩:=u;exact S4 1 J<|g6<|Y h (λhc h=>Z<|g6<|c9<|sR<|iL h J J ow xk λT _ h=>S2 2 J<|S5 2 J<|s7 h λV e h=>G3 J (E3 (f:=k7.Pv) e J J J J J J (.inl ⟨_,J,J⟩) L2 F0 ov bh J (λ_=>J)) J J J<|S2 1 J<|S6 2 J<|eL h (y8 [33] (M4 2001 33))) λhc h=>n9<|c8<|c8<|l7<|have h:=xL j h;eJ h (E2 [2001])⟩) λhc h=>Z<|S4 2 J<|M<|⟨J,[.nl],⟨J,tr⟩,R5 (WE [(0,.L (Ls k7.Pv) b),(24,.nl)] [])<|S2 1 J<|jq h (λs=>St.of [(6,.sl 910006)] [(910006,w7 k7.Pv s 3)]) (λs h=>S4 2 J<|M<|Λ) λC h=>S3 1 J<|nL J ow<|S2 1 J<|c9<|lq h (λq=>St.of [(6,.sl 910006),(25,.L (Ls k7.Pv) b),(26,.I (b.length:Int)),(27,.I q.1)] [(910006,w7 k7.Pv q.2 3)]) (bP 6 920006 3 910006) λv x43 h k=>by obtain⟨N,P⟩:=v;exact S4 1 J<|g6<|Y h (λhc h=>Z<|g6<|c9<|sR<|iL h J J ow xk λv45 _ h=>S2 2 J<|S5 2 J<|s7 h λv46 g h=>G3 J (E3 (f:=k7.Pv) g J J J J J J (.inl ⟨_,J,J⟩) L2 F0 ov bh J (λ_=>J)) J J J<|S2 1 J<|S6 2 J<|eL h (y8 [33] (M4 910006 33))) λhc h=>n9<|c8<|c8<|l7<|have h:=xL k h;eJ h (E2 [910006])⟩
  .refine S4 2 J ?_;refine Y h (λhc h=>?_) λhc h=>?_;·cases h
   .exact Z<|eJ h W
 .refine S3 1 J ?_;refine nL J ow<|S2 1 J<|c9<|lq h (λq=>St.of [(0,.L (Ls k7.Pv) b),(3,.I q.1),(9,.L (Ls k7.Pv) b),(10,.I (b.length:Int)),(11,.I q.2)] []) W λw x50 h m=>?_;obtain⟨R,x⟩:=w;refine S4 1 J<|g6 ?_;refine Y h (λhc h=>?_) λhc h=>?_
  .refine Z ?_;refine jq h (λt=>St.of [(0,.L (Ls k7.Pv) b),(3,.I t),(9,.L (Ls k7.Pv) b),(10,.I (b.length:Int)),(11,.I x)] []) (λt h=>?_) λE h=>?_
   .exact S6 2 J<|eL h W
   .refine c9 ?_;refine sR<|iL h J J ow xk λv55 _ h=>S2 2 J<|S3 2 J<|nL J L2<|S2 2 J<|S4 2 J ?_;refine Y h (λhc h=>?_) λhc h=>?_;·cases h
    .exact Z<|eJ h W
  .exact n9<|c8<|c8<|l7<|have h:=xL m h;eJ h W
theorem vQ{a b}:PO Tryz.prog 122 [l5.Pv a,.rptr [.L D b]] (gB a b) λr=>.bool r:=x8 Tryz.func122 J λr h=>S4 2 J<|S3 3 J<|cA h P1 J J λc _ h=>S2 2 J<|M<|Λ
theorem bw{a j}:PO Tryz.prog 121 [.L l5.Pv a,.fn (.func 122) [.rptr [.L D j]]] (F7 a j) λr=>.L l5.Pv r:=x8 Tryz.func121 J λr h=>S4 1 J<|S4 1 J<|jq h (λe=>St.of [(5,.sl 910005)] [(910005,w7 l5.Pv e 2)]) (λe h=>S4 2 J<|M<|Λ) λs h=>S3 1 J<|nL J O1<|S2 1 J<|c9<|lq h (λq=>St.of [(1,.fn (.func 122) [.rptr [.L D j]]),(5,.sl 910005),(8,.L l5.Pv a),(9,.I (a.length:Int)),(10,.I q.1)] [(910005,w7 l5.Pv q.2 2)]) (bP 5 920005 2 910005) λk x h c=>by obtain⟨m,u⟩:=k;exact S4 1 J<|g6<|Y h (λhc h=>Z<|jq h (λg=>St.of [(1,.fn (.func 122) [.rptr [.L D j]]),(5,.sl 20),(8,.L l5.Pv a),(9,.I (a.length:Int)),(10,.I m)] [(20,w7 l5.Pv g 2)]) (λg h=>S6 2 J<|eL h (y8 [20] (M4 910005 20))) λt h=>c9<|sR<|iL h J J O1 V5 λo _ h=>S2 3 J<|S3 2 J<|cA h vQ J J λv _ h=>yN<|Y h (λhc h=>S5 2 J<|y0 J (G6 (f:=l5.Pv) (l:=[o]) J O1 V5 bg J J nl J J)<|s7 h λw b h=>G3 J (E3 (f:=l5.Pv) b J J J J J J (.inl ⟨_,J,J⟩) O1 V5 rR bg J (λ_=>J)) J J J<|S2 1 J<|eJ h (E2 [20])) λhc h=>Z<|eJ h (y8 [910005] (M4 20 910005))) λhc h=>n9<|c8<|c8<|l7<|have h:=xL c h;eJ h (E2 [910005])
theorem vT{a}:PO Tryz.prog 124 [b8.Pv a] (ll a) λr=>b8.Pv r:=x8 Tryz.func124 J λr h=>by unfold ll at h;exact S4 2 J<|S3 3 J<|eZ (x':=.agg [.I a.Serial,.I a.Slot,.I a.Prog,.bool a.Started,.bool false,.bool a.Stuck,.nl]) (cl':=true) J J (.inl J) aF<|yN<|S3 1 J<|eZ (x':=.agg [.I a.Serial,.I a.Slot,.I a.Prog,.bool a.Started,.bool false,.bool a.Stuck,.nl]) (cl':=true) J J (.inl J) z8<|yN<|M<|ΩT
theorem gC{e g}:PO Tryz.prog 112 [a8.Pv e,.I g,.fn (.func 124) []] (F5 e g) λr=>a8.Pv r:=x8 Tryz.func112 J λr h=>S4 2 J<|S3 2 J<|cA h W2 J J λk _ h=>S2 1 J<|S3 2 J<|s7 h λv2 b h=>NL J (jr J D3 J b) J J<|S2 2 J<|dr [] r7 Φ Φ<|S7 7 J<|s7 h λv3 a h=>d0 J (Q4 (f:=b8.Pv) a J J J J D0 z8 J) J<|d0 J (Nc (f:=b8.Pv) (cs:=b8.Pc v3) a J J J iQ z8 nl J) J<|s7 h λj c h=>cu J (x4 J vT J c) J<|d0 J (Q4 (f:=b8.Pv) a J J J J D0 z8 J) J<|Il (f:=b8.Pv) (v:=j) a J J (.inr J) z8<|E9<|S4 2 J<|M<|Ωh
theorem yk{b c}:PO Tryz.prog 235 [l4.Pv b,.rptr [.I c]] (jd b c) λr=>.bool r:=x8 Tryz.func235 J λr h=>by unfold jd at h;exact S4 2 J<|S3 3 J<|O J (λa=>oF J xj J)<|O J (λa=>oS (ct a) J J F4 J)<|O J (λa=>I5 J F4 J)<|O J (λa=>z6 (ct a) (ct a) J)<|y0 J (B3 J J J (λq=>fp q))<|S2 1 J<|M<|Λ
theorem jG{a k}:PO Tryz.prog 187 [.L l4.Pv a,.fn (.func 235) [.rptr [.I k]]] (Y0 a k) λr=>.L D r:=x8 Tryz.func187 J λr h=>S4 1 J<|S4 1 J<|jq h (λe=>St.of [(5,.sl 910005)] [(910005,w7 D e 1)]) (λe h=>S4 2 J<|M<|Λ) λo h=>S3 1 J<|nL J V4<|S2 1 J<|c9<|lq h (λq=>St.of [(1,.fn (.func 235) [.rptr [.I k]]),(5,.sl 910005),(8,.L l4.Pv a),(9,.I (a.length:Int)),(10,.I q.1)] [(910005,w7 D q.2 1)]) (bP 5 920005 1 910005) λm x h c=>by obtain⟨j,t⟩:=m;exact S4 1 J<|g6<|Y h (λhc h=>Z<|jq h (λg=>St.of [(1,.fn (.func 235) [.rptr [.I k]]),(5,.sl 21),(8,.L l4.Pv a),(9,.I (a.length:Int)),(10,.I j)] [(21,w7 D g 1)]) (λg h=>S6 2 J<|eL h (y8 [21] (M4 910005 21))) λs h=>c9<|S3 1 J<|iL h J J V4 Z0 λu _ h=>S2 4 J<|S3 2 J<|cA h yk J J λv _ h=>yN<|Y h (λhc h=>S5 2 J<|y0 J (G6 (f:=D) (l:=[j]) J m7 n8 A2 J J nl J J)<|s7 h λw b h=>G3 J (E3 (f:=D) b J J J J J J (.inl ⟨_,J,J⟩) m7 n8 H7 A2 J (λ_=>J)) J J J<|S2 1 J<|eJ h (E2 [21])) λhc h=>Z<|eJ h (y8 [910005] (M4 21 910005))) λhc h=>n9<|c8<|c8<|l7<|have h:=xL c h;eJ h (E2 [910005])
theorem Dj{b c}:PO Tryz.prog 191 [.L l4.Pv b,.I c] (fP b c) λr=>.I r:=x8 Tryz.func191 J λr h=>by unfold fP at h;exact S4 2 J<|S3 2 J<|s7 h λe a h=>Ka J (x4 J jG J a) J<|nL J m7<|S2 1 J<|M<|Λ
theorem sU{a b}:PO Tryz.prog 192 [b8.Pv a,.rptr [.I b]] (dB a b) λr=>.bool r:=x8 Tryz.func192 J λr h=>by unfold dB at h;exact S4 2 J<|S4 5 J<|M<|Λ
theorem aN{a j}:PO Tryz.prog 45 [.L b8.Pv a,.fn (.func 192) [.rptr [.I j]]] (E8 a j) λr=>.L b8.Pv r:=x8 Tryz.func45 J λr h=>S4 1 J<|S4 1 J<|jq h (λe=>St.of [(5,.sl 910005)] [(910005,w7 b8.Pv e 7)]) (λe h=>S4 2 J<|M<|Λ) λs h=>S3 1 J<|nL J D0<|S2 1 J<|c9<|lq h (λq=>St.of [(1,.fn (.func 192) [.rptr [.I j]]),(5,.sl 910005),(8,.L b8.Pv a),(9,.I (a.length:Int)),(10,.I q.1)] [(910005,w7 b8.Pv q.2 7)]) (bP 5 920005 7 910005) λk x h c=>by obtain⟨m,u⟩:=k;exact S4 1 J<|g6<|Y h (λhc h=>Z<|jq h (λg=>St.of [(1,.fn (.func 192) [.rptr [.I j]]),(5,.sl 20),(8,.L b8.Pv a),(9,.I (a.length:Int)),(10,.I m)] [(20,w7 b8.Pv g 7)]) (λg h=>S6 2 J<|eL h (y8 [20] (M4 910005 20))) λt h=>c9<|sR<|iL h J J D0 z8 λo _ h=>S2 3 J<|S3 2 J<|cA h sU J J λv _ h=>yN<|Y h (λhc h=>S5 2 J<|y0 J (G6 (f:=b8.Pv) (l:=[o]) J D0 z8 bf J J nl J J)<|s7 h λw b h=>G3 J (E3 (f:=b8.Pv) b J J J J J J (.inl ⟨_,J,J⟩) D0 z8 ou bf J (λ_=>J)) J J J<|S2 1 J<|eJ h (E2 [20])) λhc h=>Z<|eJ h (y8 [910005] (M4 20 910005))) λhc h=>n9<|c8<|c8<|l7<|have h:=xL c h;eJ h (E2 [910005])
theorem L7{a}:PG Tryz.prog 138 [.L D a] (C2 a) λr=>⟨List.map D r,0,true,1,true⟩:=Jd Tryz.func138 J λr h=>by unfold C2 at h;exact S4 1 J<|g6<|S3 1 J<|xb J m7 λb hb=>yN<|J9 b J (λhc=>by obtain rfl:a = []:=ΩM;exact S4 1 J<|de (iO (t:=2) (l:=920000) (z:=1) J J)<|M<|Ωu) (λhc=>Z<|sR<|y0 J (D9 J m7 n8)<|S1 1 J<|y1 J (eO (f:=D) h J J (.inl ⟨_,J,J⟩) m7 n8 H7 A2 J (λ_=>J)) J<|S2 1 J<|M<|⟨J,_,_,J,J,J,J⟩)
theorem mi{b t}:PO Tryz.prog 125 [a8.Pv b,.I t] (T5 b t) λr=>a8.Pv r:=x8 Tryz.func125 J λr h=>S4 3 J<|S3 2 J<|cA h W2 J J λz _ h=>S2 1 J<|g6<|S3 3 J<|O J (λa=>oF J PK J)<|O J (λa=>oS (ct a) J J XK J)<|O J (λa=>mI J)<|s7 h λv2 j h=>O J (λa=>A0 (f:=b8.Pv) (cs:=b8.Pc v2) (I9 j a) (ct a) (ct a) D0 z8 J J)<|O J (λa=>G2 (ct a) NR J)<|O J (λa=>I5 (ct a) fS J)<|y0 J (D2 J J J (λq=>cV q))<|S1 1 J<|O J (λa=>oF J HU J)<|O J (λa=>oS (ct a) J J Kd J)<|O J (λa=>oS J J J F4 J)<|s7 h λv3 k h=>O J (λa=>F2 J Dj (C3 (ct a) (C3 (ct a) J)) (I9 k a))<|O J (λa=>z6 (ct a) J J)<|y0 J (D2 J J J (λq=>cV q))<|yN<|Y h (λhc h=>S4 2 J<|M<|Ωh) λhc h=>Z<|S3 3 J<|iL h J J D0 z8 λA _ h=>S2 3 J<|S3 3 J<|s7 h λu m h=>Ka J (x4 J aN J m) J<|S2 2 J<|dr [] r7 Φ Φ<|S7 2 J<|s7 h λB o h=>d2N J (jr J L7 J o) J J J<|S7 2 J<|s7 h λC s h=>d2N J (jr J L7 J s) J J J<|S7 1 J<|B4 (x':=.agg [.L b8.Pv u,.sl 41,.L D b.Gens,.I b.Last,.I b.Places,.I b.Serial,.L D b.Roots,.L l4.Pv b.b7,.L l5.Pv b.Pairs,.L k7.Pv b.Tasks,.L (Ls k8.Pv) b.Progs]) (cl':=false) J J (.inl J) aF<|S7 1 J<|B4 (x':=.agg [.L b8.Pv u,.sl 41,.sl 44,.I b.Last,.I b.Places,.I b.Serial,.L D b.Roots,.L l4.Pv b.b7,.L l5.Pv b.Pairs,.L k7.Pv b.Tasks,.L (Ls k8.Pv) b.Progs]) (cl':=false) J J (.inl J) aF<|E9<|g6<|dr [] r7 Φ Φ<|S7 3 J<|s7 h λx c h=>d0 J (Q4 (f:=D) c J J J J m7 n8 J) J<|d0 J (wb (f:=D) c J J J F4 J) J<|S8 3 J<|Y h (λhc h=>S3 3 J<|by obtain⟨E,g,h⟩:=pJ h;exact y0 J (Q4 (f:=D) g J J J J m7 n8 J)<|gW (f:=D) (v:=(-1)) g J J (.inl J) n8<|yN<|S4 2 J<|M<|Ωh) λhc h=>Z<|S3 3 J<|s7 h λw e h=>y0 J (Q4 (f:=D) e J J J J m7 n8 J)<|gW (f:=D) (v:=0) e J J (.inl J) n8<|yN<|S3 3 J<|y0 J (Q4 (f:=D) c J J J J m7 n8 J)<|y0 J (wb (f:=D) c J J J F4 J)<|S1 1 J<|y0 J (Q4 (f:=D) c J J J J m7 n8 J)<|gW (f:=D) (v:=y4 (x+1)) c J J (.inl J) n8<|yN<|S4 2 J<|M<|Ωh
theorem pS{e c}:PO Tryz.prog 58 [a8.Pv e,.L D c] (gz e c) λr=>a8.Pv r:=x8 Tryz.func58 J λr h=>S4 3 J<|S3 3 J<|cF h tL J J λx _ h=>S2 6 J<|S4 3 J<|S3 2 J<|s7 h λv2 g h=>Ka J (x4 J ay J g) J<|S2 1 J<|S3 3 J<|y0 J (G6 (f:=(Ls k7.Pv)) (l:=[e.Tasks,v2]) J ow xk XX J J nl J J)<|cF h dZ J J λv3 _ h=>S2 2 J<|S3 3 J<|s7 h λz j h=>Ka J (x4 J bw J j) J<|S2 2 J<|jq h (λb=>St.of [(2,.ptr 2 0 0),(4,.ptr 4 0 0)] [(4,U (.agg [.nl,.nl,.nl,.I 0,.I 0,.I 0,.nl,.nl,.nl,.nl,.nl]) 11),(2,U (a8.Pv b) 11)]) (λb h=>S4 2 J<|M<|Ωh) λm h=>S3 1 J<|nL J m7<|S2 1 J<|c9<|lq h (λq=>St.of [(2,.ptr 2 0 0),(4,.ptr 4 0 0),(33,.L D c),(34,.I (c.length:Int)),(35,.I q.1)] [(4,U (.agg [.nl,.nl,.nl,.I 0,.I 0,.I 0,.nl,.nl,.nl,.nl,.nl]) 11),(2,U (a8.Pv q.2) 11)]) W λk w h a=>by obtain⟨o,s⟩:=k;exact S4 1 J<|g6<|Y h (λhc h=>Z<|g6<|c9<|sR<|iL h J J m7 n8 λt _ h=>S2 2 J<|S3 2 J<|cF h gC J J λu _ h=>S2 1 J<|S5 2 J<|cF h mi J J λv _ h=>S2 1 J<|S6 2 J<|eL h W) λhc h=>n9<|c8<|c8<|l7<|have h:=xL a h;eJ h W
theorem uj{c e}:PO Tryz.prog 116 [b8.Pv c,.rptr (a8.Pc e)] (bN c e) λr=>.bool r:=x8 Tryz.func116 J λr h=>by unfold bN at h;exact S4 2 J<|S3 3 J<|O J (λa=>oF J NT J)<|O J (λa=>oS (ct a) J J fS J)<|O J (λa=>bb (ct a) J)<|y0 J (B3 J J J (λq=>fp q))<|S1 1 J<|O J (λa=>Co J B0 y7 nl J)<|O J (λa=>oF J DY J)<|O J (λa=>oS (ct a) J J F4 J)<|s7 h λf b h=>O J (λa=>F2 J lk (C3 (ct a) (C3 (ct a) J)) (I9 b a))<|O J (λa=>z6 (ct a) J J)<|y0 J (B3 J J J (λq=>fp q))<|S2 1 J<|M<|Λ
theorem R3{b c}:PO Tryz.prog 115 [.L b8.Pv b,.fn (.func 116) [.rptr (a8.Pc c)]] (A7 b c) λr=>.I r:=x8 Tryz.func115 J λr h=>S4 1 J<|jq h (λ_=>St.of [] []) (λm h=>S4 1 J<|M<|Λ) λk h=>S3 1 J<|nL J D0<|S2 1 J<|c9<|lq h (λe=>St.of [(0,.L b8.Pv b),(1,.fn (.func 116) [.rptr (a8.Pc c)]),(7,.I (b.length:Int)),(8,.I e)] []) W λe j h a=>S4 1 J<|g6<|Y h (λhc h=>Z<|g6<|c9<|S4 2 J<|S3 3 J<|iL h J J D0 z8 λf _ h=>S1 1 J<|cA h uj J J λg _ h=>yN<|Y h (λhc h=>S4 2 J<|M<|have h:=xL a h;Λ) λhc h=>Z<|S6 2 J<|eL h W) λhc h=>n9<|c8<|c8<|l7<|have h:=xL a h;eJ h W
theorem Q9{b}:PO Tryz.prog 57 [a8.Pv b] (K7 b) λr=>a8.Pv r:=x8 Tryz.func57 J λr h=>S4 2 J<|c9<|lq h (λs2=>St.of [(1,.ptr 1 0 0),(2,.ptr 2 0 0)] [(2,U (.agg [.nl,.nl,.nl,.I 0,.I 0,.I 0,.nl,.nl,.nl,.nl,.nl]) 11),(1,U (a8.Pv s2) 11)]) W λs2 m h a=>c9<|S3 3 J<|cA h R3 J J λe _ h=>S2 1 J<|g6<|S4 2 J<|Y h (λhc h=>S4 2 J<|M<|have h:=xL a h;Ωh) λhc h=>Z<|S3 3 J<|iL h J J D0 z8 λc _ h=>S2 3 J<|S3 1 J<|cA h nu J J λg _ h=>yN<|Y h (λhc h=>S5 3 J<|cF h nw J J λj _ h=>S2 1 J<|eL h W) λhc h=>S5 3 J<|y0 J (G6 (f:=D) (l:=[c.Serial]) J m7 n8 A2 J J nl J J)<|cF h pS J J λk _ h=>S2 1 J<|eL h W
theorem gy{a}:PO Tryz.prog 18 [a8.Pv a] (ba a) λr=>.L D r:=x8 Tryz.func18 J λr h=>S4 2 J<|S3 2 J<|cF h P7 J J λb _ h=>cF h dC J J λv2 _ h=>S2 1 J<|M<|Λ
theorem uf{w}:PO Tryz.prog 35 [a8.Pv w] (bL w) λr=>.tup [a8.Pv r.1,l6.Pv r.2]:=x8 Tryz.func35 J λr h=>S4 3 J<|S3 1 J<|cF h xM J J λN _ h=>S2 2 J<|S3 3 J<|s7 h λv2 u h=>Ka J (x4 J az J u) J<|S2 1 J<|S3 1 J<|cF h bM J J λv3 _ h=>cF h dC J J λt _ h=>S2 1 J<|jq h (λk=>St.of [(1,.ptr 1 0 0),(2,.ptr 2 0 0),(3,.ptr 3 0 0),(5,.L b8.Pv v2),(6,.L D t)] [(3,U (.agg [.I 0,.I 0]) 2),(2,U (.agg [.nl,.nl,.nl,.I 0,.I 0,.I 0,.nl,.nl,.nl,.nl,.nl]) 11),(1,U (a8.Pv k) 11)]) (λk h=>g6<|S3 1 J<|nL J m7<|S2 1 J<|Y h (λhc h=>S3 2 J<|nL J m7<|y0 J (.neg _ _ _ _ J)<|y0 J (o6 (cs:=[.I (y4 (0-(t.length:Int))),.I 0]) J ck Y4 J J J)<|S2 2 J<|M<|Ωe) λhc h=>Z<|dr [] r7 Φ Φ<|S7 2 J<|s7 h λC a h=>cu J (x4 J dC J a) J<|s7 h λE b h=>cu J (x4 J pS J b) J<|s7 h λm c h=>cu J (x4 J Q9 J c) J<|S7 1 J<|B4 (x':=a8.Pv m) (cl':=true) J J (.inr J) y7<|E9<|dr [3,6] r7 Φ Φ<|S7 2 J<|s7 h λo e h=>cu J (x4 J gy J e) J<|d7 J (λ_ x=>W3 (f:=D) J m7) J<|S7 1 J<|s7 h λs g h=>cu J (x4 J gy J g) J<|d7 J (λ_ x=>W3 (f:=D) J m7) J<|S7 1 J<|d7 J (λ_ x=>o6 (cs:=[.I (y4 ((o.length:Int)-(s.length:Int))),.I 0]) J ck Y4 J J J) J<|B4 (x':=a8.Pv m) (cl':=true) J J (.inr J) y7<|B4 (x':=.agg [.I (y4 ((o.length:Int)-(s.length:Int))),.I 0]) (cl':=true) J J (.inl J) C5<|E9<|M<|Ωe) λz h=>S3 1 J<|nL J m7<|S2 1 J<|c9<|lq h (λq=>St.of [(1,.ptr 1 0 0),(2,.ptr 2 0 0),(3,.ptr 3 0 0),(5,.L b8.Pv v2),(6,.L D t),(19,.L D t),(20,.I (t.length:Int)),(21,.I q.1)] [(3,U (.agg [.I 0,.I 0]) 2),(2,U (.agg [.nl,.nl,.nl,.I 0,.I 0,.I 0,.nl,.nl,.nl,.nl,.nl]) 11),(1,U (a8.Pv q.2) 11)]) W λv H h j=>by obtain⟨A,B⟩:=v;exact S4 1 J<|g6<|Y h (λhc h=>Z<|g6<|c9<|sR<|iL h J J m7 n8 λF _ h=>S2 2 J<|S5 2 J<|cF h nw J J λG _ h=>S2 1 J<|S6 2 J<|eL h W) λhc h=>n9<|c8<|c8<|l7<|have h:=xL j h;eJ h W
theorem mK{b c}:PO Tryz.prog 126 [.L (Ls k8.Pv) b,.I c] (iw b c) λr=>.L k8.Pv r:=x8 Tryz.func126 J λr h=>S4 1 J<|g6<|S3 3 J<|O J (λa=>mI J)<|O J (λa=>om (d:=.L (Ls k8.Pv) b) J)<|O J (λa=>W3 (f:=(Ls k8.Pv)) (ct a) jI)<|O J (λa=>z6 (ct a) (ct a) J)<|y0 J (D2 J J J (λq=>cV q))<|yN<|Y h (λhc h=>S4 1 J<|M<|Λ) λhc h=>Z<|S3 2 J<|iL h J J jI xl λe _ h=>S2 2 J<|M<|Λ
theorem tt{a b}:PO Tryz.prog 59 [.L (Ls k8.Pv) a,k7.Pv b] (fm a b) λr=>.I r:=x8 Tryz.func59 J λr h=>S4 2 J<|S3 3 J<|cF h mK J J λc _ h=>nL J jJ<|S2 2 J<|M<|Λ
theorem jR{e g b}:PO Tryz.prog 127 [a8.Pv e,.I g,.I b] (Z6 e g b) λr=>a8.Pv r:=x8 Tryz.func127 J λr h=>S4 2 J<|S3 2 J<|cF h iX J J λj _ h=>S2 1 J<|S3 2 J<|s7 h λv2 c h=>NL J (jr J L7 J c) J J<|S2 2 J<|S3 4 J<|s7 h λv3 a h=>y0 J (Q4 (f:=D) a J J J J m7 n8 J)<|gW (f:=D) (v:=b) a J J (.inl J) n8<|yN<|S4 2 J<|M<|Ωh
theorem V9{a}:PO Tryz.prog 264 [k9.Pv a] (P3 a) λr=>.I r:=x8 Tryz.func264 J λr h=>by unfold P3 at h;exact S4 2 J<|S3 2 J<|nL J L2<|S2 1 J<|M<|Λ
theorem aP{b c e}:PO Tryz.prog 265 [.L k7.Pv b,.I c,.I e] (K0 b c e) λr=>.lst true (List.map k7.Pv r):=x8 Tryz.func265 J λr h=>by unfold K0 at h;exact S4 1 J<|S3 4 J<|s7 h λg a h=>y0 J (RZ (f:=k7.Pv) a J ⟨_,J⟩ ⟨_,J⟩ ⟨_,J⟩ J J L2 F0 (λ_=>J))<|S2 1 J<|M<|Λ
theorem mR{a e}:PO Tryz.prog 236 [k9.Pv a,.I e] (cv a e) λr=>.tup [k9.Pv r.1,.L k7.Pv r.2]:=x8 Tryz.func236 J λr h=>S4 3 J<|S3 2 J<|cA h V9 J J λf b h=>y0 J (Xu J J J)<|y0 J (Sa J J J)<|S2 1 J<|S3 3 J<|cF h aP J J λv2 _ h=>S2 1 J<|dr [] r7 Φ Φ<|S7 4 J<|d2 J (F2 J V9 J b) J<|s7 h λv3 c h=>cu J (x4 J aP J c) J<|S7 1 J<|B4 (x':=.agg [.L k7.Pv v3,.I a.Cap]) (cl':=true) J J (.inr J) xk<|E9<|S4 4 J<|M<|ΩQ
theorem pg{a}:PO Tryz.prog 193 [k9.Pv a] (dV a) λr=>.tup [k9.Pv r.1,k7.Pv r.2.1,.I r.2.2]:=x8 Tryz.func193 J λr h=>S4 4 J<|S3 1 J<|cF h mR J J λe _ h=>S2 6 J<|g6<|S3 1 J<|nL J L2<|S2 1 J<|Y h (λhc h=>S4 1 J<|dr [1,1007] r7 Φ Φ<|S7 1 J<|d7 J (λ_ b=>oZ (cs:=[.I 0,.I 0,.I 0]) b J J J J dv F0 nl J) J<|B4 (x':=k9.Pv a) (cl':=true) J J (.inr J) dP<|B4 (x':=.agg [.I 0,.I 0,.I 0]) (cl':=true) J J (.inl J) F0<|S8 1 J<|M<|Ω7) λhc h=>Z<|dr [2,3] r7 Φ Φ<|S7 2 J<|s7 h λv2 c h=>d7 J (λ_ b=>A0 (f:=k7.Pv) (cs:=k7.Pc v2) c J J L2 F0 J J) J<|d7 J (λ_ b=>Co J dv F0 nl J) J<|B4 (x':=k9.Pv e.1) (cl':=true) J J (.inr J) dP<|B4 (x':=k7.Pv v2) (cl':=true) J J (.inl J) F0<|S8 1 J<|M<|Ω7
theorem ky{a}:PO Tryz.prog 128 [k9.Pv a] (fN a) λr=>.tup [k9.Pv r.1,k7.Pv r.2.1,.I r.2.2]:=x8 Tryz.func128 J λr h=>S4 4 J<|S3 1 J<|cF h pg J J λb _ h=>S2 6 J<|M<|Ω7
theorem eK{a b}:PO Tryz.prog 62 [a8.Pv a,.I b] (X7 a b) λr=>.I r:=x8 Tryz.func62 J λr h=>S4 2 J<|g6<|S4 2 J<|Y h (λhc h=>S4 1 J<|M<|Λ) λhc h=>Z<|S3 3 J<|iL h J J m7 n8 λc _ h=>S2 2 J<|M<|Λ
theorem fe{e g}:PO Tryz.prog 130 [a8.Pv e,.I g] (L9 e g) λr=>.tup [b8.Pv r.1,.I r.2]:=x8 Tryz.func130 J λr h=>S4 3 J<|g6<|S3 2 J<|cA h eK J J λj a h=>S2 1 J<|Y h (λhc h=>sR<|y0 J (o6 (cs:=[.I 0,.I 0,.I 0,.bool false,.bool false,.bool false,.nl]) J LY bf J J J)<|eZ (x':=.agg [.I 0,.I 0,.I 0,.bool false,.bool false,.bool false,.nl]) (cl':=true) J J (.inl J) z8<|S2 1 J<|M<|Δq) λhc h=>Z<|dr [] r7 Φ Φ<|S7 5 J<|d2 J (F2 J eK J a) J<|s7 h λv2 b h=>d2 J (F2 J W2 J b) J<|s7 h λv3 c h=>d0 J (A0 (f:=b8.Pv) (cs:=b8.Pc v3) c J J D0 z8 J J) J<|S7 1 J<|B4 (x':=b8.Pv v3) (cl':=true) J J (.inr J) z8<|S8 1 J<|M<|Δq
theorem Dg{b c}:PO Tryz.prog 194 [.L D b,.I c] (jc b c) λr=>.bool r:=x8 Tryz.func194 J λr h=>by unfold jc at h;exact S4 1 J<|S3 3 J<|O J (λa=>mI J)<|O J (λa=>om (d:=.L D b) J)<|O J (λa=>W3 (f:=D) (ct a) m7)<|O J (λa=>z6 (ct a) (ct a) J)<|y0 J (B3 J J J (λq=>fp q))<|S2 1 J<|M<|Λ
theorem yO{g j b}:PO Tryz.prog 131 [.L D g,.I j,.I b] (nX g j b) λr=>.tup [.L D r.1,.I r.2]:=x8 Tryz.func131 J λr h=>S4 2 J<|g6<|S3 2 J<|cA h Dg J J λk _ h=>S2 1 J<|Y h (λhc h=>S4 3 J<|M<|Ωb) λhc h=>Z<|S3 1 J<|nL J m7<|s7 h λv2 c h=>y1 J (qi (f:=D) c J J J m7 n8 A2 H7 J J J) J<|S2 1 J<|S3 2 J<|s7 h λv3 e h=>a1w (f:=D) e J J J (.inl ⟨_,J,J⟩) m7 n8 (λ_=>J) Θ<|yN<|S3 3 J<|s7 h λm a h=>y0 J (Q4 (f:=D) a J J J J m7 n8 J)<|gW (f:=D) (v:=b) a J J (.inl J) n8<|yN<|S4 3 J<|M<|Ωb
theorem vV{a b}:PO Tryz.prog 132 [b8.Pv a,.rptr [.L D b]] (gG a b) λr=>b8.Pv r:=x8 Tryz.func132 J λr h=>by unfold gG at h;exact S4 2 J<|S4 3 J<|S4 2 J<|M<|ΩT
theorem gD{e g j}:PO Tryz.prog 112 [a8.Pv e,.I g,.fn (.func 132) [.rptr [.L D j]]] (T4 e g j) λr=>a8.Pv r:=x8 Tryz.func112 J λr h=>S4 2 J<|S3 2 J<|cA h W2 J J λm _ h=>S2 1 J<|S3 2 J<|s7 h λv2 b h=>NL J (jr J D3 J b) J J<|S2 2 J<|dr [] r7 Φ Φ<|S7 7 J<|s7 h λv3 a h=>d0 J (Q4 (f:=b8.Pv) a J J J J D0 z8 J) J<|d0 J (Nc (f:=b8.Pv) (cs:=b8.Pc v3) a J J J iQ z8 nl J) J<|s7 h λk c h=>cu J (x4 J vV J c) J<|d0 J (Q4 (f:=b8.Pv) a J J J J D0 z8 J) J<|Il (f:=b8.Pv) (v:=k) a J J (.inr J) z8<|E9<|S4 2 J<|M<|Ωh
theorem Aj{b c e}:PO Tryz.prog 63 [a8.Pv b,.I c,k8.Pv e] (ko b c e) λr=>.tup [a8.Pv r.1,.I r.2]:=x8 Tryz.func63 J λr h=>S4 4 J<|S3 3 J<|cF h fe J J λf _ h=>S2 6 J<|g6<|S4 2 J<|Y h (λhc h=>S4 4 J<|M<|Ωl) λhc h=>Z<|S3 5 J<|cF h yO J J λv2 _ h=>S2 6 J<|g6<|S4 2 J<|Y h (λhc h=>S4 4 J<|M<|Ωl) λhc h=>Z<|S3 2 J<|cF h iX J J λv3 _ h=>S2 1 J<|S3 4 J<|s7 h λg a h=>Ka J (x4 J gD J a) J<|S2 2 J<|M<|Ωl
theorem iC{b a c}:PO Tryz.prog 61 [a8.Pv b,.I a,k8.Pv c,.fn (.func 63) []] (N5 b a c) λr=>.tup [a8.Pv r.1,l6.Pv r.2]:=x8 Tryz.func61 J λr h=>S4 4 J<|S3 4 J<|cF h Aj J J λe _ h=>S2 6 J<|g6<|S4 2 J<|Y h (λhc h=>S3 2 J<|y0 J (o6 (cs:=[.I 0,.I e.2]) J ck Y4 J J J)<|S2 2 J<|M<|Ωe) λhc h=>Z<|S3 1 J<|cF h Q9 J J λv2 _ h=>S1 1 J<|y0 J (o6 (cs:=[.I a,.I 0]) J ck Y4 J J J)<|S2 2 J<|M<|Ωe
end Go.Proofs.YtbdapcapkocckaaGreat.Ok
