/- A part. -/
import Derived.Test.YtmgbbnfgfmfgaaaGreatQ22dPwC
import Derived.Test.YtmgbbnfgfmfgaaaGreatQ22dPwD
import Derived.Test.YtmgbbnfgfmfgaaaGreatSrt
import Derived.Test.YtmgbbnfgfmfgaaaGreatQ22dSh
import Derived.Test.YtmgbbnfgfmfgaaaGreatProg
set_option linter.unusedVariables false
set_option linter.unusedSimpArgs false
set_option linter.unusedSectionVars false
namespace Go.Proofs.YtmgbbnfgfmfgaaaGreat.Ok
open Go Go.Pw Go.Sh Go.Proofs
set_option maxRecDepth 100000
set_option maxHeartbeats 4000000
abbrev _root_.Go.Sh.g8.Pc(x:g8):List PV:=[.I x.Kind,.I x.A,.I x.B,.I x.C]
abbrev _root_.Go.Sh.g8.Pv(x:g8):PV:=.agg x.Pc
abbrev _root_.Go.Sh.b8.Pc(x:b8):List PV:=[.I x.Serial,.I x.Slot,.I x.Prog,.bool x.Started,.bool x.Alive,.bool x.Stuck,.L iF x.Fields]
abbrev _root_.Go.Sh.b8.Pv(x:b8):PV:=.agg x.Pc
abbrev _root_.Go.Sh.k7.Pc(x:k7):List PV:=[.I x.Target,.bool x.Intact,.I x.Call]
abbrev _root_.Go.Sh.k7.Pv(x:k7):PV:=.agg x.Pc
abbrev _root_.Go.Sh.g7.Pc(x:g7):List PV:=[.I x.Key,.I x.Val]
abbrev _root_.Go.Sh.g7.Pv(x:g7):PV:=.agg x.Pc
abbrev _root_.Go.Sh.e6.Pc(x:e6):List PV:=[.I x.Kind,.I x.At,.I x.Prog]
abbrev _root_.Go.Sh.e6.Pv(x:e6):PV:=.agg x.Pc
abbrev _root_.Go.Sh.n7.Pc(x:n7):List PV:=[.I x.Serial,.I x.Strong,.I x.Weak,.I x.Prog,.bool x.Started,.L iF x.Fields]
abbrev _root_.Go.Sh.n7.Pv(x:n7):PV:=.agg x.Pc
abbrev _root_.Go.Sh.c8.Pc(x:c8):List PV:=[.I x.State,.I x.Gen,.I x.Val.Serial,.I x.Val.Strong,.I x.Val.Weak,.I x.Val.Prog,.bool x.Val.Started,.L iF x.Val.Fields]
abbrev _root_.Go.Sh.c8.Pv(x:c8):PV:=.agg x.Pc
abbrev _root_.Go.Sh.g5.Pc(x:g5):List PV:=[.I x.State,.I x.Key,.I x.Val]
abbrev _root_.Go.Sh.g5.Pv(x:g5):PV:=.agg x.Pc
abbrev _root_.Go.Sh.l5.Pc(x:l5):List PV:=[sP x.part,.I x.least,.I x.most,.I x.e]
abbrev _root_.Go.Sh.l5.Pv(x:l5):PV:=.agg x.Pc
abbrev _root_.Go.Sh.l4.Pc(x:l4):List PV:=[.L c8.Pv x.b7,.I x.Last]
abbrev _root_.Go.Sh.l4.Pv(x:l4):PV:=.agg x.Pc
abbrev _root_.Go.Sh.b6.Pc(x:b6):List PV:=[.L c8.Pv x.S.b7,.I x.S.Last,.I x.Serial]
abbrev _root_.Go.Sh.b6.Pv(x:b6):PV:=.agg x.Pc
abbrev _root_.Go.Sh.j5.Pc(x:j5):List PV:=[.L e6.Pv x.L,.I x.Cap]
abbrev _root_.Go.Sh.j5.Pv(x:j5):PV:=.agg x.Pc
abbrev _root_.Go.Sh.b9.Pc(x:b9):List PV:=[.L c8.Pv x.S.S.b7,.I x.S.S.Last,.I x.S.Serial,.L iF x.Roots,.L k7.Pv x.b7,.L g5.Pv x.T,.L e6.Pv x.Q.L,.I x.Q.Cap]
abbrev _root_.Go.Sh.b9.Pv(x:b9):PV:=.agg x.Pc
abbrev _root_.Go.Sh.r8.Pc(x:r8):List PV:=[.L c8.Pv x.X.S.S.b7,.I x.X.S.S.Last,.I x.X.S.Serial,.L iF x.X.Roots,.L k7.Pv x.X.b7,.L g5.Pv x.X.T,.L e6.Pv x.X.Q.L,.I x.X.Q.Cap,.L (Ls g8.Pv) x.Progs]
abbrev _root_.Go.Sh.r8.Pv(x:r8):PV:=.agg x.Pc
abbrev _root_.Go.Sh.a8.Pc(x:a8):List PV:=[.L b8.Pv x.Nodes,.L iF x.Slots,.L iF x.Gens,.I x.Last,.I x.Places,.I x.Serial,.L iF x.Roots,.L k7.Pv x.b7,.L g7.Pv x.Pairs,.L e6.Pv x.Tasks,.L (Ls g8.Pv) x.Progs]
abbrev _root_.Go.Sh.a8.Pv(x:a8):PV:=.agg x.Pc
abbrev _root_.Go.Sh.g9.Pc(x:g9):List PV:=[.I x.V,.I x.E]
abbrev _root_.Go.Sh.g9.Pv(x:g9):PV:=.agg x.Pc
abbrev _root_.Go.Sh.c9.Pc(x:c9):List PV:=[.L iF x.L,.I x.Cap]
abbrev _root_.Go.Sh.c9.Pv(x:c9):PV:=.agg x.Pc
abbrev _root_.Go.Sh.r7.Pc(x:r7):List PV:=[.L c8.Pv x.x.S.S.b7,.I x.x.S.S.Last,.I x.x.S.Serial,.L iF x.x.Roots,.L k7.Pv x.x.b7,.L g5.Pv x.x.T,.L e6.Pv x.x.Q.L,.I x.x.Q.Cap,.I x.o.Kind,.I x.o.A,.I x.o.B,.I x.o.C]
abbrev _root_.Go.Sh.r7.Pv(x:r7):PV:=.agg x.Pc
abbrev _root_.Go.Sh.K7.Pc(x:K7):List PV:=[.I x.r,.I x.h]
abbrev _root_.Go.Sh.K7.Pv(x:K7):PV:=.agg x.Pc
abbrev _root_.Go.Sh.H2.Pc(x:H2):List PV:=[.I x.h,.I x.k,.I x.v]
abbrev _root_.Go.Sh.H2.Pv(x:H2):PV:=.agg x.Pc
abbrev _root_.Go.Sh.K6.Pc(x:K6):List PV:=[.L g5.Pv x.t]
abbrev _root_.Go.Sh.K6.Pv(x:K6):PV:=.agg x.Pc
abbrev _root_.Go.Sh.y8.Pc(x:y8):List PV:=[.I x.V,.I x.E]
abbrev _root_.Go.Sh.y8.Pv(x:y8):PV:=.agg x.Pc
def qV(t:Nat):Nat:=if t=162 then 4 else if t=166 then 0 else if t=170 then 1 else 0
theorem K2:L6 Tryz.prog 3=some false:=by kernel_rfl
theorem qx:L6 Tryz.prog 4=some false:=by kernel_rfl
theorem SV:L6 Tryz.prog 22=some false:=by kernel_rfl
theorem SW:L6 Tryz.prog 27=some false:=by kernel_rfl
theorem mh:L6 Tryz.prog 28=some false:=by kernel_rfl
theorem FV:L6 Tryz.prog 29=some false:=by kernel_rfl
theorem SX:L6 Tryz.prog 30=some false:=by kernel_rfl
theorem SY:L6 Tryz.prog 31=some false:=by kernel_rfl
theorem z8:L6 Tryz.prog 33=some true:=by kernel_rfl
theorem uD:L6 Tryz.prog 34=some false:=by kernel_rfl
theorem G7:L6 Tryz.prog 51=some true:=by kernel_rfl
theorem SZ:L6 Tryz.prog 63=some false:=by kernel_rfl
theorem hU:L6 Tryz.prog 65=some true:=by kernel_rfl
theorem mi:L6 Tryz.prog 67=some true:=by kernel_rfl
theorem BX:L6 Tryz.prog 68=some false:=by kernel_rfl
theorem jj:L6 Tryz.prog 70=some true:=by kernel_rfl
theorem u5:L6 Tryz.prog 72=some true:=by kernel_rfl
theorem mj:L6 Tryz.prog 74=some true:=by kernel_rfl
theorem gn:L6 Tryz.prog 100=some true:=by kernel_rfl
theorem bS:L6 Tryz.prog 112=some true:=by kernel_rfl
theorem wK:L6 Tryz.prog 119=some true:=by kernel_rfl
theorem rX:L6 Tryz.prog 178=some true:=by kernel_rfl
theorem BW:L6 Tryz.prog 196=some false:=by kernel_rfl
theorem iH:L6 Tryz.prog 264=some true:=by kernel_rfl
theorem pE:L6 Tryz.prog 266=some true:=by kernel_rfl
theorem P2:N2 Tryz.prog 3=some 8:=by kernel_rfl
theorem Ta:N2 Tryz.prog 28=some 24:=by kernel_rfl
theorem Lj:N2 Tryz.prog 51=some 16:=by kernel_rfl
theorem Tc:N2 Tryz.prog 54=some 16:=by kernel_rfl
theorem ml:N2 Tryz.prog 100=some 56:=by kernel_rfl
theorem HA:N2 Tryz.prog 107=some 24:=by kernel_rfl
theorem mn:N2 Tryz.prog 112=some 24:=by kernel_rfl
theorem pF:N2 Tryz.prog 135=some 16:=by kernel_rfl
theorem HC:N2 Tryz.prog 180=some 80:=by kernel_rfl
theorem HD:N2 Tryz.prog 251=some 24:=by kernel_rfl
theorem mo:A5 Tryz.prog 22=some 117:=by kernel_rfl
theorem aW:A5 Tryz.prog 23=some 28:=by kernel_rfl
theorem A6:A5 Tryz.prog 27=some 100:=by kernel_rfl
theorem l6:A5 Tryz.prog 28=some 3:=by kernel_rfl
theorem T7:A5 Tryz.prog 29=some 107:=by kernel_rfl
theorem L9:A5 Tryz.prog 30=some 135:=by kernel_rfl
theorem H9:A5 Tryz.prog 31=some 112:=by kernel_rfl
theorem aX:A5 Tryz.prog 63=some 180:=by kernel_rfl
theorem dv:A5 Tryz.prog 68=some 251:=by kernel_rfl
theorem jk:A5 Tryz.prog 92=some 51:=by kernel_rfl
theorem kf:A5 Tryz.prog 114=some 54:=by kernel_rfl
theorem gp:A5 Tryz.prog 117=some 119:=by kernel_rfl
theorem bT:A5 Tryz.prog 258=some 264:=by kernel_rfl
theorem mq:A5 Tryz.prog 357=some 31:=by kernel_rfl
theorem Lk:W0 Tryz.prog 33 0=some (0,27):=by kernel_rfl
theorem Ll:W0 Tryz.prog 33 1=some (1,28):=by kernel_rfl
theorem xr:W0 Tryz.prog 33 2=some (2,28):=by kernel_rfl
theorem Lm:W0 Tryz.prog 33 6=some (6,28):=by kernel_rfl
theorem DO:W0 Tryz.prog 33 7=some (7,29):=by kernel_rfl
theorem Ln:W0 Tryz.prog 33 8=some (8,30):=by kernel_rfl
theorem Lo:W0 Tryz.prog 33 9=some (9,31):=by kernel_rfl
theorem JS:W0 Tryz.prog 33 10=some (10,22):=by kernel_rfl
theorem xt:W0 Tryz.prog 51 0=some (0,3):=by kernel_rfl
theorem Lp:W0 Tryz.prog 51 1=some (1,34):=by kernel_rfl
theorem Lq:W0 Tryz.prog 65 0=some (0,63):=by kernel_rfl
theorem DP:W0 Tryz.prog 72 1=some (3,28):=by kernel_rfl
theorem Lr:W0 Tryz.prog 72 2=some (4,29):=by kernel_rfl
theorem Lt:W0 Tryz.prog 72 4=some (6,70):=by kernel_rfl
theorem AT:W0 Tryz.prog 100 0=some (0,3):=by kernel_rfl
theorem JJ:W0 Tryz.prog 100 3=some (3,4):=by kernel_rfl
theorem AU:W0 Tryz.prog 100 4=some (4,4):=by kernel_rfl
theorem AV:W0 Tryz.prog 100 5=some (5,4):=by kernel_rfl
theorem uE:W0 Tryz.prog 107 0=some (0,3):=by kernel_rfl
theorem JK:W0 Tryz.prog 107 1=some (1,4):=by kernel_rfl
theorem JL:W0 Tryz.prog 119 0=some (0,3):=by kernel_rfl
theorem JM:W0 Tryz.prog 135 0=some (0,3):=by kernel_rfl
theorem AW:W0 Tryz.prog 135 1=some (1,3):=by kernel_rfl
theorem JN:W0 Tryz.prog 178 1=some (1,3):=by kernel_rfl
theorem JO:W0 Tryz.prog 178 2=some (2,3):=by kernel_rfl
theorem AX:W0 Tryz.prog 178 4=some (4,4):=by kernel_rfl
theorem AY:W0 Tryz.prog 180 0=some (0,3):=by kernel_rfl
theorem JP:W0 Tryz.prog 180 2=some (2,178):=by kernel_rfl
theorem JQ:W0 Tryz.prog 251 1=some (1,3):=by kernel_rfl
theorem JR:W0 Tryz.prog 264 2=some (2,3):=by kernel_rfl
theorem Se:OC Tryz.prog 3=some .i64:=by kernel_rfl
theorem OZ:B3 Tryz.prog 111:=kC Tryz.func111 J
theorem Pa:B3 Tryz.prog 130:=kC Tryz.func130 J
theorem Pb:B3 Tryz.prog 133:=kC Tryz.func133 J
theorem Pd:B3 Tryz.prog 134:=kC Tryz.func134 J
theorem BY:B3 Tryz.prog 147:=kC Tryz.func147 J
theorem Pe:B3 Tryz.prog 200:=kC Tryz.func200 J
theorem HE:B3 Tryz.prog 224:=kC Tryz.func224 J
theorem Pf:B3 Tryz.prog 230:=kC Tryz.func230 J
theorem Ph:B3 Tryz.prog 267:=kC Tryz.func267 J
theorem HF:B3 Tryz.prog 277:=kC Tryz.func277 J
theorem Pj:B3 Tryz.prog 321:=kC Tryz.func321 J
theorem Pk:B3 Tryz.prog 325:=kC Tryz.func325 J
theorem Pm:B3 Tryz.prog 331:=kC Tryz.func331 J
theorem Pn:B3 Tryz.prog 342:=kC Tryz.func342 J
theorem Po:B3 Tryz.prog 343:=kC Tryz.func343 J
theorem Pp:B3 Tryz.prog 363:=kC Tryz.func363 J
theorem HG:B3 Tryz.prog 364:=kC Tryz.func364 J
theorem HH:B3 Tryz.prog 366:=kC Tryz.func366 J
theorem Pq:B3 Tryz.prog 381:=kC Tryz.func381 J
theorem HI:B3 Tryz.prog 382:=kC Tryz.func382 J
theorem Q0:uh Tryz.prog 196=some (3,4):=by kernel_rfl
theorem bw:uh Tryz.prog 229=some (3,227):=by kernel_rfl
theorem xu:uh Tryz.prog 242=some (3,3):=by kernel_rfl
theorem X9:uh Tryz.prog 260=some (3,258):=by kernel_rfl
theorem Lu:F1 Tryz.prog 33=some (λi=>(#[(0,1),(1,1),(2,1),(3,1),(4,1),(5,1),(6,1),(7,1),(8,1),(9,1),(10,1)]:Array (Nat × Nat))[i]?):=by kernel_rfl
theorem aY:F1 Tryz.prog 51=some (λi=>(#[(0,1),(1,1)]:Array (Nat × Nat))[i]?):=by kernel_rfl
theorem Lv:F1 Tryz.prog 65=some (λi=>(#[(0,1),(1,1)]:Array (Nat × Nat))[i]?):=by kernel_rfl
theorem Lw:F1 Tryz.prog 67=some (λi=>(#[(0,2),(2,1)]:Array (Nat × Nat))[i]?):=by kernel_rfl
theorem Lx:F1 Tryz.prog 70=some (λi=>(#[(0,1),(1,1)]:Array (Nat × Nat))[i]?):=by kernel_rfl
theorem Ly:F1 Tryz.prog 72=some (λi=>(#[(0,3),(3,1),(4,1),(5,1),(6,2)]:Array (Nat × Nat))[i]?):=by kernel_rfl
theorem FW:F1 Tryz.prog 74=some (λi=>(#[(0,8),(8,1)]:Array (Nat × Nat))[i]?):=by kernel_rfl
theorem HJ:F1 Tryz.prog 100=some (λi=>(#[(0,1),(1,1),(2,1),(3,1),(4,1),(5,1),(6,1)]:Array (Nat × Nat))[i]?):=by kernel_rfl
theorem Pr:F1 Tryz.prog 107=some (λi=>(#[(0,1),(1,1),(2,1)]:Array (Nat × Nat))[i]?):=by kernel_rfl
theorem rY:F1 Tryz.prog 112=some (λi=>(#[(0,1),(1,1),(2,1)]:Array (Nat × Nat))[i]?):=by kernel_rfl
theorem wL:F1 Tryz.prog 119=some (λi=>(#[(0,1),(1,1),(2,1),(3,1)]:Array (Nat × Nat))[i]?):=by kernel_rfl
theorem BZ:F1 Tryz.prog 135=some (λi=>(#[(0,1),(1,1)]:Array (Nat × Nat))[i]?):=by kernel_rfl
theorem Ps:F1 Tryz.prog 162=some (λi=>(#[(0,4)]:Array (Nat × Nat))[i]?):=by kernel_rfl
theorem Pt:F1 Tryz.prog 166=some (λi=>(#[]:Array (Nat × Nat))[i]?):=by kernel_rfl
theorem Pu:F1 Tryz.prog 170=some (λi=>(#[(0,1)]:Array (Nat × Nat))[i]?):=by kernel_rfl
theorem Px:F1 Tryz.prog 178=some (λi=>(#[(0,1),(1,1),(2,1),(3,1),(4,1),(5,1)]:Array (Nat × Nat))[i]?):=by kernel_rfl
theorem wM:F1 Tryz.prog 180=some (λi=>(#[(0,1),(1,1),(2,6)]:Array (Nat × Nat))[i]?):=by kernel_rfl
theorem Py:F1 Tryz.prog 233=some (λi=>(#[(0,8),(8,4)]:Array (Nat × Nat))[i]?):=by kernel_rfl
theorem HK:F1 Tryz.prog 251=some (λi=>(#[(0,1),(1,1),(2,1)]:Array (Nat × Nat))[i]?):=by kernel_rfl
theorem ef:F1 Tryz.prog 264=some (λi=>(#[(0,1),(1,1),(2,1),(3,1)]:Array (Nat × Nat))[i]?):=by kernel_rfl
theorem Pz:F1 Tryz.prog 266=some (λi=>(#[(0,1),(1,1)]:Array (Nat × Nat))[i]?):=by kernel_rfl
theorem PA:F1 Tryz.prog 403=some (λi=>(#[(0,1),(1,1),(2,1)]:Array (Nat × Nat))[i]?):=by kernel_rfl
theorem PB:F1 Tryz.prog 407=some (λi=>(#[(0,1)]:Array (Nat × Nat))[i]?):=by kernel_rfl
theorem PC:F1 Tryz.prog 420=some (λi=>(#[(0,1)]:Array (Nat × Nat))[i]?):=by kernel_rfl
theorem PD:F1 Tryz.prog 422=some (λi=>(#[(0,1),(1,1)]:Array (Nat × Nat))[i]?):=by kernel_rfl
theorem Td:uP Tryz.prog 54=some [1,1]:=by kernel_rfl
theorem HL:rq Tryz.prog 162=true:=by kernel_rfl
theorem HM:rq Tryz.prog 166=true:=by kernel_rfl
theorem HN:rq Tryz.prog 170=true:=by kernel_rfl
theorem o5:r9 Tryz.prog 3=some 1:=by kernel_rfl
theorem VP:r9 Tryz.prog 4=some 1:=by kernel_rfl
theorem Te:r9 Tryz.prog 27=some 1:=by kernel_rfl
theorem bx:r9 Tryz.prog 28=some 1:=by kernel_rfl
theorem uF:r9 Tryz.prog 31=some 1:=by kernel_rfl
theorem u9:r9 Tryz.prog 33=some 11:=by kernel_rfl
theorem A7:r9 Tryz.prog 51=some 2:=by kernel_rfl
theorem xv:r9 Tryz.prog 54=some 2:=by kernel_rfl
theorem eh:r9 Tryz.prog 65=some 2:=by kernel_rfl
theorem mr:r9 Tryz.prog 67=some 3:=by kernel_rfl
theorem cG:r9 Tryz.prog 70=some 2:=by kernel_rfl
theorem p7:r9 Tryz.prog 72=some 8:=by kernel_rfl
theorem dw:r9 Tryz.prog 74=some 9:=by kernel_rfl
theorem u6:r9 Tryz.prog 100=some 7:=by kernel_rfl
theorem X5:r9 Tryz.prog 107=some 3:=by kernel_rfl
theorem C3:r9 Tryz.prog 112=some 3:=by kernel_rfl
theorem wN:r9 Tryz.prog 117=some 1:=by kernel_rfl
theorem iI:r9 Tryz.prog 119=some 4:=by kernel_rfl
theorem T3:r9 Tryz.prog 135=some 2:=by kernel_rfl
theorem PE:r9 Tryz.prog 166=some 0:=by kernel_rfl
theorem kg:r9 Tryz.prog 178=some 6:=by kernel_rfl
theorem ab:r9 Tryz.prog 180=some 8:=by kernel_rfl
theorem dh:r9 Tryz.prog 251=some 3:=by kernel_rfl
theorem N3:r9 Tryz.prog 264=some 4:=by kernel_rfl
theorem kh:r9 Tryz.prog 266=some 2:=by kernel_rfl
theorem H8:Tryz.prog.underlying 3=some (.int .i64):=by kernel_rfl
theorem Sf:Tryz.prog.underlying 5=some (.int .u8):=by kernel_rfl
theorem B6:A1 Tryz.prog 3=some ((.I 0)):=by kernel_rfl
theorem sa:A1 Tryz.prog 4=some ((.bool false)):=by kernel_rfl
theorem xw:A1 Tryz.prog 28=some ((.slice none 0 0)):=by kernel_rfl
theorem Tf:A1 Tryz.prog 31=some ((.slice none 0 0)):=by kernel_rfl
theorem Lz:A1 Tryz.prog 33=some ((.agg #[(.slice none 0 0),(.slice none 0 0),(.slice none 0 0),(.I 0),(.I 0),(.I 0),(.slice none 0 0),(.slice none 0 0),(.slice none 0 0),(.slice none 0 0),(.slice none 0 0)])):=by kernel_rfl
theorem T8:A1 Tryz.prog 51=some ((.agg #[(.I 0),(.I 0)])):=by kernel_rfl
theorem LA:A1 Tryz.prog 54=some ((.agg #[(.I 0),(.I 0)])):=by kernel_rfl
theorem LC:A1 Tryz.prog 65=some ((.agg #[(.slice none 0 0),(.I 0)])):=by kernel_rfl
theorem LD:A1 Tryz.prog 67=some ((.agg #[(.slice none 0 0),(.I 0),(.I 0)])):=by kernel_rfl
theorem LF:A1 Tryz.prog 70=some ((.agg #[(.slice none 0 0),(.I 0)])):=by kernel_rfl
theorem LG:A1 Tryz.prog 72=some ((.agg #[(.slice none 0 0),(.I 0),(.I 0),(.slice none 0 0),(.slice none 0 0),(.slice none 0 0),(.slice none 0 0),(.I 0)])):=by kernel_rfl
theorem FY:A1 Tryz.prog 74=some ((.agg #[(.slice none 0 0),(.I 0),(.I 0),(.slice none 0 0),(.slice none 0 0),(.slice none 0 0),(.slice none 0 0),(.I 0),(.slice none 0 0)])):=by kernel_rfl
theorem ae:A1 Tryz.prog 100=some ((.agg #[(.I 0),(.I 0),(.I 0),(.bool false),(.bool false),(.bool false),(.slice none 0 0)])):=by kernel_rfl
theorem Ca:A1 Tryz.prog 107=some ((.agg #[(.I 0),(.bool false),(.I 0)])):=by kernel_rfl
theorem af:A1 Tryz.prog 112=some ((.agg #[(.I 0),(.I 0),(.I 0)])):=by kernel_rfl
theorem PF:A1 Tryz.prog 117=some ((.slice none 0 0)):=by kernel_rfl
theorem rZ:A1 Tryz.prog 119=some ((.agg #[(.I 0),(.I 0),(.I 0),(.I 0)])):=by kernel_rfl
theorem ah:A1 Tryz.prog 135=some ((.agg #[(.I 0),(.I 0)])):=by kernel_rfl
theorem HO:A1 Tryz.prog 162=some ((.agg #[(.I 0),(.I 0),(.I 0),(.I 0)])):=by kernel_rfl
theorem HP:A1 Tryz.prog 166=some ((.agg #[])):=by kernel_rfl
theorem HQ:A1 Tryz.prog 170=some ((.agg #[(.I 0)])):=by kernel_rfl
theorem PG:A1 Tryz.prog 178=some ((.agg #[(.I 0),(.I 0),(.I 0),(.I 0),(.bool false),(.slice none 0 0)])):=by kernel_rfl
theorem pG:A1 Tryz.prog 180=some ((.agg #[(.I 0),(.I 0),(.I 0),(.I 0),(.I 0),(.I 0),(.bool false),(.slice none 0 0)])):=by kernel_rfl
theorem PH:A1 Tryz.prog 227=some (.nilFunc):=by kernel_rfl
theorem PI:A1 Tryz.prog 233=some ((.agg #[(.slice none 0 0),(.I 0),(.I 0),(.slice none 0 0),(.slice none 0 0),(.slice none 0 0),(.slice none 0 0),(.I 0),(.I 0),(.I 0),(.I 0),(.I 0)])):=by kernel_rfl
theorem wO:A1 Tryz.prog 251=some ((.agg #[(.I 0),(.I 0),(.I 0)])):=by kernel_rfl
theorem PJ:A1 Tryz.prog 258=some ((.slice none 0 0)):=by kernel_rfl
theorem M1:A1 Tryz.prog 264=some ((.agg #[.nilFunc,(.I 0),(.I 0),(.I 0)])):=by kernel_rfl
theorem PK:A1 Tryz.prog 266=some ((.agg #[(.slice none 0 0),(.I 0)])):=by kernel_rfl
theorem PL:A1 Tryz.prog 403=some ((.agg #[(.I 0),(.I 0),(.I 0)])):=by kernel_rfl
theorem PM:A1 Tryz.prog 407=some ((.agg #[(.slice none 0 0)])):=by kernel_rfl
theorem PN:A1 Tryz.prog 420=some ((.agg #[.nilFunc])):=by kernel_rfl
theorem PQ:A1 Tryz.prog 422=some ((.agg #[(.I 0),(.I 0)])):=by kernel_rfl
theorem s6:Tryz.prog.follows .mixedOrders=true:=by kernel_rfl
def tb:TB:=⟨[((33,0),(0,27)),((33,1),(1,28)),((33,2),(2,28)),((33,3),(3,3)),((33,4),(4,3)),((33,5),(5,3)),((33,6),(6,28)),((33,7),(7,29)),((33,8),(8,30)),((33,9),(9,31)),((33,10),(10,22)),((51,0),(0,3)),((51,1),(1,34)),((65,0),(0,63)),((65,1),(1,3)),((67,0),(0,65)),((67,1),(2,3)),((70,0),(0,31)),((70,1),(1,3)),((72,0),(0,67)),((72,1),(3,28)),((72,2),(4,29)),((72,3),(5,68)),((72,4),(6,70)),((74,0),(0,72)),((74,1),(8,22)),((100,0),(0,3)),((100,1),(1,3)),((100,2),(2,3)),((100,3),(3,4)),((100,4),(4,4)),((100,5),(5,4)),((100,6),(6,28)),((107,0),(0,3)),((107,1),(1,4)),((107,2),(2,3)),((112,0),(0,3)),((112,1),(1,3)),((112,2),(2,3)),((119,0),(0,3)),((119,1),(1,3)),((119,2),(2,3)),((119,3),(3,3)),((135,0),(0,3)),((135,1),(1,3)),((162,0),(0,119)),((170,0),(0,3)),((178,0),(0,3)),((178,1),(1,3)),((178,2),(2,3)),((178,3),(3,3)),((178,4),(4,4)),((178,5),(5,28)),((180,0),(0,3)),((180,1),(1,3)),((180,2),(2,178)),((233,0),(0,72)),((233,1),(8,119)),((251,0),(0,3)),((251,1),(1,3)),((251,2),(2,3)),((264,0),(0,262)),((264,1),(1,3)),((264,3),(3,34)),((266,0),(0,28)),((266,1),(1,3)),((403,0),(0,3)),((403,1),(1,3)),((403,2),(2,3)),((407,0),(0,68)),((420,0),(0,418)),((422,0),(0,3)),((422,1),(1,3))],[(3,false),(4,false),(22,false),(27,false),(28,false),(29,false),(30,false),(31,false),(33,true),(34,false),(51,true),(54,true),(63,false),(65,true),(67,true),(68,false),(70,true),(72,true),(74,true),(100,true),(107,true),(112,true),(117,false),(119,true),(135,true),(178,true),(180,true),(196,false),(233,true),(242,false),(251,true),(262,false),(264,true),(266,true),(285,false),(418,false),(420,true)],[(3,1),(4,1),(27,1),(28,1),(29,1),(30,1),(31,1),(33,11),(34,1),(51,2),(54,2),(63,1),(65,2),(67,3),(68,1),(70,2),(72,8),(74,9),(100,7),(107,3),(112,3),(119,4),(135,2),(162,4),(170,1),(178,6),(180,8),(196,1),(233,12),(242,1),(251,3),(264,4),(266,2),(420,1)],[(3,.I 0),(4,.bool false),(28,.lst true (List.map iF [])),(29,.lst true (List.map k7.Pv [])),(30,.lst true (List.map g7.Pv [])),(33,.agg [.lst true (List.map b8.Pv []),.lst true (List.map iF []),.lst true (List.map iF []),.I 0,.I 0,.I 0,.lst true (List.map iF []),.lst true (List.map k7.Pv []),.lst true (List.map g7.Pv []),.lst true (List.map e6.Pv []),.lst true (List.map (Ls g8.Pv) [])]),(34,.I 0),(51,.agg [.I 0,.I 0]),(65,.agg [.lst true (List.map c8.Pv []),.I 0]),(67,.agg [.lst true (List.map c8.Pv []),.I 0,.I 0]),(68,.lst true (List.map g5.Pv [])),(70,.agg [.lst true (List.map e6.Pv []),.I 0]),(72,.agg [.lst true (List.map c8.Pv []),.I 0,.I 0,.lst true (List.map iF []),.lst true (List.map k7.Pv []),.lst true (List.map g5.Pv []),.lst true (List.map e6.Pv []),.I 0]),(74,.agg [.lst true (List.map c8.Pv []),.I 0,.I 0,.lst true (List.map iF []),.lst true (List.map k7.Pv []),.lst true (List.map g5.Pv []),.lst true (List.map e6.Pv []),.I 0,.lst true (List.map (Ls g8.Pv) [])]),(100,.agg [.I 0,.I 0,.I 0,.bool false,.bool false,.bool false,.lst true (List.map iF [])]),(107,.agg [.I 0,.bool false,.I 0]),(112,.agg [.I 0,.I 0,.I 0]),(119,.agg [.I 0,.I 0,.I 0,.I 0]),(135,.agg [.I 0,.I 0]),(162,.agg [.I 0,.I 0,.I 0,.I 0]),(166,.agg []),(170,.agg [.I 0]),(178,.agg [.I 0,.I 0,.I 0,.I 0,.bool false,.lst true (List.map iF [])]),(180,.agg [.I 0,.I 0,.I 0,.I 0,.I 0,.I 0,.bool false,.lst true (List.map iF [])]),(196,.abs FT),(242,.abs FT),(251,.agg [.I 0,.I 0,.I 0]),(264,.agg [.nilfn,.I 0,.I 0,.I 0]),(266,.agg [.lst true (List.map iF []),.I 0]),(420,.agg [.nilfn])]⟩
theorem Tb:TB.Ok Tryz.prog tb:=⟨by kernel_rfl,by kernel_rfl,by kernel_rfl,by kernel_rfl⟩
section
variable{X:Ctx}{ops:Array Oper}{K:Ctx->St->Prop}{i n:Nat}{l l':List Oper}{env env':Nat->PV}{σ σ':Nat->Option Row}{Q:PX->Ctx->St->Prop}{y:Code}{KD:St->Prop}{bar:List Nat}
theorem S1(n:Nat)(h:run tb n l env σ=some (l',env',σ'))(k:Sq X ops (i+n) l' K ⟨env',σ'⟩)(hb:TB.Ok X.P tb:=by exact Tb):Sq X ops i l K ⟨env,σ⟩:=Vi hb n h k
theorem S2(n:Nat)(h:run tb n l env σ=some ([],env',σ'))(k:K X ⟨env',σ'⟩)(hb:TB.Ok X.P tb:=by exact Tb):Sq X ops i l K ⟨env,σ⟩:=Vi hb n h (yN k)
theorem S3{id:Nat}(n:Nat)(h:run tb n l env σ=some (l',env',σ'))(k:Sq X l.toArray (0+n) l' (λX' s=>Z4 X' y Q s) ⟨env',σ'⟩)(hd:gL X.N l.toArray=true:=by kernel_rfl)(hb:TB.Ok X.P tb:=by exact Tb):Z4 X (.seq (.region id l.toArray false) y) Q ⟨env,σ⟩:=sr hd (Vi hb n h k)
theorem S4{id:Nat}(n:Nat)(h:run tb n l env σ=some ([],env',σ'))(k:Z4 X y Q ⟨env',σ'⟩)(hd:gL X.N l.toArray=true:=by kernel_rfl)(hb:TB.Ok X.P tb:=by exact Tb):Z4 X (.seq (.region id l.toArray false) y) Q ⟨env,σ⟩:=sr hd (Vi hb n h (yN k))
theorem S5{id:Nat}(n:Nat)(h:run tb n l env σ=some (l',env',σ'))(k:Sq X l.toArray (0+n) l' (Q .normal) ⟨env',σ'⟩)(hd:gL X.N l.toArray=true:=by kernel_rfl)(hb:TB.Ok X.P tb:=by exact Tb):Z4 X (.region id l.toArray false) Q ⟨env,σ⟩:=VJ hd (Vi hb n h k)
theorem S6{id:Nat}(n:Nat)(h:run tb n l env σ=some ([],env',σ'))(k:Q .normal X ⟨env',σ'⟩)(hd:gL X.N l.toArray=true:=by kernel_rfl)(hb:TB.Ok X.P tb:=by exact Tb):Z4 X (.region id l.toArray false) Q ⟨env,σ⟩:=VJ hd (Vi hb n h (yN k))
theorem S7(n:Nat)(h:RA tb bar n i l env σ=some (l',env',σ'))(k:Ex X.P ops bar true (i+n) l' ⟨env',σ'⟩ KD)(hb:TB.Ok X.P tb:=by exact Tb):Ex X.P ops bar true i l ⟨env,σ⟩ KD:=dG hb n h k
theorem S8(n:Nat)(h:RA tb bar n i l env σ=some ([],env',σ'))(k:KD ⟨env',σ'⟩)(hb:TB.Ok X.P tb:=by exact Tb):Ex X.P ops bar true i l ⟨env,σ⟩ KD:=dG hb n h k
end
theorem Vo:BV Tryz.prog (Tryz.sortF_ren.f 6):=KW Tryz.sortF
theorem vW{a0}:PO Tryz.prog 10 [.L (Ls g8.Pv) a0] (gY a0) λr=>.bool r:=by
 refine pO Tryz.func10 λr h _ _=>?_;refine S4 1 J ?_;refine jq h (λ_=>St.of [(0,.L (Ls g8.Pv) a0)] []) (λq6 h=>?_) λκ5 h=>?_
 .refine S3 1 J ?_;refine nL J mo<|S2 2 J<|c5 ?_;cases h;exact f1
 .refine S4 1 J ?_;refine k8<|lq h (λs8=>St.of [(0,.L (Ls g8.Pv) a0),(3,.I s8)] []) W λs8 x9 h hx8=>k9<|S3 2 J<|nL J mo<|S1 2 J<|m9 J (λhg=>mI J)<|m9 J (λhg=>D7 (ct hg) J J)<|y0 J (D1 J J J (λq=>kp q))<|yN ?_;refine cN h (λhc h=>?_) λhc h=>?_
  .refine c7 ?_;refine k9<|k8<|S3 2 J<|iL h J J mo wN λv10 _ h=>S1 1 J<|nL J gp<|S2 1 J ?_;refine cN h (λhc h=>?_) λhc h=>?_
   .refine S4 1 J ?_;refine c5 ?_;have h:=xL hx8 h;cases h;exact f1
   .refine c7 ?_;refine S6 3 J ?_;exact eL h W
  .refine o6 ?_;refine g6<|g6<|l7 ?_;have h:=xL hx8 h;exact eJ h W
theorem DD{a0 a1}:PO Tryz.prog 11 [.L (Ls iF) a0,.I a1] (gi a0 a1) λr=>.bool r:=by
 refine pO Tryz.func11 λr h _ _=>?_;refine S4 1 J ?_;refine jq h (λ_=>St.of [(0,.L (Ls iF) a0),(1,.I a1)] []) (λq6 h=>?_) λκ5 h=>?_
 .refine S3 1 J ?_;refine nL J aW<|S2 3 J<|c5 ?_;cases h;exact f1
 .refine S4 1 J ?_;refine k8<|lq h (λs8=>St.of [(0,.L (Ls iF) a0),(1,.I a1),(5,.I s8)] []) W λs8 x9 h hx8=>k9<|S3 2 J<|nL J aW<|S1 2 J<|m9 J (λhg=>mI J)<|m9 J (λhg=>D7 (ct hg) J J)<|y0 J (D1 J J J (λq=>kp q))<|yN ?_;refine cN h (λhc h=>?_) λhc h=>?_
  .refine c7 ?_;refine k9<|k8<|S3 2 J<|iL h J J aW bx λv10 _ h=>S1 1 J<|nL J l6<|S2 1 J ?_;refine cN h (λhc h=>?_) λhc h=>?_
   .refine S4 1 J ?_;refine c5 ?_;have h:=xL hx8 h;cases h;exact f1
   .refine c7 ?_;refine S6 3 J ?_;exact eL h W
  .refine o6 ?_;refine g6<|g6<|l7 ?_;have h:=xL hx8 h;exact eJ h W
theorem Az{a0}:PO Tryz.prog 119 [g8.Pv a0] (fM a0) λr=>.bool r:=by
 refine pO Tryz.func119 λr h _ _=>?_;unfold fM at h;refine S4 2 J<|S3 4 J<|m9 J (λhg=>oF J JL J)<|m9 J (λhg=>oS (ct hg) J J K2 J)<|m9 J (λhg=>D7 (ct hg) J J)<|y0 J (D1 J J J (λq=>kp q))<|S2 1 J<|c5 ?_;cases h;exact f1
theorem A3:PO Tryz.prog 250 [.fn (.func 251) []] (bb) λr=>l5.Pv r:=by
 refine pO Tryz.func250 λr h _ _=>?_;unfold bb at h;refine S4 1 J<|S3 1 J<|y0 J (p6 (cs:=[.fn (.func 251) [],.I 0,.I 5,.I 6]) J ef M1 J J J)<|N9 (nT 4 (d':=.agg [sP (some 251),.I 0,.I 5,.I 6]) J)<|S2 1 J<|c5 ?_;cases h;exact⟨J,[_],⟨oL J J J iH N3 nl J,tr⟩,J,io⟩
theorem bj:PO Tryz.prog 253 [.fn (.func 254) []] (V9) λr=>l5.Pv r:=by
 refine pO Tryz.func253 λr h _ _=>?_;unfold V9 at h;refine S4 1 J<|S3 1 J<|y0 J (p6 (cs:=[.fn (.func 254) [],.I (-1),.I 5,.I 13]) J ef M1 J J J)<|N9 (nT 4 (d':=.agg [sP (some 254),.I (-1),.I 5,.I 13]) J)<|S2 1 J<|c5 ?_;cases h;exact⟨J,[_],⟨oL J J J iH N3 nl J,tr⟩,J,io⟩
theorem F0{a0}:PO Tryz.prog 249 [.L l5.Pv a0] (L7 a0) λr=>.L l5.Pv r:=by
 refine pO Tryz.func249 λr h _ _=>?_;unfold L7 at h;refine S4 1 J<|S4 2 J<|c5 ?_;cases h;exact f1
theorem N4:PO Tryz.prog 250 [.fn (.func 252) []] (bc) λr=>l5.Pv r:=by
 refine pO Tryz.func250 λr h _ _=>?_;unfold bc at h;refine S4 1 J<|S3 1 J<|y0 J (p6 (cs:=[.fn (.func 252) [],.I 0,.I 5,.I 6]) J ef M1 J J J)<|N9 (nT 4 (d':=.agg [sP (some 252),.I 0,.I 5,.I 6]) J)<|S2 1 J<|c5 ?_;cases h;exact⟨J,[_],⟨oL J J J iH N3 nl J,tr⟩,J,io⟩
theorem jZ:PO Tryz.prog 255 [.fn (.func 254) []] (aj) λr=>l5.Pv r:=by
 refine pO Tryz.func255 λr h _ _=>?_;unfold aj at h;refine S4 1 J<|S3 1 J<|y0 J (p6 (cs:=[.fn (.func 254) [],.I 0,.I 3,.I 5]) J ef M1 J J J)<|N9 (nT 4 (d':=.agg [sP (some 254),.I 0,.I 3,.I 5]) J)<|S2 1 J<|c5 ?_;cases h;exact⟨J,[_],⟨oL J J J iH N3 nl J,tr⟩,J,io⟩
theorem jY:PO Tryz.prog 255 [.fn (.func 252) []] (ai) λr=>l5.Pv r:=by
 refine pO Tryz.func255 λr h _ _=>?_;unfold ai at h;refine S4 1 J<|S3 1 J<|y0 J (p6 (cs:=[.fn (.func 252) [],.I 0,.I 3,.I 5]) J ef M1 J J J)<|N9 (nT 4 (d':=.agg [sP (some 252),.I 0,.I 3,.I 5]) J)<|S2 1 J<|c5 ?_;cases h;exact⟨J,[_],⟨oL J J J iH N3 nl J,tr⟩,J,io⟩
theorem fO:PO Tryz.prog 256 [.fn (.func 254) []] (Q4) λr=>l5.Pv r:=by
 refine pO Tryz.func256 λr h _ _=>?_;unfold Q4 at h;refine S4 1 J<|S3 1 J<|y0 J (p6 (cs:=[.fn (.func 254) [],.I (-1),.I 5,.I 6]) J ef M1 J J J)<|N9 (nT 4 (d':=.agg [sP (some 254),.I (-1),.I 5,.I 6]) J)<|S2 1 J<|c5 ?_;cases h;exact⟨J,[_],⟨oL J J J iH N3 nl J,tr⟩,J,io⟩
theorem kP:PO Tryz.prog 257 [.fn (.func 251) []] (aZ) λr=>l5.Pv r:=by
 refine pO Tryz.func257 λr h _ _=>?_;unfold aZ at h;refine S4 1 J<|S3 1 J<|y0 J (p6 (cs:=[.fn (.func 251) [],.I 0,.I 5,.I 7]) J ef M1 J J J)<|N9 (nT 4 (d':=.agg [sP (some 251),.I 0,.I 5,.I 7]) J)<|S2 1 J<|c5 ?_;cases h;exact⟨J,[_],⟨oL J J J iH N3 nl J,tr⟩,J,io⟩
theorem Y0:PO Tryz.prog 256 [.fn (.func 252) []] (Q3) λr=>l5.Pv r:=by
 refine pO Tryz.func256 λr h _ _=>?_;unfold Q3 at h;refine S4 1 J<|S3 1 J<|y0 J (p6 (cs:=[.fn (.func 252) [],.I (-1),.I 5,.I 6]) J ef M1 J J J)<|N9 (nT 4 (d':=.agg [sP (some 252),.I (-1),.I 5,.I 6]) J)<|S2 1 J<|c5 ?_;cases h;exact⟨J,[_],⟨oL J J J iH N3 nl J,tr⟩,J,io⟩
theorem kQ:PO Tryz.prog 257 [.fn (.func 252) []] (ba) λr=>l5.Pv r:=by
 refine pO Tryz.func257 λr h _ _=>?_;unfold ba at h;refine S4 1 J<|S3 1 J<|y0 J (p6 (cs:=[.fn (.func 252) [],.I 0,.I 5,.I 7]) J ef M1 J J J)<|N9 (nT 4 (d':=.agg [sP (some 252),.I 0,.I 5,.I 7]) J)<|S2 1 J<|c5 ?_;cases h;exact⟨J,[_],⟨oL J J J iH N3 nl J,tr⟩,J,io⟩
theorem wj:PO Tryz.prog 144 [] (mF) λr=>.abs (T6 (List.map (bU iF (Ls l5.Pv)) r)):=by
 refine pO Tryz.func144 λr h _ _=>?_;refine S4 1 J<|sR<|BT (KT:=Int) (VT:=List l5) (EK:=iF) (E:=(Ls l5.Pv)) 5000001 J J<|cF h A3 J J λv1 hv1 h=>y0 J (p6 (cs:=[.fn (.func 252) [],.I 0,.I 4,.I 1]) J ef M1 J J J)<|N9 (nT 3 (d':=.agg [sP (some 252),.I 0,.I 4,.I 1]) J)<|cF h bj J J λv2 hv2 h=>y0 J (I3 (f:=l5.Pv) (l:=[v1,(⟨(some 252),0,4,1⟩:l5),v2]) J bT N3 M1 J J nl J J)<|cF h F0 J J λv3 _ h=>Z3 (es:=[]) (k:=1) (v:=v3) (E:=(Ls l5.Pv)) (EK:=iF) (.inr J) J J J J J J X9 (w9 H8)<|yc J (u7 J A3 J hv1)<|cF h N4 J J λv4 hv4 h=>y0 J (I3 (f:=l5.Pv) (l:=[v1,v4]) J bT N3 M1 J J nl J J)<|cF h F0 J J λv5 hv5 h=>Z3 (es:=(o7 [] 1 v3)) (k:=2) (v:=v5) (E:=(Ls l5.Pv)) (EK:=iF) (.inr J) J J J J J J X9 (w9 H8)<|yc J (u7 J A3 J hv1)<|y0 J (I3 (f:=l5.Pv) (l:=[v1]) J bT N3 M1 J J nl J J)<|cF h F0 J J λv6 _ h=>Z3 (es:=(o7 (o7 [] 1 v3) 2 v5)) (k:=3) (v:=v6) (E:=(Ls l5.Pv)) (EK:=iF) (.inr J) J J J J J J X9 (w9 H8)<|yc J (u7 J A3 J hv1)<|yc J (u7 J N4 J hv4)<|cF h jZ J J λv7 _ h=>y0 J (I3 (f:=l5.Pv) (l:=[v1,v4,v7]) J bT N3 M1 J J nl J J)<|cF h F0 J J λv8 _ h=>Z3 (es:=(o7 (o7 (o7 [] 1 v3) 2 v5) 3 v6)) (k:=4) (v:=v8) (E:=(Ls l5.Pv)) (EK:=iF) (.inr J) J J J J J J X9 (w9 H8)<|yc J (u7 J A3 J hv1)<|cF h jY J J λv9 _ h=>cF h fO J J λv10 _ h=>y0 J (I3 (f:=l5.Pv) (l:=[v1,v9,v10]) J bT N3 M1 J J nl J J)<|cF h F0 J J λv11 _ h=>?_;refine Z3 (es:=(o7 (o7 (o7 (o7 [] 1 v3) 2 v5) 3 v6) 4 v8)) (k:=5) (v:=v11) (E:=(Ls l5.Pv)) (EK:=iF) (.inr J) J J J J J J X9 (w9 H8)<|cF h kP J J λv12 _ h=>cF h Y0 J J λv13 hv13 h=>yc J (u7 J bj J hv2)<|y0 J (I3 (f:=l5.Pv) (l:=[v12,v13,v2]) J bT N3 M1 J J nl J J)<|cF h F0 J J λv14 _ h=>Z3 (es:=(o7 (o7 (o7 (o7 (o7 [] 1 v3) 2 v5) 3 v6) 4 v8) 5 v11)) (k:=6) (v:=v14) (E:=(Ls l5.Pv)) (EK:=iF) (.inr J) J J J J J J X9 (w9 H8)<|yc J (u7 J A3 J hv1)<|cF h kQ J J λv15 _ h=>y0 J (I3 (f:=l5.Pv) (l:=[v1,v15]) J bT N3 M1 J J nl J J)<|cF h F0 J J λv16 _ h=>Z3 (es:=(o7 (o7 (o7 (o7 (o7 (o7 [] 1 v3) 2 v5) 3 v6) 4 v8) 5 v11) 6 v14)) (k:=7) (v:=v16) (E:=(Ls l5.Pv)) (EK:=iF) (.inr J) J J J J J J X9 (w9 H8)<|yc J (u7 J A3 J hv1)<|yc J (u7 J Y0 J hv13)<|y0 J (I3 (f:=l5.Pv) (l:=[v1,v13]) J bT N3 M1 J J nl J J)<|cF h F0 J J λv17 _ h=>Z3 (es:=(o7 (o7 (o7 (o7 (o7 (o7 (o7 [] 1 v3) 2 v5) 3 v6) 4 v8) 5 v11) 6 v14) 7 v16)) (k:=8) (v:=v17) (E:=(Ls l5.Pv)) (EK:=iF) (.inr J) J J J J J J X9 (w9 H8)<|yc J (u7 J A3 J hv1)<|yc J (u7 J N4 J hv4)<|y0 J (I3 (f:=l5.Pv) (l:=[v1,v4]) J bT N3 M1 J J nl J J)<|yc J (u7 J F0 J hv5)<|Z3 (es:=(o7 (o7 (o7 (o7 (o7 (o7 (o7 (o7 [] 1 v3) 2 v5) 3 v6) 4 v8) 5 v11) 6 v14) 7 v16) 8 v17)) (k:=9) (v:=v5) (E:=(Ls l5.Pv)) (EK:=iF) (.inr J) J J J J J J X9 (w9 H8)<|yc J (u7 J A3 J hv1)<|yc J (u7 J N4 J hv4)<|y0 J (I3 (f:=l5.Pv) (l:=[v1,v4]) J bT N3 M1 J J nl J J)<|yc J (u7 J F0 J hv5)<|Z3 (es:=(o7 (o7 (o7 (o7 (o7 (o7 (o7 (o7 (o7 [] 1 v3) 2 v5) 3 v6) 4 v8) 5 v11) 6 v14) 7 v16) 8 v17) 9 v5)) (k:=10) (v:=v5) (E:=(Ls l5.Pv)) (EK:=iF) (.inr J) J J J J J J X9 (w9 H8)<|cF h F0 J J λv18 _ h=>Z3 (es:=(o7 (o7 (o7 (o7 (o7 (o7 (o7 (o7 (o7 (o7 [] 1 v3) 2 v5) 3 v6) 4 v8) 5 v11) 6 v14) 7 v16) 8 v17) 9 v5) 10 v5)) (k:=11) (v:=v18) (E:=(Ls l5.Pv)) (EK:=iF) (.inr J) J J J J J J X9 (w9 H8)<|y0 J (p6 (cs:=[.fn (.func 251) [],.I 0,.I 200,.I 12]) J ef M1 J J J) ?_;refine N9 (nT 46 (d':=.agg [sP (some 251),.I 0,.I 200,.I 12]) J)<|y0 J (I3 (f:=l5.Pv) (l:=[(⟨(some 251),0,200,12⟩:l5)]) J bT N3 M1 J J nl J J)<|cF h F0 J J λv19 _ h=>Z3 (es:=(o7 (o7 (o7 (o7 (o7 (o7 (o7 (o7 (o7 (o7 (o7 [] 1 v3) 2 v5) 3 v6) 4 v8) 5 v11) 6 v14) 7 v16) 8 v17) 9 v5) 10 v5) 11 v18)) (k:=12) (v:=v19) (E:=(Ls l5.Pv)) (EK:=iF) (.inr J) J J J J J J X9 (w9 H8)<|S2 2 J<|bK (DF 0 5000001 J J)<|c5 ?_;cases h;exact f1
theorem qz{a0}:PO Tryz.prog 251 [g8.Pv a0] (qZ a0) λr=>.I r:=by
 refine pO Tryz.func251 λr h _ _=>?_;unfold qZ at h;refine S4 2 J<|S4 3 J<|c5 ?_;cases h;exact f1
theorem qA{a0}:PO Tryz.prog 252 [g8.Pv a0] (ra a0) λr=>.I r:=by
 refine pO Tryz.func252 λr h _ _=>?_;unfold ra at h;refine S4 2 J<|S4 3 J<|c5 ?_;cases h;exact f1
theorem qB{a0}:PO Tryz.prog 254 [g8.Pv a0] (re a0) λr=>.I r:=by
 refine pO Tryz.func254 λr h _ _=>?_;unfold re at h;refine S4 2 J<|S4 3 J<|c5 ?_;cases h;exact f1
theorem GF{f:Fv}{a0:g8}{r:Int}(h:sQ f a0=some r):∃n,f=some n/\B3 Tryz.prog n/\aV Tryz.prog n [g8.Pv a0] (.I r):=by
 unfold sQ at h;by_cases e251:f=some 251
 .rw[zb e251] at h;exact⟨251,e251,(@qz a0).1,(@qz a0).2 _ h⟩
 rw[za e251] at h;by_cases e252:f=some 252
 .rw[zb e252] at h;exact⟨252,e252,(@qA a0).1,(@qA a0).2 _ h⟩
 rw[za e252] at h;by_cases e254:f=some 254
 .rw[zb e254] at h;exact⟨254,e254,(@qB a0).1,(@qB a0).2 _ h⟩
 rw[za e254] at h;cases h
theorem kO{a0}:PO Tryz.prog 81 [g8.Pv a0] (V8 a0) λr=>.I r:=by
 refine pO Tryz.func81 λr h _ _=>?_;unfold V8 at h;refine S4 2 J<|dr [] s6 (by kernel_rfl) (by kernel_rfl)<|y4 h λv1 hv1 h=>eE J (u7 J wj J hv1) J<|S7 2 J<|d4 J (BE (es:=v1) (k:=a0.Kind) (E:=(Ls l5.Pv)) (EK:=iF) (d:=.tup [.L l5.Pv ((y9 v1 a0.Kind).getD ([]:List l5)),.bool ((y9 v1 a0.Kind).isSome)]) J J X9 (w9 H8) PJ J (Yr _ _ ([]:List l5))) J<|S8 5 J<|k9<|S4 2 J ?_;refine cN h (λhc h=>?_) λhc h=>?_
 .refine S4 1 J ?_;refine c5 ?_;cases h;exact f1
 .refine c7 ?_;refine jq h (λ_=>St.of [] []) (λq9 h=>?_) λκ8 h=>?_
  .refine S4 1 J ?_;refine c5 ?_;cases h;exact f1
  .refine S3 1 J ?_;refine nL J bT<|S2 1 J<|k8<|lq h (λs11=>St.of [(1,.ptr 1 0 0),(17,.L l5.Pv ((y9 v1 a0.Kind).getD ([]:List l5))),(18,.I (((y9 v1 a0.Kind).getD ([]:List l5)).length:Int)),(19,.I s11)] [(1,vR (g8.Pv a0) 4)]) W λs11 x12 h hx13=>S4 1 J<|k9 ?_;refine cN h (λhc h=>?_) λhc h=>?_
   .refine c7 ?_;refine k9<|k8<|sR<|iL h J J bT N3 λv13 _ h=>S2 3 J<|S3 3 J ?_;obtain⟨v14,hv15,h⟩:=sf h;obtain⟨n15,he16,hk17,hp18⟩:=GF hv15;refine N9 (SP 24 J he16)<|y0 J (GQ J hk17 J hp18)<|S2 1 J<|S3 5 J<|m9 J (λhg=>mI J)<|m9 J (λhg=>oF J JR J)<|m9 J (λhg=>oS (ct hg) J J K2 J)<|m9 J (λhg=>D7 (ct hg) (ct hg) J)<|y0 J (P5 J J J (λq=>pM q))<|yN ?_;refine cN h (λhc h=>?_) λhc h=>?_
    .refine S4 3 J ?_;refine c5 ?_;have h:=xL hx13 h;cases h;exact f1
    .refine c7 ?_;refine S6 2 J ?_;exact eL h W
   .refine o6 ?_;refine g6<|g6<|l7 ?_;have h:=xL hx13 h;exact eJ h W
theorem AA{a0}:PO Tryz.prog 62 [.L (Ls g8.Pv) a0] (fN a0) λr=>.bool r:=by
 refine pO Tryz.func62 λr h _ _=>?_;refine S4 1 J<|k9<|S3 1 J<|nL J mo<|S2 1 J ?_;refine cN h (λhc h=>?_) λhc h=>?_
 .refine S4 1 J ?_;refine c5 ?_;cases h;exact f1
 .refine c7 ?_;refine jq h (λ_=>St.of [] []) (λq21 h=>?_) λκ20 h=>?_
  .refine S4 1 J ?_;refine c5 ?_;cases h;exact f1
  .refine S3 1 J ?_;refine nL J mo<|S2 1 J<|k8<|lq h (λs23=>St.of [(10,.L (Ls g8.Pv) a0),(11,.I (a0.length:Int)),(12,.I s23)] []) W λs23 x24 h hx22=>S4 1 J<|k9 ?_;refine cN h (λhc h=>?_) λhc h=>?_
   .refine c7 ?_;refine jq h (λ_=>St.of [(10,.L (Ls g8.Pv) a0),(11,.I (a0.length:Int)),(12,.I s23)] []) (λq33 h=>?_) λκ32 h=>?_
    .refine S6 2 J ?_;exact eL h W
    .refine k8 ?_;refine sR<|iL h J J mo wN λv34 _ h=>S2 2 J<|k9<|S3 1 J<|nL J gp<|S2 1 J ?_;refine cN h (λhc h=>?_) λhc h=>?_
     .refine S4 1 J ?_;refine c5 ?_;have h:=xL hx22 h;cases h;exact f1
     .refine c7 ?_;refine S3 1 J<|nL J gp<|S2 1 J<|k8<|lq h (λs36=>St.of [(10,.L (Ls g8.Pv) a0),(11,.I (a0.length:Int)),(12,.I s23),(19,.L g8.Pv v34),(20,.I (v34.length:Int)),(21,.I s36)] []) W λs36 x37 h hx34=>S4 1 J<|k9 ?_;refine cN h (λhc h=>?_) λhc h=>?_
      .refine c7 ?_;refine k9<|k8<|sR<|iL h J J gp iI λv38 _ h=>S2 3 J<|S3 1 J<|cA h Az J J λv39 _ h=>S1 2 J<|m9 J (λhg=>oL J J J wK iI nl J)<|y4 h λv40 hv37 h=>m9 J (λhg=>S9 J kO (aE (ct hg) J) (br hv37 hg))<|m9 J (λhg=>D7 (ct hg) J J)<|y0 J (P5 J J J (λq=>pM q))<|yN ?_;refine cN h (λhc h=>?_) λhc h=>?_
       .refine S4 1 J ?_;refine c5 ?_;have h:=xL hx34 h;have h:=xL hx22 h;cases h;exact f1
       .refine c7 ?_;refine S6 2 J ?_;exact eL h W
      .refine o6 ?_;refine g6<|g6<|l7 ?_;have h:=xL hx34 h;exact eJ h W
   .refine o6 ?_;refine g6<|g6<|l7 ?_;have h:=xL hx22 h;exact eJ h W
theorem oc{a0 a1}:PO Tryz.prog 201 [.I a0,.I a1] (ay a0 a1) λr=>l4.Pv r:=by
 refine pO Tryz.func201 λr h _ _=>?_;refine S4 1 J<|k9<|S3 3 J<|m9 J (λhg=>mI J)<|m9 J (λhg=>D7 (ct hg) J J)<|y0 J (P5 J J J (λq=>pM q))<|S1 1 J<|m9 J (λhg=>mI J)<|m9 J (λhg=>D7 (ct hg) J J)<|y0 J (P5 J J J (λq=>pM q))<|S1 1 J<|m9 J (λhg=>mI J)<|m9 J (λhg=>D7 (ct hg) J J)<|y0 J (P5 J J J (λq=>pM q))<|yN ?_;refine cN h (λhc h=>?_) λhc h=>?_
 .refine sR ?_;refine y0 J (p6 (cs:=[.nl,.I 0]) J Lv LC J J J)<|kM (x':=.agg [.nl,.I 0]) (cl':=true) J J (.inl J) eh<|yN<|c5 ?_;cases h;exact⟨J,[_],⟨oL J J J hU eh nl J,tr⟩,J,io⟩
 .refine c7 ?_;refine S3 1 J<|y4 h λv1 hv1 h=>y1 J (AJ (f:=c8.Pv) hv1 J J J aX ab pG HC J J J) J<|S1 1 J<|y0 J (p6 (cs:=[.sl 21,.I a1]) J Lv LC J J J)<|S2 1 J<|c5 ?_;cases h;exact⟨J,[_],⟨oL J J J hU eh nl J,tr⟩,J,io⟩
theorem Dw{a0 a1}:PO Tryz.prog 120 [.I a0,.I a1] (jh a0 a1) λr=>b6.Pv r:=by
 refine pO Tryz.func120 λr h _ _=>?_;refine S4 1 J<|S3 2 J<|cF h oc J J λv1 _ h=>y0 J (p6 (cs:=[.L c8.Pv v1.b7,.I v1.Last,.I 0]) J Lw LD J J J)<|S2 1 J<|c5 ?_;cases h;exact⟨J,[_],⟨oL J J J mi mr nl J,tr⟩,J,io⟩
theorem vZ{a0}:PO Tryz.prog 41 [.I a0] (Ak a0) λr=>.L k7.Pv r:=by
 refine pO Tryz.func41 λr h _ _=>?_;refine S4 1 J<|k9<|S3 3 J<|m9 J (λhg=>mI J)<|m9 J (λhg=>D7 (ct hg) J J)<|y0 J (P5 J J J (λq=>pM q))<|yN ?_;refine cN h (λhc h=>?_) λhc h=>?_
 .refine S4 1 J ?_;refine c5 ?_;cases h;exact f1
 .refine c7 ?_;refine S3 1 J<|y4 h λv1 hv1 h=>y1 J (AJ (f:=k7.Pv) hv1 J J J T7 X5 Ca HA J J J) J<|S2 1 J ?_;refine jq h (λj9=>St.of [(3,.sl 12)] [(12,⟨List.map k7.Pv j9,0,true,3,true⟩)]) (λj9 h=>?_) λκ8 h=>?_
  .refine S4 2 J ?_;refine c5 ?_;cases h;exact f1
  .refine S3 1 J ?_;refine y0 J (IQ (f:=k7.Pv) J J J T7)<|S2 1 J<|k8<|lq h (λq=>St.of [(3,.sl 12),(14,.I (v1.length:Int)),(15,.I q.1)] [(12,⟨List.map k7.Pv q.2,0,true,3,true⟩)]) W λq14 x13 h hx9=>?_;obtain⟨s11,s12⟩:=q14;refine S4 1 J<|k9 ?_;refine cN h (λhc h=>?_) λhc h=>?_
   .refine c7 ?_;refine k9<|k8<|S4 2 J<|S5 2 J<|y4 h λv15 hv10 h=>y0 J (aJ (f:=k7.Pv) hv10 J J J J T7 X5 J)<|S1 1 J<|nU (f:=k7.Pv) (v:=(⟨v15.Target,v15.Intact,(-1)⟩:k7)) hv10 J J (.inl J) o5<|yN<|S6 2 J ?_;exact eL h W
   .refine o6 ?_;refine g6<|g6<|l7 ?_;have h:=xL hx9 h;exact eJ h W
theorem Em{a0}:PO Tryz.prog 121 [.I a0] (sW a0) λr=>.L g5.Pv r:=by
 refine pO Tryz.func121 λr h _ _=>?_;refine S4 1 J<|k9<|S3 3 J<|m9 J (λhg=>mI J)<|m9 J (λhg=>D7 (ct hg) J J)<|y0 J (P5 J J J (λq=>pM q))<|yN ?_;refine cN h (λhc h=>?_) λhc h=>?_
 .refine S4 1 J ?_;refine c5 ?_;cases h;exact f1
 .refine c7 ?_;refine S3 1 J<|y4 h λv1 hv1 h=>y1 J (AJ (f:=g5.Pv) hv1 J J J dv dh wO HD J J J) J<|S2 1 J<|c5 ?_;cases h;exact f1
theorem ng{a0}:PO Tryz.prog 202 [.I a0] (cL a0) λr=>j5.Pv r:=by
 refine pO Tryz.func202 λr h _ _=>?_;unfold cL at h;refine S4 1 J<|S3 1 J<|y0 J (p6 (cs:=[.nl,.I a0]) J Lx LF J J J)<|kM (x':=.agg [.nl,.I a0]) (cl':=true) J J (.inl J) cG<|yN<|c5 ?_;cases h;exact⟨J,[_],⟨oL J J J jj cG nl J,tr⟩,J,io⟩
theorem vT:PO Tryz.prog 122 [] (yX) λr=>j5.Pv r:=by
 refine pO Tryz.func122 λr h _ _=>?_;refine S4 1 J<|sR<|cF h ng J J λv1 _ h=>S2 1 J<|c5 ?_;cases h;exact⟨J,[_],⟨oL J J J jj cG nl J,tr⟩,J,io⟩
theorem Eo{a0 a1 a2}:PO Tryz.prog 63 [.I a0,.I a1,.I a2] (lA a0 a1 a2) λr=>b9.Pv r:=by
 refine pO Tryz.func63 λr h _ _=>?_;refine S4 1 J<|k9<|S3 3 J<|m9 J (λhg=>mI J)<|m9 J (λhg=>D7 (ct hg) J J)<|y0 J (P5 J J J (λq=>pM q))<|S1 1 J<|m9 J (λhg=>mI J)<|m9 J (λhg=>D7 (ct hg) J J)<|y0 J (P5 J J J (λq=>pM q))<|S1 1 J<|m9 J (λhg=>mI J)<|m9 J (λhg=>D7 (ct hg) J J)<|y0 J (P5 J J J (λq=>pM q))<|S1 1 J<|m9 J (λhg=>mI J)<|m9 J (λhg=>D7 (ct hg) J J)<|y0 J (P5 J J J (λq=>pM q))<|S1 1 J<|m9 J (λhg=>mI J)<|m9 J (λhg=>D7 (ct hg) J J)<|y0 J (P5 J J J (λq=>pM q))<|yN ?_;refine cN h (λhc h=>?_) λhc h=>?_
 .refine sR ?_;refine y0 J (p6 (cs:=[.nl,.I 0,.I 0,.nl,.nl,.nl,.nl,.I 0]) J Ly LG J J J)<|kM (x':=.agg [.nl,.I 0,.I 0,.nl,.nl,.nl,.nl,.I 0]) (cl':=true) J J (.inl J) p7<|yN<|c5 ?_;cases h;exact⟨J,[_],⟨oL J J J u5 p7 nl J,tr⟩,J,io⟩
 .refine c7 ?_;refine dr [] s6 (by kernel_rfl) (by kernel_rfl)<|S7 2 J<|y4 h λv1 hv1 h=>eE J (u7 J Dw J hv1) J<|y4 h λv2 hv2 h=>d1 J (AJ (f:=iF) hv2 J J J l6 o5 B6 P2 J J J) J J J<|y4 h λv3 hv3 h=>eE J (u7 J vZ J hv3) J<|S7 1 J<|y4 h λv4 hv4 h=>eE J (u7 J Em J hv4) J<|y4 h λv5 hv5 h=>eE J (u7 J vT J hv5) J<|d7 J (λ_ hN=>p6 (cs:=[.L c8.Pv v1.S.b7,.I v1.S.Last,.I v1.Serial,.sl 33,.L k7.Pv v3,.L g5.Pv v4,.L e6.Pv v5.L,.I v5.Cap]) J Ly LG J J J) J<|C9 (x':=.agg [.L c8.Pv v1.S.b7,.I v1.S.Last,.I v1.Serial,.sl 33,.L k7.Pv v3,.L g5.Pv v4,.L e6.Pv v5.L,.I v5.Cap]) (cl':=false) J J (.inr J) p7<|K5<|c5 ?_;cases h;exact⟨J,[_],⟨oL J J J u5 p7 nl J,tr⟩,J,io⟩
theorem qE{a0 a1 a2 a3}:PO Tryz.prog 26 [.I a0,.I a1,.I a2,.L (Ls g8.Pv) a3] (R6 a0 a1 a2 a3) λr=>.tup [r8.Pv r.1,.I r.2]:=by
 refine pO Tryz.func26 λr h _ _=>?_;refine S4 2 J<|k9<|S3 1 J<|cA h AA J J λv1 _ h=>S2 1 J ?_;refine cN h (λhc h=>?_) λhc h=>?_
 .refine sR ?_;refine y0 J (p6 (cs:=[.nl,.I 0,.I 0,.nl,.nl,.nl,.nl,.I 0,.nl]) J FW FY J J J)<|kM (x':=.agg [.nl,.I 0,.I 0,.nl,.nl,.nl,.nl,.I 0,.nl]) (cl':=true) J J (.inl J) dw<|S2 1 J<|c5 ?_;cases h;exact⟨J,[_,_],⟨oL J J J mj dw nl J,⟨J,tr⟩⟩,J,io⟩
 .refine c7 ?_;refine S3 3 J<|cF h Eo J J λv2 _ h=>S2 2 J<|k9<|S3 2 J<|nL J l6<|S2 1 J ?_;refine cN h (λhc h=>?_) λhc h=>?_
  .refine sR ?_;refine y0 J (p6 (cs:=[.nl,.I 0,.I 0,.nl,.nl,.nl,.nl,.I 0,.nl]) J FW FY J J J)<|kM (x':=.agg [.nl,.I 0,.I 0,.nl,.nl,.nl,.nl,.I 0,.nl]) (cl':=true) J J (.inl J) dw<|S2 1 J<|c5 ?_;cases h;exact⟨J,[_,_],⟨oL J J J mj dw nl J,⟨J,tr⟩⟩,J,io⟩
  .refine c7 ?_;refine S3 2 J<|y0 J (p6 (cs:=[.L c8.Pv v2.S.S.b7,.I v2.S.S.Last,.I v2.S.Serial,.L iF v2.Roots,.L k7.Pv v2.b7,.L g5.Pv v2.T,.L e6.Pv v2.Q.L,.I v2.Q.Cap,.L (Ls g8.Pv) a3]) J FW FY J J J)<|S2 2 J<|c5 ?_;cases h;exact⟨J,[_,_],⟨oL J J J mj dw nl J,⟨J,tr⟩⟩,J,io⟩
theorem tC{a0 a1 a2 a3}:PO Tryz.prog 13 [.I a0,.I a1,.I a2,.L (Ls g8.Pv) a3] (aO a0 a1 a2 a3) λr=>.tup [a8.Pv r.1,.I r.2]:=by
 refine pO Tryz.func13 λr h _ _=>?_;refine S4 2 J<|k9<|S3 4 J<|cF h qE J J λv1 _ h=>S2 6 J<|S4 2 J ?_;refine cN h (λhc h=>?_) λhc h=>?_
 .refine sR ?_;refine y0 J (p6 (cs:=[.nl,.nl,.nl,.I 0,.I 0,.I 0,.nl,.nl,.nl,.nl,.nl]) J Lu Lz J J J)<|S1 1 J<|kM (x':=.agg [.nl,.nl,.nl,.I 0,.I 0,.I 0,.nl,.nl,.nl,.nl,.nl]) (cl':=true) J J (.inl J) u9<|S2 1 J<|c5 ?_;cases h;exact⟨J,[_,_],⟨oL J J J z8 u9 nl J,⟨J,tr⟩⟩,J,io⟩
 .refine c7 ?_;refine dr [] s6 (by kernel_rfl) (by kernel_rfl)<|S7 1 J<|y4 h λv2 hv2 h=>d1 J (AJ (f:=iF) hv2 J J J l6 o5 B6 P2 J J J) J J J<|S7 1 J<|d1 J (AJ (f:=iF) hv2 J J J l6 o5 B6 P2 J J J) J J J<|S7 2 J<|y4 h λv3 hv3 h=>d1 J (AJ (f:=iF) hv3 J J J l6 o5 B6 P2 J J J) J J J<|y4 h λv4 hv4 h=>eE J (u7 J vZ J hv4) J<|S7 1 J<|d7 J (λ_ hN=>p6 (cs:=[.nl,.sl 25,.sl 27,.I a1,.I a2,.I 0,.sl 30,.L k7.Pv v4,.nl,.nl,.L (Ls g8.Pv) a3]) J Lu Lz J J J) J<|C9 (x':=.agg [.nl,.sl 25,.sl 27,.I a1,.I a2,.I 0,.sl 30,.L k7.Pv v4,.nl,.nl,.L (Ls g8.Pv) a3]) (cl':=false) J J (.inl J) u9<|S8 1 J<|c5 ?_;cases h;exact⟨J,[_,_],⟨oL J J J z8 u9 nl J,⟨J,tr⟩⟩,J,io⟩
theorem oy{a0}:PO Tryz.prog 50 [.L iF a0] (U3 a0) λr=>.tup [g8.Pv r.1,.I r.2]:=by
 refine pO Tryz.func50 λr h _ _=>?_;refine S4 2 J<|k9<|S3 1 J<|nL J l6<|S2 1 J ?_;refine cN h (λhc h=>?_) λhc h=>?_
 .refine sR ?_;refine y0 J (p6 (cs:=[.I 0,.I 0,.I 0,.I 0]) J wL rZ J J J)<|S2 2 J<|c5 ?_;cases h;exact⟨J,[_,_],⟨oL J J J wK iI nl J,⟨J,tr⟩⟩,J,io⟩
 .refine c7 ?_;refine dr [] s6 (by kernel_rfl) (by kernel_rfl)<|S7 1 J<|y4 h λv1 hv1 h=>d0 J (O6 (f:=iF) (cs:=[.I v1]) hv1 J J l6 o5 J J) J<|S7 2 J<|y4 h λv2 hv2 h=>d0 J (O6 (f:=iF) (cs:=[.I v2]) hv2 J J l6 o5 J J) J<|S7 2 J<|y4 h λv3 hv3 h=>d0 J (O6 (f:=iF) (cs:=[.I v3]) hv3 J J l6 o5 J J) J<|S7 2 J<|y4 h λv4 hv4 h=>d0 J (O6 (f:=iF) (cs:=[.I v4]) hv4 J J l6 o5 J J) J<|S7 1 J<|d7 J (λ_ hN=>p6 (cs:=[.I v1,.I v2,.I v3,.I v4]) J wL rZ J J J) J<|S7 1 J<|C9 (x':=.agg [.I v1,.I v2,.I v3,.I v4]) (cl':=true) J J (.inl J) iI<|K5<|k9<|S3 1 J<|cA h kO J J λv5 _ h=>S2 1 J<|S4 2 J ?_;refine cN h (λhc h=>?_) λhc h=>?_
  .refine sR ?_;refine y0 J (p6 (cs:=[.I 0,.I 0,.I 0,.I 0]) J wL rZ J J J)<|S2 3 J<|c5 ?_;cases h;exact⟨J,[_,_],⟨oL J J J wK iI nl J,⟨J,tr⟩⟩,J,io⟩
  .refine c7 ?_;refine S4 3 J<|c5 ?_;cases h;exact⟨J,[_,_],⟨oL J J J wK iI nl J,⟨J,tr⟩⟩,J,io⟩
theorem ry{a0}:PO Tryz.prog 145 [b8.Pv a0] (ir a0) λr=>.bool r:=by
 refine pO Tryz.func145 λr h _ _=>?_;unfold ir at h;refine S4 2 J<|S4 3 J<|c5 ?_;cases h;exact f1
theorem Z8{a0}:PO Tryz.prog 60 [.L b8.Pv a0,.fn (.func 145) []] (C4 a0) λr=>.L b8.Pv r:=by
 refine pO Tryz.func60 λr h _ _=>?_;refine S4 1 J<|S4 1 J ?_;refine jq h (λj15=>St.of [(5,.sl 910005)] [(910005,⟨List.map b8.Pv j15,(List.map b8.Pv j15).length,true,7,true⟩)]) (λj15 h=>?_) λκ14 h=>?_
 .refine S4 2 J ?_;refine c5 ?_;cases h;exact f1
 .refine S3 1 J ?_;refine nL J A6<|S2 1 J<|k8<|lq h (λq=>St.of [(1,.fn (.func 145) []),(5,.sl 910005),(8,.L b8.Pv a0),(9,.I (a0.length:Int)),(10,.I q.1)] [(910005,⟨List.map b8.Pv q.2,(List.map b8.Pv q.2).length,true,7,true⟩)]) (Wk.trans (F8 (t:=5) (l:=920005) (z:=7) J J) (WP (λl=>if l=910005 then 920005 else l))) λq20 x19 h hx14=>?_;obtain⟨s17,s18⟩:=q20;refine S4 1 J<|k9 ?_;refine cN h (λhc h=>?_) λhc h=>?_
  .refine c7 ?_;refine jq h (λj25=>St.of [(1,.fn (.func 145) []),(5,.sl 20),(8,.L b8.Pv a0),(9,.I (a0.length:Int)),(10,.I s17)] [(20,⟨List.map b8.Pv j25,(List.map b8.Pv j25).length,true,7,true⟩)]) (λj25 h=>?_) λκ24 h=>?_
   .refine S6 2 J ?_;exact eL h (Wk.trans (m8 _ [20]) (WP (λl=>if l=910005 then 20 else l)))
   .refine k8 ?_;refine sR<|iL h J J A6 u6 λv26 _ h=>S2 3 J<|S3 2 J<|cA h ry J J λv27 _ h=>yN ?_;refine cN h (λhc h=>?_) λhc h=>?_
    .refine S5 2 J ?_;refine y0 J (I3 (f:=b8.Pv) (l:=[v26]) J A6 u6 ae J J nl J J)<|y4 h λv28 hv21 h=>I7 J (I2 (f:=b8.Pv) hv21 J J J J J J (.inl ⟨_,J,J⟩) A6 u6 ml ae J (λ_=>J)) J J J<|S2 1 J ?_;exact eJ h (Wk.trans (m8 _ [20]) W)
    .refine c7 ?_;exact eJ h (Wk.trans (m8 _ [910005]) (WP (λl=>if l=20 then 910005 else l)))
  .refine o6 ?_;refine g6<|g6<|l7 ?_;have h:=xL hx14 h;exact eJ h (Wk.trans (m8 _ [910005]) W)
theorem rz{a0}:PO Tryz.prog 118 [b8.Pv a0] (iv a0) λr=>.I r:=by
 refine pO Tryz.func118 λr h _ _=>?_;unfold iv at h;refine S4 2 J<|S4 3 J<|c5 ?_;cases h;exact f1
theorem U7{a0}:PO Tryz.prog 117 [.L b8.Pv a0,.fn (.func 118) []] (B5 a0) λr=>.L iF r:=by
 refine pO Tryz.func117 λr h _ _=>?_;refine S4 1 J<|S4 1 J ?_;refine jq h (λj10=>St.of [(5,.sl 910005)] [(910005,⟨List.map iF j10,(List.map iF j10).length,true,1,true⟩)]) (λj10 h=>?_) λκ9 h=>?_
 .refine S4 2 J ?_;refine c5 ?_;cases h;exact f1
 .refine S3 1 J ?_;refine nL J A6<|S2 1 J<|k8<|lq h (λq=>St.of [(1,.fn (.func 118) []),(5,.sl 910005),(8,.L b8.Pv a0),(9,.I (a0.length:Int)),(10,.I q.1)] [(910005,⟨List.map iF q.2,(List.map iF q.2).length,true,1,true⟩)]) (Wk.trans (F8 (t:=5) (l:=920005) (z:=1) J J) (WP (λl=>if l=910005 then 920005 else l))) λq15 x14 h hx10=>?_;obtain⟨s12,s13⟩:=q15;refine S4 1 J<|k9 ?_;refine cN h (λhc h=>?_) λhc h=>?_
  .refine c7 ?_;refine k9<|k8<|sR<|iL h J J A6 u6 λv16 _ h=>S2 3 J<|S5 3 J<|cA h rz J J λv17 _ h=>y0 J (I3 (f:=iF) (l:=[v17]) J l6 o5 B6 J J nl J J)<|y4 h λv18 hv13 h=>I7 J (I2 (f:=iF) hv13 J J J J J J (.inl ⟨_,J,J⟩) l6 o5 P2 B6 J (λ_=>J)) J J J<|S2 1 J<|S6 2 J ?_;exact eL h (Wk.trans (m8 _ [19]) (WP (λl=>if l=910005 then 19 else l)))
  .refine o6 ?_;refine g6<|g6<|l7 ?_;have h:=xL hx10 h;exact eJ h (Wk.trans (m8 _ [910005]) W)
theorem cg{a0}:PO Tryz.prog 59 [.L b8.Pv a0] (I5 a0) λr=>.L iF r:=by
 refine pO Tryz.func59 λr h _ _=>?_;refine S4 1 J<|S3 1 J<|cF h U7 J J λv1 _ h=>S2 1 J<|c5 ?_;cases h;exact f1
theorem lK{a0}:PO Tryz.prog 146 [.I a0] (aR a0) λr=>c9.Pv r:=by
 refine pO Tryz.func146 λr h _ _=>?_;unfold aR at h;refine S4 1 J<|S3 1 J<|y0 J (p6 (cs:=[.nl,.I a0]) J Pz PK J J J)<|kM (x':=.agg [.nl,.I a0]) (cl':=true) J J (.inl J) kh<|yN<|c5 ?_;cases h;exact⟨J,[_],⟨oL J J J pE kh nl J,tr⟩,J,io⟩
theorem cm{a0}:PO Tryz.prog 115 [a8.Pv a0] (W1 a0) λr=>j5.Pv r:=by
 refine pO Tryz.func115 λr h _ _=>?_;unfold W1 at h;refine S4 2 J<|dr [] s6 (by kernel_rfl) (by kernel_rfl)<|S7 2 J<|y4 h λv1 hv1 h=>eE J (u7 J vT J hv1) J<|S7 1 J<|d7 J (λ_ hN=>p6 (cs:=[.L e6.Pv a0.Tasks,.I v1.Cap]) J Lx LF J J J) J<|C9 (x':=.agg [.L e6.Pv a0.Tasks,.I v1.Cap]) (cl':=true) J J (.inr J) cG<|K5<|c5 ?_;cases h;exact⟨J,[_],⟨oL J J J jj cG nl J,tr⟩,J,io⟩
theorem yY{a0 a1}:PO Tryz.prog 199 [j5.Pv a0,.I a1] (qd a0 a1) λr=>.fn (.func 277) [.rptr (j5.Pc r.1),.rptr [.I r.2]]:=by
 refine pO Tryz.func199 λr h _ _=>?_;unfold qd at h;refine S4 3 J<|S4 2 J<|c5 ?_;cases h;exact f1
theorem ug{a0}:PO Tryz.prog 114 [j5.Pv a0] (gh a0) λr=>.L iF r:=by
 refine pO Tryz.func114 λr h _ _=>?_;refine S4 2 J<|S4 1 J ?_;refine jq h (λj10=>St.of [(3,.ptr 2001 0 0)] [(2001,vS (.sl 912501) 1),(912501,⟨List.map iF j10,(List.map iF j10).length,true,1,true⟩)]) (λj10 h=>?_) λκ9 h=>?_
 .refine S4 2 J ?_;refine c5 ?_;cases h;exact f1
 .refine S3 1 J ?_;refine cF h yY J J λv11 _ h=>yN<|k8<|bK (rR (λl=>if l=2011 then 3 else l) [(3,.ptr 2011 0 0),(6,.fn (.func 277) [.rptr (j5.Pc v11.1),.rptr [.I v11.2]])] [(2011,vR (.nl) 1)]) ?_;refine bJ (fn:=Tryz.f277) (N1:=24) J Tryz.func277 J J nl J HF J J (λl17 e18 o19 hR20=>?_);refine S3 2 J<|nL J H9<|S2 1 J<|k8<|lq h (λq=>St.of [(1000003,.ptr 2011 0 0),(1000006,.fn (.func 277) [.rptr (j5.Pc v11.1),.rptr [.I v11.2]]),(0,.fn (.yield l17) []),(2,.rptr [.I v11.2]),(7,.L e6.Pv v11.1.L),(8,.I (v11.1.L.length:Int)),(9,.I q.1)] [(2011,vS (.sl 912511) 1),(912511,⟨List.map iF q.2,(List.map iF q.2).length,true,1,true⟩)]) (Wk.trans (ux (l0:=2011) (j:=0) (l:=922511) (z:=1) J J J J J) (WP (λl=>if l=912511 then 922511 else l))) λq16 x15 h hx23=>?_;obtain⟨s13,s14⟩:=q16;refine S4 1 J<|k9 ?_;refine cN h (λhc h=>?_) λhc h=>?_
  .refine c7 ?_;refine k9<|k8<|sR<|iL h J J H9 C3 λv17 _ h=>S2 3 J<|S3 5 J<|m9 J (λhg=>om (d:=.fn (.yield l17) []) J)<|m9 J (λhg=>oL J J J bS C3 nl J) ?_;rcases zaz ((v17.Kind==v11.2)==true) with hg25 | hg25
   .have h:=Sy h hg25;refine N9 (rR (λl=>if l=2019 then 912511 else l) [(1000003,.ptr 2011 0 0),(1000006,.fn (.func 277) [.rptr (j5.Pc v11.1),.rptr [.I v11.2]]),(0,.fn (.yield l17) []),(2,.rptr [.I v11.2]),(7,.L e6.Pv v11.1.L),(8,.I (v11.1.L.length:Int)),(9,.I s13),(17,.bool (v17.Kind==v11.2)),(18,.fn (.yield l17) []),(19,e6.Pv v17)] [(2011,vS (.sl 2019) 1),(2019,⟨List.map iF s14,(List.map iF s14).length,true,1,true⟩)]) ?_;refine iX hR20 (zX some hg25) J J J J J (λe26 o27 o28=>?_);refine S6 2 J ?_;refine⟨J,?_⟩;refine k8<|S5 3 J<|y0 J (I3 (f:=iF) (l:=[v17.At]) J l6 o5 B6 J J nl J J)<|y4 h λv18 hv29 h=>I7 J (I2 (f:=iF) hv29 J J J J J J (.inl ⟨_,J,J⟩) l6 o5 P2 B6 J (λ_=>J)) J J J<|S2 1 J ?_;refine⟨J,?_⟩;refine N9 (rR (λl=>if l=2020 then 12 else l) [(1000003,.ptr 2011 0 0),(1000006,.fn (.func 277) [.rptr (j5.Pc v11.1),.rptr [.I v11.2]]),(0,.fn (.yield l17) []),(2,.rptr [.I v11.2]),(7,.L e6.Pv v11.1.L),(8,.I (v11.1.L.length:Int)),(9,.I s13),(17,.bool (v17.Kind==v11.2)),(20,.bool true)] [(2011,vS (.sl 2020) 1),(2020,⟨List.map iF v18,s14.length,true,1,true⟩)])<|y0 (zX some hg25) (dT J J)<|y0 J (kI J J hg25)<|yN ?_;refine G5 false J (λq=>nomatch q) (λ_=>?_);refine c7<|S6 2 J ?_;exact eL h (Wk.trans (m8 _ [2020]) (WP (λl=>if l=912511 then 2020 else l)))
   .have h:=Sx h hg25;refine cR (zX some hg25)<|cR (zX some hg25)<|y0 J (nb J J hg25)<|yN ?_;refine G5 false J (λq=>nomatch q) (λ_=>?_);refine c7<|S6 2 J ?_;exact eL h (Wk.trans (m8 _ [912511]) W)
  .refine o6 ?_;refine g6<|g6<|l7 ?_;refine .inl ⟨J,?_⟩;have h:=xL hx23 h;exact eJ h (Wk.trans (m8 _ [912511]) (WP (λl=>if l=2001 then 2011 else if l=912501 then 912511 else l)))
theorem de{a0}:PO Tryz.prog 116 [.L (Ls iF) a0] (F5 a0) λr=>.L iF r:=by
 refine pO Tryz.func116 λr h _ _=>?_;refine S4 1 J<|S4 1 J ?_;refine jq h (λj11=>St.of [(0,.L (Ls iF) a0),(3,.I j11)] []) (λj11 h=>?_) λκ10 h=>?_
 .refine S3 1 J ?_;refine N9 (WE [(0,.L (Ls iF) a0),(23,.I j11)] []) ?_;refine uA (fn:=Tryz.f200) (N1:=27) J J Tryz.func200 J Pe J J nl (λe8 o9=>?_);refine S4 1 J ?_;refine jq h (λ_=>St.of [(1000000,.L (Ls iF) a0),(1000023,.I j11),(0,.nl),(1,.I j11)] []) (λq13 h=>?_) λκ12 h=>?_
  .refine k9 ?_;refine S3 2 J<|JD J J l6<|S1 1 J<|nL (f:=iF) (xs:=[]) J l6<|S2 3 J<|S4 2 J ?_;refine cN h (λhc h=>?_) λhc h=>?_
   .refine S5 2 J ?_;refine JD J J l6<|y0 J (xc (t':=true) (xs:=[]) (ys:=[]) J l6 o5 (λ_ q=>nomatch q) J ⟨_,J⟩ J (λq=>nomatch q) (zG _) (zV _) (zG _) J J)<|S1 1 J<|y4 h λv14 hv11 h=>SS (f:=iF) J hv11 J nl J J l6 H8 o5 nl B6 P2 J J J<|S1 1 J<|nL (f:=iF) (xs:=[]) J l6<|OL [(1000000,.L (Ls iF) a0),(1000023,.I j11),(0,.nl),(1,.I (w7 (j11-(w7 (0-0))))),(8,.I j11),(9,.nl),(10,.I 0),(11,.nl),(12,.I 0),(13,.I (w7 (0-0))),(14,.I (w7 (j11-(w7 (0-0))))),(15,.I (w7 (j11-(w7 (0-0))))),(16,.bool (decide ((w7 (j11-(w7 (0-0)))) > 0))),(17,.nl),(18,.nl),(19,.I 0),(20,.nl),(21,.I (w7 (j11-(w7 (0-0))))),(23,.nl),(24,.I 0)] [] J ⟨J,J,J,J,J,J,J,J,J,J,J,J,J,J,J,J,J,J,J,J,J,J,J,J,J,J,J,J,J,J,J,J,J,J,J,J,J,J,J,J,J,J,J,J,J,J,J,J,J,J,J,J,J,J,J,J,J,J,J,J,tr⟩ tr J J nl J J J l6 o5<|S2 1 J<|S4 2 J<|c5 ?_;refine⟨J,[.sl 25],⟨J,tr⟩,?_⟩;refine N9 (rR (λl=>if l=2001 then 25 else l) [(0,.L (Ls iF) a0),(24,.sl 2001)] [(2001,⟨List.map iF [],0,true,1,true⟩)])<|S2 1 J ?_;refine jq h (λj23=>St.of [(6,.sl 2001)] [(2001,⟨List.map iF j23,(List.map iF j23).length,true,1,true⟩)]) (λj23 h=>?_) λκ22 h=>?_
    .refine S4 2 J ?_;refine c5 ?_;cases h;exact f1
    .refine S3 1 J ?_;refine nL J aW<|S2 1 J<|k8<|lq h (λq=>St.of [(6,.sl 2001),(25,.L (Ls iF) a0),(26,.I (a0.length:Int)),(27,.I q.1)] [(2001,⟨List.map iF q.2,(List.map iF q.2).length,true,1,true⟩)]) (Wk.trans (m8 _ [2001]) W) λq28 x27 h hx20=>?_;obtain⟨s25,s26⟩:=q28;refine S4 1 J<|k9 ?_;refine cN h (λhc h=>?_) λhc h=>?_
     .refine c7 ?_;refine k9<|k8<|sR<|iL h J J aW bx λv29 _ h=>S2 2 J<|S5 2 J<|y4 h λv30 hv22 h=>I7 J (I2 (f:=iF) hv22 J J J J J J (.inl ⟨_,J,J⟩) l6 o5 P2 B6 J (λ_=>J)) J J J<|S2 1 J<|S6 2 J ?_;exact eL h (Wk.trans (m8 _ [33]) (WP (λl=>if l=2001 then 33 else l)))
     .refine o6 ?_;refine g6<|g6<|l7 ?_;have h:=xL hx20 h;exact eJ h (Wk.trans (m8 _ [2001]) W)
   .refine c7 ?_;refine S4 2 J<|c5 ?_;refine⟨J,[.nl],⟨J,tr⟩,?_⟩;refine N9 (WE [(0,.L (Ls iF) a0),(24,.nl)] [])<|S2 1 J ?_;refine jq h (λj39=>St.of [(6,.sl 910006)] [(910006,⟨List.map iF j39,(List.map iF j39).length,true,1,true⟩)]) (λj39 h=>?_) λκ38 h=>?_
    .refine S4 2 J ?_;refine c5 ?_;cases h;exact f1
    .refine S3 1 J ?_;refine nL J aW<|S2 1 J<|k8<|lq h (λq=>St.of [(6,.sl 910006),(25,.L (Ls iF) a0),(26,.I (a0.length:Int)),(27,.I q.1)] [(910006,⟨List.map iF q.2,(List.map iF q.2).length,true,1,true⟩)]) (Wk.trans (F8 (t:=6) (l:=920006) (z:=1) J J) (WP (λl=>if l=910006 then 920006 else l))) λq44 x43 h hx31=>?_;obtain⟨s41,s42⟩:=q44;refine S4 1 J<|k9 ?_;refine cN h (λhc h=>?_) λhc h=>?_
     .refine c7 ?_;refine k9<|k8<|sR<|iL h J J aW bx λv45 _ h=>S2 2 J<|S5 2 J<|y4 h λv46 hv33 h=>I7 J (I2 (f:=iF) hv33 J J J J J J (.inl ⟨_,J,J⟩) l6 o5 P2 B6 J (λ_=>J)) J J J<|S2 1 J<|S6 2 J ?_;exact eL h (Wk.trans (m8 _ [33]) (WP (λl=>if l=910006 then 33 else l)))
     .refine o6 ?_;refine g6<|g6<|l7 ?_;have h:=xL hx31 h;exact eJ h (Wk.trans (m8 _ [910006]) W)
  .refine S4 2 J ?_;refine cN h (λhc h=>?_) λhc h=>?_;·cases h
   .refine c7 ?_;exact eJ h W
 .refine S3 1 J ?_;refine nL J aW<|S2 1 J<|k8<|lq h (λq=>St.of [(0,.L (Ls iF) a0),(3,.I q.1),(9,.L (Ls iF) a0),(10,.I (a0.length:Int)),(11,.I q.2)] []) W λq51 x50 h hx36=>?_;obtain⟨s48,s49⟩:=q51;refine S4 1 J<|k9 ?_;refine cN h (λhc h=>?_) λhc h=>?_
  .refine c7 ?_;refine jq h (λj54=>St.of [(0,.L (Ls iF) a0),(3,.I j54),(9,.L (Ls iF) a0),(10,.I (a0.length:Int)),(11,.I s49)] []) (λj54 h=>?_) λκ53 h=>?_
   .refine S6 2 J ?_;exact eL h W
   .refine k8 ?_;refine sR<|iL h J J aW bx λv55 _ h=>S2 2 J<|S3 2 J<|nL J l6<|S2 2 J<|S4 2 J ?_;refine cN h (λhc h=>?_) λhc h=>?_;·cases h
    .refine c7 ?_;exact eJ h W
  .refine o6 ?_;refine g6<|g6<|l7 ?_;have h:=xL hx36 h;exact eJ h W
theorem R4{a0}:PO Tryz.prog 149 [c9.Pv a0] (H4 a0) λr=>.I r:=by
 refine pO Tryz.func149 λr h _ _=>?_;unfold H4 at h;refine S4 2 J<|S3 2 J<|nL J l6<|S2 1 J<|c5 ?_;cases h;exact f1
theorem fk{a0 a1 a2}:PO Tryz.prog 258 [.L iF a0,.I a1,.I a2] (T0 a0 a1 a2) λr=>.lst true (List.map iF r):=by
 refine pO Tryz.func258 λr h _ _=>?_;unfold T0 at h;refine S4 1 J<|S3 4 J<|y4 h λv1 hv1 h=>y0 J (Nr (f:=iF) hv1 J ⟨_,J⟩ ⟨_,J⟩ ⟨_,J⟩ J J l6 o5 (λ_=>J))<|S2 1 J<|c5 ?_;cases h;exact f1
theorem V1{a0 a1}:PO Tryz.prog 148 [c9.Pv a0,.I a1] (D2 a0 a1) λr=>.tup [c9.Pv r.1,.I r.2]:=by
 refine pO Tryz.func148 λr h _ _=>?_;unfold D2 at h;refine S4 3 J<|k9<|dr [] s6 (by kernel_rfl) (by kernel_rfl)<|S7 1 J<|y4 h λv1 hv1 h=>d2 J (S9 J R4 J hv1) J<|S8 3 J ?_;refine cN h (λhc h=>?_) λhc h=>?_
 .refine S4 3 J ?_;refine c5 ?_;cases h;exact⟨J,[_,_],⟨oL J J J pE kh nl J,⟨J,tr⟩⟩,J,io⟩
 .refine c7 ?_;refine dr [] s6 (by kernel_rfl) (by kernel_rfl)<|S7 3 J<|d2 J (S9 J R4 J hv1) J<|y4 h λv2 hv2 h=>eE J (u7 J fk J hv2) J<|S7 1 J<|VU J (I3 (f:=iF) (l:=[a1]) J l6 o5 B6 J J nl J J) J<|y4 h λv3 hv3 h=>d3 J (yv (f:=iF) hv3 J J (.inl ⟨_,J,J⟩) l6 o5 P2 B6 J (λ_=>J)) J J J<|S7 1 J<|C9 (x':=.agg [.sl 19,.I a0.Cap]) (cl':=false) J J (.inl J) bx<|K5<|S4 3 J<|c5 ?_;cases h;exact⟨J,[_,_],⟨oL J J J pE kh nl J,⟨J,tr⟩⟩,J,io⟩
theorem rI{a0 a1}:PO Tryz.prog 259 [c9.Pv a0,.I a1] (iz a0 a1) λr=>.tup [c9.Pv r.1,.L iF r.2]:=by
 refine pO Tryz.func259 λr h _ _=>?_;refine S4 3 J<|S3 2 J<|cA h R4 J J λv1 hv1 h=>y0 J (SG J J J)<|y0 J (Ns J J J)<|S2 1 J<|S3 3 J<|cF h fk J J λv2 _ h=>S2 1 J<|dr [] s6 (by kernel_rfl) (by kernel_rfl)<|S7 4 J<|d2 J (S9 J R4 J hv1) J<|y4 h λv3 hv3 h=>eE J (u7 J fk J hv3) J<|S7 1 J<|C9 (x':=.agg [.L iF v3,.I a0.Cap]) (cl':=true) J J (.inr J) bx<|K5<|S4 4 J<|c5 ?_;cases h;exact⟨J,[_,_],⟨oL J J J pE kh nl J,⟨J,tr⟩⟩,J,io⟩
theorem lL{a0}:PO Tryz.prog 150 [c9.Pv a0] (W2 a0) λr=>.tup [c9.Pv r.1,.I r.2.1,.I r.2.2]:=by
 refine pO Tryz.func150 λr h _ _=>?_;refine S4 4 J<|S3 1 J<|cF h rI J J λv1 _ h=>S2 6 J<|k9<|S3 1 J<|nL J l6<|S2 1 J ?_;refine cN h (λhc h=>?_) λhc h=>?_
 .refine S4 1 J ?_;refine S4 5 J<|c5 ?_;cases h;exact⟨J,[_,_,_],⟨oL J J J pE kh nl J,⟨J,⟨J,tr⟩⟩⟩,J,io⟩
 .refine c7 ?_;refine dr [2,3] s6 (by kernel_rfl) (by kernel_rfl)<|S7 2 J<|y4 h λv2 hv2 h=>d7 J (λ_ hN=>O6 (f:=iF) (cs:=[.I v2]) hv2 J J l6 o5 J J) J<|d7 J (λ_ hN=>U9 J K2 J) J<|C9 (x':=c9.Pv v1.1) (cl':=true) J J (.inr J) kh<|S8 2 J<|c5 ?_;cases h;exact⟨J,[_,_,_],⟨oL J J J pE kh nl J,⟨J,⟨J,tr⟩⟩⟩,J,io⟩
theorem wy{a0 a1}:PO Tryz.prog 260 [b8.Pv a0,.rptr [.I a1]] (fa a0 a1) λr=>.bool r:=by
 refine pO Tryz.func260 λr h _ _=>?_;unfold fa at h;refine S4 2 J<|S4 5 J<|c5 ?_;cases h;exact f1
theorem P1{a0 a1}:PO Tryz.prog 157 [.L b8.Pv a0,.fn (.func 260) [.rptr [.I a1]]] (y7 a0 a1) λr=>.I r:=by
 refine pO Tryz.func157 λr h _ _=>?_;refine S4 1 J ?_;refine jq h (λ_=>St.of [] []) (λq7 h=>?_) λκ6 h=>?_
 .refine S4 1 J ?_;refine c5 ?_;cases h;exact f1
 .refine S3 1 J ?_;refine nL J A6<|S2 1 J<|k8<|lq h (λs9=>St.of [(0,.L b8.Pv a0),(1,.fn (.func 260) [.rptr [.I a1]]),(7,.I (a0.length:Int)),(8,.I s9)] []) W λs9 x10 h hx9=>S4 1 J<|k9 ?_;refine cN h (λhc h=>?_) λhc h=>?_
  .refine c7 ?_;refine k9<|k8<|S4 2 J<|S3 3 J<|iL h J J A6 u6 λv11 _ h=>S1 1 J<|cA h wy J J λv12 _ h=>yN ?_;refine cN h (λhc h=>?_) λhc h=>?_
   .refine S4 2 J ?_;refine c5 ?_;have h:=xL hx9 h;cases h;exact f1
   .refine c7 ?_;refine S6 2 J ?_;exact eL h W
  .refine o6 ?_;refine g6<|g6<|l7 ?_;have h:=xL hx9 h;exact eJ h W
theorem Q9{a0 a1}:PO Tryz.prog 151 [a8.Pv a0,.I a1] (I9 a0 a1) λr=>.I r:=by
 refine pO Tryz.func151 λr h _ _=>?_;refine S4 3 J<|S3 3 J<|cA h P1 J J λv1 _ h=>S2 1 J<|c5 ?_;cases h;exact f1
theorem qo{a0 a1}:PO Tryz.prog 261 [g7.Pv a0,.rptr [.I a1]] (ck a0 a1) λr=>.bool r:=by
 refine pO Tryz.func261 λr h _ _=>?_;unfold ck at h;refine S4 2 J<|S4 5 J<|c5 ?_;cases h;exact f1
theorem Y7{a0 a1}:PO Tryz.prog 163 [.L g7.Pv a0,.fn (.func 261) [.rptr [.I a1]]] (C0 a0 a1) λr=>.L g7.Pv r:=by
 refine pO Tryz.func163 λr h _ _=>?_;refine S4 1 J<|S4 1 J ?_;refine jq h (λj15=>St.of [(5,.sl 910005)] [(910005,⟨List.map g7.Pv j15,(List.map g7.Pv j15).length,true,2,true⟩)]) (λj15 h=>?_) λκ14 h=>?_
 .refine S4 2 J ?_;refine c5 ?_;cases h;exact f1
 .refine S3 1 J ?_;refine nL J L9<|S2 1 J<|k8<|lq h (λq=>St.of [(1,.fn (.func 261) [.rptr [.I a1]]),(5,.sl 910005),(8,.L g7.Pv a0),(9,.I (a0.length:Int)),(10,.I q.1)] [(910005,⟨List.map g7.Pv q.2,(List.map g7.Pv q.2).length,true,2,true⟩)]) (Wk.trans (F8 (t:=5) (l:=920005) (z:=2) J J) (WP (λl=>if l=910005 then 920005 else l))) λq20 x19 h hx14=>?_;obtain⟨s17,s18⟩:=q20;refine S4 1 J<|k9 ?_;refine cN h (λhc h=>?_) λhc h=>?_
  .refine c7 ?_;refine jq h (λj25=>St.of [(1,.fn (.func 261) [.rptr [.I a1]]),(5,.sl 20),(8,.L g7.Pv a0),(9,.I (a0.length:Int)),(10,.I s17)] [(20,⟨List.map g7.Pv j25,(List.map g7.Pv j25).length,true,2,true⟩)]) (λj25 h=>?_) λκ24 h=>?_
   .refine S6 2 J ?_;exact eL h (Wk.trans (m8 _ [20]) (WP (λl=>if l=910005 then 20 else l)))
   .refine k8 ?_;refine sR<|iL h J J L9 T3 λv26 _ h=>S2 3 J<|S3 2 J<|cA h qo J J λv27 _ h=>yN ?_;refine cN h (λhc h=>?_) λhc h=>?_
    .refine S5 2 J ?_;refine y0 J (I3 (f:=g7.Pv) (l:=[v26]) J L9 T3 ah J J nl J J)<|y4 h λv28 hv21 h=>I7 J (I2 (f:=g7.Pv) hv21 J J J J J J (.inl ⟨_,J,J⟩) L9 T3 pF ah J (λ_=>J)) J J J<|S2 1 J ?_;exact eJ h (Wk.trans (m8 _ [20]) W)
    .refine c7 ?_;exact eJ h (Wk.trans (m8 _ [910005]) (WP (λl=>if l=20 then 910005 else l)))
  .refine o6 ?_;refine g6<|g6<|l7 ?_;have h:=xL hx14 h;exact eJ h (Wk.trans (m8 _ [910005]) W)
theorem qp{a0}:PO Tryz.prog 262 [g7.Pv a0] (fT a0) λr=>.I r:=by
 refine pO Tryz.func262 λr h _ _=>?_;unfold fT at h;refine S4 2 J<|S4 3 J<|c5 ?_;cases h;exact f1
theorem T9{a0}:PO Tryz.prog 112 [.L g7.Pv a0,.fn (.func 262) []] (D8 a0) λr=>.L iF r:=by
 refine pO Tryz.func112 λr h _ _=>?_;refine S4 1 J<|S4 1 J ?_;refine jq h (λj10=>St.of [(5,.sl 910005)] [(910005,⟨List.map iF j10,(List.map iF j10).length,true,1,true⟩)]) (λj10 h=>?_) λκ9 h=>?_
 .refine S4 2 J ?_;refine c5 ?_;cases h;exact f1
 .refine S3 1 J ?_;refine nL J L9<|S2 1 J<|k8<|lq h (λq=>St.of [(1,.fn (.func 262) []),(5,.sl 910005),(8,.L g7.Pv a0),(9,.I (a0.length:Int)),(10,.I q.1)] [(910005,⟨List.map iF q.2,(List.map iF q.2).length,true,1,true⟩)]) (Wk.trans (F8 (t:=5) (l:=920005) (z:=1) J J) (WP (λl=>if l=910005 then 920005 else l))) λq15 x14 h hx10=>?_;obtain⟨s12,s13⟩:=q15;refine S4 1 J<|k9 ?_;refine cN h (λhc h=>?_) λhc h=>?_
  .refine c7 ?_;refine k9<|k8<|sR<|iL h J J L9 T3 λv16 _ h=>S2 3 J<|S5 3 J<|cA h qp J J λv17 _ h=>y0 J (I3 (f:=iF) (l:=[v17]) J l6 o5 B6 J J nl J J)<|y4 h λv18 hv13 h=>I7 J (I2 (f:=iF) hv13 J J J J J J (.inl ⟨_,J,J⟩) l6 o5 P2 B6 J (λ_=>J)) J J J<|S2 1 J<|S6 2 J ?_;exact eL h (Wk.trans (m8 _ [19]) (WP (λl=>if l=910005 then 19 else l)))
  .refine o6 ?_;refine g6<|g6<|l7 ?_;have h:=xL hx10 h;exact eJ h (Wk.trans (m8 _ [910005]) W)
theorem kH{a0 a1}:PO Tryz.prog 152 [a8.Pv a0,.I a1] (O5 a0 a1) λr=>.L iF r:=by
 refine pO Tryz.func152 λr h _ _=>?_;unfold O5 at h;refine S4 3 J<|S3 3 J<|y4 h λv1 hv1 h=>JE J (u7 J Y7 J hv1) J<|S2 1 J<|S3 1 J<|cF h T9 J J λv2 _ h=>S2 1 J<|c5 ?_;cases h;exact f1
theorem vf{a0}:PO Tryz.prog 82 [a8.Pv a0] (gB a0) λr=>.abs (T6 (List.map (bU iF PV.bool) r)):=by
 refine pO Tryz.func82 λr h _ _=>?_;refine S4 2 J<|S3 2 J<|cF h Z8 J J λv1 _ h=>cF h cg J J λv2 _ h=>S2 1 J<|sR<|BT (KT:=Int) (VT:=Bool) (EK:=iF) (E:=PV.bool) 5000012 J J<|Z3 (es:=[]) (k:=0) (v:=true) (E:=PV.bool) (EK:=iF) (.inr J) J J J J J J Q0 (w9 H8)<|S2 3 J<|S3 2 J<|nL J A6<|cF h lK J J λv3 _ h=>S2 2 J<|S4 2 J<|Xp [] 9 s6 (by kernel_rfl) (by kernel_rfl) (by kernel_rfl) (by kernel_rfl) nl<|S7 4 J<|y4 h λv4 hv4 h=>eE J (u7 J cm J hv4) J<|y4 h λv5 hv5 h=>eE J (u7 J ug J hv5) J<|S7 1 J<|VU J (I3 (f:=(Ls iF)) (l:=[a0.Roots,v5,v2]) J aW bx xw J J nl J J) J<|y4 h λv6 hv6 h=>eE J (u7 J de J hv6) J<|K5<|CT (rR (λl=>if l=2001 then 5 else if l=2002 then 4 else if l=2003 then 1 else if l=5002004 then 5000012 else l) [(1,.ptr 2003 0 0),(4,.ptr 2002 0 0),(5,.ptr 2001 0 0),(6,.fn (.func 147) [.ptr 2002 0 0,.ptr 2001 0 0]),(19,.fn (.func 147) [.ptr 2002 0 0,.ptr 2001 0 0]),(27,.L iF v6)] [(2001,vR (c9.Pv v3) 2),(2002,vS (.mp 5002004) 1),(5002004,⟨[.mapc (List.map (bU iF PV.bool) (o7 [] 0 true))],0,false,0,false⟩),(2003,vR (a8.Pv a0) 11)]) ?_;refine Hw (fn:=Tryz.f147) (N1:=25) J J J Tryz.func147 J BY J J nl (λe7 o8=>?_);refine VG h (λq=>St.of [(1000001,.ptr 2003 0 0),(1000004,.ptr 2002 0 0),(1000005,.ptr 2001 0 0),(1000006,.fn (.func 147) [.ptr 2002 0 0,.ptr 2001 0 0]),(1000019,.fn (.func 147) [.ptr 2002 0 0,.ptr 2001 0 0]),(1000027,.L iF v6)] [(2001,vR (c9.Pv q.1) 2),(2002,vS (.mp 5002004) 1),(5002004,⟨[.mapc (List.map (bU iF PV.bool) q.2)],0,false,0,false⟩),(2003,vR (a8.Pv a0) 11)]) (λq24 h=>dup ?_) λκ21 h=>?_
 .obtain⟨j22,j23⟩:=q24;refine⟨J,[],tr,?_⟩;refine⟨_,uy [(1,.ptr 2003 0 0),(4,.ptr 2002 0 0),(5,.ptr 2001 0 0),(6,.fn (.func 147) [.ptr 2002 0 0,.ptr 2001 0 0])] [(2001,vR (c9.Pv j22) 2),(2002,vS (.mp 5002004) 1),(5002004,⟨[.mapc (List.map (bU iF PV.bool) j23)],0,false,0,false⟩),(2003,vR (a8.Pv a0) 11)] ⟨J,J,J,J,J,J,J,J,J,J,J,J,tr⟩ ⟨rS,W5 J J J (λq=>nomatch q) J J J J,W5 J J J (λq=>nomatch q) J J J J,rS,tr⟩,?_⟩;refine K5 ?_;refine jq h (λj100=>St.of [(4,.ptr 2002 0 0)] [(2002,vS (.mp 5002004) 1),(5002004,⟨[.mapc (List.map (bU iF PV.bool) j100)],0,false,0,false⟩)]) (λj100 h=>?_) λκ99 h=>?_
  .refine S4 2 J ?_;refine bK (DF 2 5002004 J J)<|c5 ?_;cases h;exact f1
  .refine k8 ?_;refine lq h (λq=>St.of [(1,.ptr 2003 0 0),(4,.ptr 2002 0 0),(5,.ptr 2001 0 0),(6,.fn (.func 147) [.ptr 2002 0 0,.ptr 2001 0 0])] [(2001,vR (c9.Pv q.1) 2),(2002,vS (.mp 5002004) 1),(5002004,⟨[.mapc (List.map (bU iF PV.bool) q.2)],0,false,0,false⟩),(2003,vR (a8.Pv a0) 11)]) W λq105 x104 h hx67=>?_;obtain⟨s102,s103⟩:=q105;refine k9<|S3 1 J<|cA h R4 J J λv106 _ h=>S2 1 J ?_;refine cN h (λhc h=>?_) λhc h=>?_
   .refine c7 ?_;refine k8<|S4 1 J<|S3 1 J<|cF h lL J J λv107 _ h=>S2 6 J<|Xp [] 9 s6 (by kernel_rfl) (by kernel_rfl) (by kernel_rfl) (by kernel_rfl) nl<|S7 5 J<|y4 h λv108 hv70 h=>d2 J (S9 J Q9 J hv70) J<|y4 h λv109 hv71 h=>d0 J (O6 (f:=b8.Pv) (cs:=b8.Pc v109) hv71 J J A6 u6 J J) J<|S8 2 J<|CT (WE [(1,.ptr 2003 0 0),(4,.ptr 2002 0 0),(5,.ptr 2001 0 0),(6,.fn (.func 147) [.ptr 2002 0 0,.ptr 2001 0 0]),(7,.I v107.2.1),(38,.fn (.func 147) [.ptr 2002 0 0,.ptr 2001 0 0]),(46,.L iF v109.Fields)] [(2001,vR (c9.Pv v107.1) 2),(2002,vS (.mp 5002004) 1),(5002004,⟨[.mapc (List.map (bU iF PV.bool) s103)],0,false,0,false⟩),(2003,vR (a8.Pv a0) 11)]) ?_;refine Hw (fn:=Tryz.f147) (N1:=25) J J J Tryz.func147 J BY J J nl (λe72 o73=>?_);refine VG h (λq=>St.of [(1000001,.ptr 2003 0 0),(1000004,.ptr 2002 0 0),(1000005,.ptr 2001 0 0),(1000006,.fn (.func 147) [.ptr 2002 0 0,.ptr 2001 0 0]),(1000007,.I v107.2.1),(1000038,.fn (.func 147) [.ptr 2002 0 0,.ptr 2001 0 0]),(1000046,.L iF v109.Fields)] [(2001,vR (c9.Pv q.1) 2),(2002,vS (.mp 5002004) 1),(5002004,⟨[.mapc (List.map (bU iF PV.bool) q.2)],0,false,0,false⟩),(2003,vR (a8.Pv a0) 11)]) (λq127 h=>dup ?_) λκ124 h=>?_
    .obtain⟨j125,j126⟩:=q127;refine⟨J,[],tr,?_⟩;refine⟨_,uy [(1,.ptr 2003 0 0),(4,.ptr 2002 0 0),(5,.ptr 2001 0 0),(6,.fn (.func 147) [.ptr 2002 0 0,.ptr 2001 0 0]),(7,.I v107.2.1)] [(2001,vR (c9.Pv j125) 2),(2002,vS (.mp 5002004) 1),(5002004,⟨[.mapc (List.map (bU iF PV.bool) j126)],0,false,0,false⟩),(2003,vR (a8.Pv a0) 11)] ⟨J,J,J,J,J,J,J,J,J,J,J,J,J,J,J,tr⟩ ⟨rS,W5 J J J (λq=>nomatch q) J J J J,W5 J J J (λq=>nomatch q) J J J J,rS,tr⟩,?_⟩;refine K5<|S5 3 J<|cF h kH J J λv128 _ h=>N9 (WE [(1,.ptr 2003 0 0),(4,.ptr 2002 0 0),(5,.ptr 2001 0 0),(6,.fn (.func 147) [.ptr 2002 0 0,.ptr 2001 0 0]),(48,.fn (.func 147) [.ptr 2002 0 0,.ptr 2001 0 0]),(51,.L iF v128)] [(2001,vR (c9.Pv j125) 2),(2002,vS (.mp 5002004) 1),(5002004,⟨[.mapc (List.map (bU iF PV.bool) j126)],0,false,0,false⟩),(2003,vR (a8.Pv a0) 11)]) ?_;refine uA (fn:=Tryz.f147) (N1:=25) J J Tryz.func147 J BY J J nl (λe84 o85=>?_);refine VG h (λq=>St.of [(1000001,.ptr 2003 0 0),(1000004,.ptr 2002 0 0),(1000005,.ptr 2001 0 0),(1000006,.fn (.func 147) [.ptr 2002 0 0,.ptr 2001 0 0]),(1000048,.fn (.func 147) [.ptr 2002 0 0,.ptr 2001 0 0]),(1000051,.L iF v128)] [(2001,vR (c9.Pv q.1) 2),(2002,vS (.mp 5002004) 1),(5002004,⟨[.mapc (List.map (bU iF PV.bool) q.2)],0,false,0,false⟩),(2003,vR (a8.Pv a0) 11)]) (λq146 h=>dup ?_) λκ143 h=>?_
     .obtain⟨j144,j145⟩:=q146;refine⟨J,[],tr,?_⟩;refine N9 (WE [(1,.ptr 2003 0 0),(4,.ptr 2002 0 0),(5,.ptr 2001 0 0),(6,.fn (.func 147) [.ptr 2002 0 0,.ptr 2001 0 0])] [(2001,vR (c9.Pv j144) 2),(2002,vS (.mp 5002004) 1),(5002004,⟨[.mapc (List.map (bU iF PV.bool) j145)],0,false,0,false⟩),(2003,vR (a8.Pv a0) 11)])<|yN ?_;exact eL h W
     .refine S3 1 J ?_;refine nL J l6<|S2 1 J<|k8<|lq h (λq=>St.of [(1000001,.ptr 2003 0 0),(1000004,.ptr 2002 0 0),(1000005,.ptr 2001 0 0),(1000006,.fn (.func 147) [.ptr 2002 0 0,.ptr 2001 0 0]),(1000048,.fn (.func 147) [.ptr 2002 0 0,.ptr 2001 0 0]),(1000051,.L iF v128),(1,.ptr 2002 0 0),(2,.ptr 2001 0 0),(6,.L iF v128),(7,.I (v128.length:Int)),(8,.I q.1)] [(2001,vR (c9.Pv q.2.1) 2),(2002,vS (.mp 5002004) 1),(5002004,⟨[.mapc (List.map (bU iF PV.bool) q.2.2)],0,false,0,false⟩),(2003,vR (a8.Pv a0) 11)]) W λq152 x151 h hx97=>?_;obtain⟨s148,s149,s150⟩:=q152;refine S4 1 J<|k9 ?_;refine cN h (λhc h=>?_) λhc h=>?_
      .refine c7 ?_;refine jq h (λq=>St.of [(1000001,.ptr 2003 0 0),(1000004,.ptr 2002 0 0),(1000005,.ptr 2001 0 0),(1000006,.fn (.func 147) [.ptr 2002 0 0,.ptr 2001 0 0]),(1000048,.fn (.func 147) [.ptr 2002 0 0,.ptr 2001 0 0]),(1000051,.L iF v128),(1,.ptr 2002 0 0),(2,.ptr 2001 0 0),(6,.L iF v128),(7,.I (v128.length:Int)),(8,.I s148)] [(2001,vR (c9.Pv q.1) 2),(2002,vS (.mp 5002004) 1),(5002004,⟨[.mapc (List.map (bU iF PV.bool) q.2)],0,false,0,false⟩),(2003,vR (a8.Pv a0) 11)]) (λq158 h=>?_) λκ155 h=>?_
       .obtain⟨j156,j157⟩:=q158;refine S6 2 J ?_;exact eL h W
       .refine k8 ?_;refine sR<|iL h J J l6 o5 λv159 _ h=>S2 2 J<|S3 2 J<|BS (es:=s150) (k:=v159) (E:=PV.bool) (EK:=iF) (d:=.bool ((y9 s150 v159).getD (false:Bool))) J J J J Q0 (w9 H8) sa J (MS _ _ _)<|S2 1 J ?_;refine cN h (λhc h=>?_) λhc h=>?_
        .refine S3 2 J ?_;refine Z3 (es:=s150) (k:=v159) (v:=true) (E:=PV.bool) (EK:=iF) (.inl J) J J J J J J Q0 (w9 H8)<|yN<|S5 2 J<|cF h V1 J J λv160 _ h=>S2 4 J ?_;exact eJ h W
        .refine c7 ?_;exact eJ h W
      .refine o6 ?_;refine g6<|g6<|l7 ?_;have h:=xL hx97 h;exact eJ h W
    .refine S3 1 J ?_;refine nL J l6<|S2 1 J<|k8<|lq h (λq=>St.of [(1000001,.ptr 2003 0 0),(1000004,.ptr 2002 0 0),(1000005,.ptr 2001 0 0),(1000006,.fn (.func 147) [.ptr 2002 0 0,.ptr 2001 0 0]),(1000007,.I v107.2.1),(1000038,.fn (.func 147) [.ptr 2002 0 0,.ptr 2001 0 0]),(1000046,.L iF v109.Fields),(1,.ptr 2002 0 0),(2,.ptr 2001 0 0),(6,.L iF v109.Fields),(7,.I (v109.Fields.length:Int)),(8,.I q.1)] [(2001,vR (c9.Pv q.2.1) 2),(2002,vS (.mp 5002004) 1),(5002004,⟨[.mapc (List.map (bU iF PV.bool) q.2.2)],0,false,0,false⟩),(2003,vR (a8.Pv a0) 11)]) W λq166 x165 h hx105=>?_;obtain⟨s162,s163,s164⟩:=q166;refine S4 1 J<|k9 ?_;refine cN h (λhc h=>?_) λhc h=>?_
     .refine c7 ?_;refine jq h (λq=>St.of [(1000001,.ptr 2003 0 0),(1000004,.ptr 2002 0 0),(1000005,.ptr 2001 0 0),(1000006,.fn (.func 147) [.ptr 2002 0 0,.ptr 2001 0 0]),(1000007,.I v107.2.1),(1000038,.fn (.func 147) [.ptr 2002 0 0,.ptr 2001 0 0]),(1000046,.L iF v109.Fields),(1,.ptr 2002 0 0),(2,.ptr 2001 0 0),(6,.L iF v109.Fields),(7,.I (v109.Fields.length:Int)),(8,.I s162)] [(2001,vR (c9.Pv q.1) 2),(2002,vS (.mp 5002004) 1),(5002004,⟨[.mapc (List.map (bU iF PV.bool) q.2)],0,false,0,false⟩),(2003,vR (a8.Pv a0) 11)]) (λq172 h=>?_) λκ169 h=>?_
      .obtain⟨j170,j171⟩:=q172;refine S6 2 J ?_;exact eL h W
      .refine k8 ?_;refine sR<|iL h J J l6 o5 λv173 _ h=>S2 2 J<|S3 2 J<|BS (es:=s164) (k:=v173) (E:=PV.bool) (EK:=iF) (d:=.bool ((y9 s164 v173).getD (false:Bool))) J J J J Q0 (w9 H8) sa J (MS _ _ _)<|S2 1 J ?_;refine cN h (λhc h=>?_) λhc h=>?_
       .refine S3 2 J ?_;refine Z3 (es:=s164) (k:=v173) (v:=true) (E:=PV.bool) (EK:=iF) (.inl J) J J J J J J Q0 (w9 H8)<|yN<|S5 2 J<|cF h V1 J J λv174 _ h=>S2 4 J ?_;exact eJ h W
       .refine c7 ?_;exact eJ h W
     .refine o6 ?_;refine g6<|g6<|l7 ?_;have h:=xL hx105 h;exact eJ h W
   .refine o6 ?_;refine g6<|g6<|l7 ?_;have h:=xL hx67 h;exact eJ h W
 .refine S3 1 J ?_;refine nL J l6<|S2 1 J<|k8<|lq h (λq=>St.of [(1000001,.ptr 2003 0 0),(1000004,.ptr 2002 0 0),(1000005,.ptr 2001 0 0),(1000006,.fn (.func 147) [.ptr 2002 0 0,.ptr 2001 0 0]),(1000019,.fn (.func 147) [.ptr 2002 0 0,.ptr 2001 0 0]),(1000027,.L iF v6),(1,.ptr 2002 0 0),(2,.ptr 2001 0 0),(6,.L iF v6),(7,.I (v6.length:Int)),(8,.I q.1)] [(2001,vR (c9.Pv q.2.1) 2),(2002,vS (.mp 5002004) 1),(5002004,⟨[.mapc (List.map (bU iF PV.bool) q.2.2)],0,false,0,false⟩),(2003,vR (a8.Pv a0) 11)]) W λq180 x179 h hx113=>?_;obtain⟨s176,s177,s178⟩:=q180;refine S4 1 J<|k9 ?_;refine cN h (λhc h=>?_) λhc h=>?_
  .refine c7 ?_;refine jq h (λq=>St.of [(1000001,.ptr 2003 0 0),(1000004,.ptr 2002 0 0),(1000005,.ptr 2001 0 0),(1000006,.fn (.func 147) [.ptr 2002 0 0,.ptr 2001 0 0]),(1000019,.fn (.func 147) [.ptr 2002 0 0,.ptr 2001 0 0]),(1000027,.L iF v6),(1,.ptr 2002 0 0),(2,.ptr 2001 0 0),(6,.L iF v6),(7,.I (v6.length:Int)),(8,.I s176)] [(2001,vR (c9.Pv q.1) 2),(2002,vS (.mp 5002004) 1),(5002004,⟨[.mapc (List.map (bU iF PV.bool) q.2)],0,false,0,false⟩),(2003,vR (a8.Pv a0) 11)]) (λq186 h=>?_) λκ183 h=>?_
   .obtain⟨j184,j185⟩:=q186;refine S6 2 J ?_;exact eL h W
   .refine k8 ?_;refine sR<|iL h J J l6 o5 λv187 _ h=>S2 2 J<|S3 2 J<|BS (es:=s178) (k:=v187) (E:=PV.bool) (EK:=iF) (d:=.bool ((y9 s178 v187).getD (false:Bool))) J J J J Q0 (w9 H8) sa J (MS _ _ _)<|S2 1 J ?_;refine cN h (λhc h=>?_) λhc h=>?_
    .refine S3 2 J ?_;refine Z3 (es:=s178) (k:=v187) (v:=true) (E:=PV.bool) (EK:=iF) (.inl J) J J J J J J Q0 (w9 H8)<|yN<|S5 2 J<|cF h V1 J J λv188 _ h=>S2 4 J ?_;exact eJ h W
    .refine c7 ?_;exact eJ h W
  .refine o6 ?_;refine g6<|g6<|l7 ?_;have h:=xL hx113 h;exact eJ h W
theorem oX{a0 a1}:PO Tryz.prog 83 [b8.Pv a0,.rptr [.abs (T6 (List.map (bU iF PV.bool) a1))]] (bq a0 a1) λr=>.bool r:=by
 refine pO Tryz.func83 λr h _ _=>?_;unfold bq at h;refine S4 2 J<|S3 3 J<|m9 J (λhg=>U9 J BW J)<|m9 J (λhg=>oF J AT J)<|m9 J (λhg=>oS (ct hg) J J K2 J)<|m9 J (λhg=>BE (es:=a1) (k:=a0.Serial) (E:=PV.bool) (EK:=iF) (d:=.bool ((y9 a1 a0.Serial).getD (false:Bool))) (ct hg) (ct hg) Q0 (w9 H8) sa J (MS _ _ _))<|m9 J (λhg=>dT (ct hg) J)<|y0 J (D1 J J J (λq=>kp q))<|S2 1 J<|c5 ?_;cases h;exact f1
theorem X0{a0 a1}:PO Tryz.prog 60 [.L b8.Pv a0,.fn (.func 83) [.rptr [.abs (T6 (List.map (bU iF PV.bool) a1))]]] (B8 a0 a1) λr=>.L b8.Pv r:=by
 refine pO Tryz.func60 λr h _ _=>?_;refine S4 1 J<|S4 1 J ?_;refine jq h (λj15=>St.of [(5,.sl 910005)] [(910005,⟨List.map b8.Pv j15,(List.map b8.Pv j15).length,true,7,true⟩)]) (λj15 h=>?_) λκ14 h=>?_
 .refine S4 2 J ?_;refine c5 ?_;cases h;exact f1
 .refine S3 1 J ?_;refine nL J A6<|S2 1 J<|k8<|lq h (λq=>St.of [(1,.fn (.func 83) [.rptr [.abs (T6 (List.map (bU iF PV.bool) a1))]]),(5,.sl 910005),(8,.L b8.Pv a0),(9,.I (a0.length:Int)),(10,.I q.1)] [(910005,⟨List.map b8.Pv q.2,(List.map b8.Pv q.2).length,true,7,true⟩)]) (Wk.trans (F8 (t:=5) (l:=920005) (z:=7) J J) (WP (λl=>if l=910005 then 920005 else l))) λq20 x19 h hx14=>?_;obtain⟨s17,s18⟩:=q20;refine S4 1 J<|k9 ?_;refine cN h (λhc h=>?_) λhc h=>?_
  .refine c7 ?_;refine jq h (λj25=>St.of [(1,.fn (.func 83) [.rptr [.abs (T6 (List.map (bU iF PV.bool) a1))]]),(5,.sl 20),(8,.L b8.Pv a0),(9,.I (a0.length:Int)),(10,.I s17)] [(20,⟨List.map b8.Pv j25,(List.map b8.Pv j25).length,true,7,true⟩)]) (λj25 h=>?_) λκ24 h=>?_
   .refine S6 2 J ?_;exact eL h (Wk.trans (m8 _ [20]) (WP (λl=>if l=910005 then 20 else l)))
   .refine k8 ?_;refine sR<|iL h J J A6 u6 λv26 _ h=>S2 3 J<|S3 2 J<|cA h oX J J λv27 _ h=>yN ?_;refine cN h (λhc h=>?_) λhc h=>?_
    .refine S5 2 J ?_;refine y0 J (I3 (f:=b8.Pv) (l:=[v26]) J A6 u6 ae J J nl J J)<|y4 h λv28 hv21 h=>I7 J (I2 (f:=b8.Pv) hv21 J J J J J J (.inl ⟨_,J,J⟩) A6 u6 ml ae J (λ_=>J)) J J J<|S2 1 J ?_;exact eJ h (Wk.trans (m8 _ [20]) W)
    .refine c7 ?_;exact eJ h (Wk.trans (m8 _ [910005]) (WP (λl=>if l=20 then 910005 else l)))
  .refine o6 ?_;refine g6<|g6<|l7 ?_;have h:=xL hx14 h;exact eJ h (Wk.trans (m8 _ [910005]) W)
theorem lE{a0}:PO Tryz.prog 84 [b8.Pv a0] (cZ a0) λr=>.bool r:=by
 refine pO Tryz.func84 λr h _ _=>?_;unfold cZ at h;refine S4 2 J<|S3 4 J<|m9 J (λhg=>oF J JJ J)<|m9 J (λhg=>oS (ct hg) J J qx J)<|m9 J (λhg=>dT (ct hg) J)<|y0 J (D1 J J J (λq=>kp q))<|S2 1 J<|c5 ?_;cases h;exact f1
theorem aH{a0}:PO Tryz.prog 60 [.L b8.Pv a0,.fn (.func 84) []] (D0 a0) λr=>.L b8.Pv r:=by
 refine pO Tryz.func60 λr h _ _=>?_;refine S4 1 J<|S4 1 J ?_;refine jq h (λj15=>St.of [(5,.sl 910005)] [(910005,⟨List.map b8.Pv j15,(List.map b8.Pv j15).length,true,7,true⟩)]) (λj15 h=>?_) λκ14 h=>?_
 .refine S4 2 J ?_;refine c5 ?_;cases h;exact f1
 .refine S3 1 J ?_;refine nL J A6<|S2 1 J<|k8<|lq h (λq=>St.of [(1,.fn (.func 84) []),(5,.sl 910005),(8,.L b8.Pv a0),(9,.I (a0.length:Int)),(10,.I q.1)] [(910005,⟨List.map b8.Pv q.2,(List.map b8.Pv q.2).length,true,7,true⟩)]) (Wk.trans (F8 (t:=5) (l:=920005) (z:=7) J J) (WP (λl=>if l=910005 then 920005 else l))) λq20 x19 h hx14=>?_;obtain⟨s17,s18⟩:=q20;refine S4 1 J<|k9 ?_;refine cN h (λhc h=>?_) λhc h=>?_
  .refine c7 ?_;refine jq h (λj25=>St.of [(1,.fn (.func 84) []),(5,.sl 20),(8,.L b8.Pv a0),(9,.I (a0.length:Int)),(10,.I s17)] [(20,⟨List.map b8.Pv j25,(List.map b8.Pv j25).length,true,7,true⟩)]) (λj25 h=>?_) λκ24 h=>?_
   .refine S6 2 J ?_;exact eL h (Wk.trans (m8 _ [20]) (WP (λl=>if l=910005 then 20 else l)))
   .refine k8 ?_;refine sR<|iL h J J A6 u6 λv26 _ h=>S2 3 J<|S3 2 J<|cA h lE J J λv27 _ h=>yN ?_;refine cN h (λhc h=>?_) λhc h=>?_
    .refine S5 2 J ?_;refine y0 J (I3 (f:=b8.Pv) (l:=[v26]) J A6 u6 ae J J nl J J)<|y4 h λv28 hv21 h=>I7 J (I2 (f:=b8.Pv) hv21 J J J J J J (.inl ⟨_,J,J⟩) A6 u6 ml ae J (λ_=>J)) J J J<|S2 1 J ?_;exact eJ h (Wk.trans (m8 _ [20]) W)
    .refine c7 ?_;exact eJ h (Wk.trans (m8 _ [910005]) (WP (λl=>if l=20 then 910005 else l)))
  .refine o6 ?_;refine g6<|g6<|l7 ?_;have h:=xL hx14 h;exact eJ h (Wk.trans (m8 _ [910005]) W)
theorem yt{a0}:PO Tryz.prog 58 [a8.Pv a0] (kE a0) λr=>.fn (.func 111) [.rptr (a8.Pc r)]:=by
 refine pO Tryz.func58 λr h _ _=>?_;unfold kE at h;refine S4 2 J<|S4 2 J<|c5 ?_;cases h;exact f1
theorem rv{a0}:PO Tryz.prog 113 [g7.Pv a0] (iq a0) λr=>.I r:=by
 refine pO Tryz.func113 λr h _ _=>?_;unfold iq at h;refine S4 2 J<|S4 3 J<|c5 ?_;cases h;exact f1
theorem U6{a0}:PO Tryz.prog 112 [.L g7.Pv a0,.fn (.func 113) []] (B4 a0) λr=>.L iF r:=by
 refine pO Tryz.func112 λr h _ _=>?_;refine S4 1 J<|S4 1 J ?_;refine jq h (λj10=>St.of [(5,.sl 910005)] [(910005,⟨List.map iF j10,(List.map iF j10).length,true,1,true⟩)]) (λj10 h=>?_) λκ9 h=>?_
 .refine S4 2 J ?_;refine c5 ?_;cases h;exact f1
 .refine S3 1 J ?_;refine nL J L9<|S2 1 J<|k8<|lq h (λq=>St.of [(1,.fn (.func 113) []),(5,.sl 910005),(8,.L g7.Pv a0),(9,.I (a0.length:Int)),(10,.I q.1)] [(910005,⟨List.map iF q.2,(List.map iF q.2).length,true,1,true⟩)]) (Wk.trans (F8 (t:=5) (l:=920005) (z:=1) J J) (WP (λl=>if l=910005 then 920005 else l))) λq15 x14 h hx10=>?_;obtain⟨s12,s13⟩:=q15;refine S4 1 J<|k9 ?_;refine cN h (λhc h=>?_) λhc h=>?_
  .refine c7 ?_;refine k9<|k8<|sR<|iL h J J L9 T3 λv16 _ h=>S2 3 J<|S5 3 J<|cA h rv J J λv17 _ h=>y0 J (I3 (f:=iF) (l:=[v17]) J l6 o5 B6 J J nl J J)<|y4 h λv18 hv13 h=>I7 J (I2 (f:=iF) hv13 J J J J J J (.inl ⟨_,J,J⟩) l6 o5 P2 B6 J (λ_=>J)) J J J<|S2 1 J<|S6 2 J ?_;exact eL h (Wk.trans (m8 _ [19]) (WP (λl=>if l=910005 then 19 else l)))
  .refine o6 ?_;refine g6<|g6<|l7 ?_;have h:=xL hx10 h;exact eJ h (Wk.trans (m8 _ [910005]) W)
theorem ve{a0}:PO Tryz.prog 61 [b8.Pv a0] (kW a0) λr=>.bool r:=by
 refine pO Tryz.func61 λr h _ _=>?_;unfold kW at h;refine S4 2 J<|S4 3 J<|c5 ?_;cases h;exact f1
theorem L8{a0}:PO Tryz.prog 60 [.L b8.Pv a0,.fn (.func 61) []] (A8 a0) λr=>.L b8.Pv r:=by
 refine pO Tryz.func60 λr h _ _=>?_;refine S4 1 J<|S4 1 J ?_;refine jq h (λj15=>St.of [(5,.sl 910005)] [(910005,⟨List.map b8.Pv j15,(List.map b8.Pv j15).length,true,7,true⟩)]) (λj15 h=>?_) λκ14 h=>?_
 .refine S4 2 J ?_;refine c5 ?_;cases h;exact f1
 .refine S3 1 J ?_;refine nL J A6<|S2 1 J<|k8<|lq h (λq=>St.of [(1,.fn (.func 61) []),(5,.sl 910005),(8,.L b8.Pv a0),(9,.I (a0.length:Int)),(10,.I q.1)] [(910005,⟨List.map b8.Pv q.2,(List.map b8.Pv q.2).length,true,7,true⟩)]) (Wk.trans (F8 (t:=5) (l:=920005) (z:=7) J J) (WP (λl=>if l=910005 then 920005 else l))) λq20 x19 h hx14=>?_;obtain⟨s17,s18⟩:=q20;refine S4 1 J<|k9 ?_;refine cN h (λhc h=>?_) λhc h=>?_
  .refine c7 ?_;refine jq h (λj25=>St.of [(1,.fn (.func 61) []),(5,.sl 20),(8,.L b8.Pv a0),(9,.I (a0.length:Int)),(10,.I s17)] [(20,⟨List.map b8.Pv j25,(List.map b8.Pv j25).length,true,7,true⟩)]) (λj25 h=>?_) λκ24 h=>?_
   .refine S6 2 J ?_;exact eL h (Wk.trans (m8 _ [20]) (WP (λl=>if l=910005 then 20 else l)))
   .refine k8 ?_;refine sR<|iL h J J A6 u6 λv26 _ h=>S2 3 J<|S3 2 J<|cA h ve J J λv27 _ h=>yN ?_;refine cN h (λhc h=>?_) λhc h=>?_
    .refine S5 2 J ?_;refine y0 J (I3 (f:=b8.Pv) (l:=[v26]) J A6 u6 ae J J nl J J)<|y4 h λv28 hv21 h=>I7 J (I2 (f:=b8.Pv) hv21 J J J J J J (.inl ⟨_,J,J⟩) A6 u6 ml ae J (λ_=>J)) J J J<|S2 1 J ?_;exact eJ h (Wk.trans (m8 _ [20]) W)
    .refine c7 ?_;exact eJ h (Wk.trans (m8 _ [910005]) (WP (λl=>if l=20 then 910005 else l)))
  .refine o6 ?_;refine g6<|g6<|l7 ?_;have h:=xL hx14 h;exact eJ h (Wk.trans (m8 _ [910005]) W)
theorem jD{a0 a1}:PO Tryz.prog 21 [a8.Pv a0,.I a1] (bF a0 a1) λr=>.I r:=by
 refine pO Tryz.func21 λr h _ _=>?_;refine S4 3 J<|S4 2 J ?_;refine jq h (λj33=>St.of [(5,.ptr 2001 0 0)] [(2001,vR (.I j33) 1)]) (λj33 h=>?_) λκ32 h=>?_
 .refine S4 2 J ?_;refine c5 ?_;cases h;exact f1
 .refine S3 1 J ?_;refine cF h yt J J λv34 _ h=>yN<|k8<|bK (rR (λl=>if l=2003 then 5 else if l=2004 then 3 else l) [(3,.ptr 2004 0 0),(5,.ptr 2003 0 0),(8,.fn (.func 111) [.rptr (a8.Pc v34)])] [(2003,vR (.I 0) 1),(2004,vR (.I a1) 1)]) ?_;refine bJ (fn:=Tryz.f111) (N1:=43) J Tryz.func111 J J nl J OZ J J (λl33 e34 o35 hR36=>?_);refine dr [] s6 (by kernel_rfl) (by kernel_rfl)<|S7 4 J<|y4 h λv35 hv37 h=>eE J (u7 J U6 J hv37) J<|S7 1 J<|y4 h λv36 hv38 h=>eE J (u7 J cm J hv38) J<|y4 h λv37 hv39 h=>eE J (u7 J ug J hv39) J<|VU J (I3 (f:=(Ls iF)) (l:=[v34.Roots,v35,v37]) J aW bx xw J J nl J J) J<|S8 1 J ?_;refine jq h (λj47=>St.of [(1000003,.ptr 2004 0 0),(1000005,.ptr 2003 0 0),(1000008,.fn (.func 111) [.rptr (a8.Pc v34)]),(0,.fn (.yield l33) []),(3,.sl 910003)] [(910003,⟨List.map (Ls iF) j47,(List.map (Ls iF) j47).length,true,1,true⟩),(2003,vR (.I 0) 1),(2004,vR (.I a1) 1)]) (λj47 h=>?_) λκ46 h=>?_
  .refine S3 1 J ?_;obtain⟨v48,hv47,h⟩:=sf h;refine JE J (u7 J de J hv47) J<|nL J l6<|S2 1 J<|k8<|lq h (λq=>St.of [(1000003,.ptr 2004 0 0),(1000005,.ptr 2003 0 0),(1000008,.fn (.func 111) [.rptr (a8.Pc v34)]),(0,.fn (.yield l33) []),(32,.L iF v48),(33,.I (v48.length:Int)),(34,.I q.1)] [(2003,vR (.I q.2) 1),(2004,vR (.I a1) 1)]) W λq53 x52 h hx50=>?_;obtain⟨s50,s51⟩:=q53;refine S4 1 J<|k9 ?_;refine cN h (λhc h=>?_) λhc h=>?_
   .refine c7 ?_;refine k9<|k8<|sR<|iL h J J l6 o5 λv54 _ h=>S2 2 J<|S3 2 J<|N9 (WE [(1000003,.ptr 2004 0 0),(1000005,.ptr 2003 0 0),(1000008,.fn (.func 111) [.rptr (a8.Pc v34)]),(0,.fn (.yield l33) []),(32,.L iF v48),(33,.I (v48.length:Int)),(34,.I s50),(38,.fn (.yield l33) []),(39,.I v54)] [(2003,vR (.I s51) 1),(2004,vR (.I a1) 1)]) ?_;refine iX hR36 J J J J J J (λe52 o53 o54=>?_);refine S6 1 J ?_;refine⟨J,?_⟩;refine Xt h (λj56=>St.of [(2000003,.ptr 2004 0 0),(2000005,.ptr 2003 0 0),(2000008,.fn (.func 111) [.rptr (a8.Pc v34)]),(1000000,.fn (.yield l33) []),(1000032,.L iF v48),(1000033,.I (v48.length:Int)),(1000034,.I s50),(1000038,.fn (.yield l33) []),(1000039,.I v54)] [(2003,vR (.I j56) 1),(2004,vR (.I a1) 1)]) (λj56 h=>?_) λκ55 h=>?_
    .refine⟨J,?_⟩;refine N9 (WE [(1000003,.ptr 2004 0 0),(1000005,.ptr 2003 0 0),(1000008,.fn (.func 111) [.rptr (a8.Pc v34)]),(0,.fn (.yield l33) []),(32,.L iF v48),(33,.I (v48.length:Int)),(34,.I s50),(40,.bool true)] [(2003,vR (.I j56) 1),(2004,vR (.I a1) 1)])<|S2 1 J ?_;refine G5 false J (λq=>nomatch q) (λ_=>?_);refine c7<|S6 2 J ?_;exact eL h W
    .refine k8 ?_;refine S3 3 J<|m9 J (λhg=>mI J)<|m9 J (λhg=>oS J J J K2 J)<|m9 J (λhg=>D7 (ct hg) (ct hg) J)<|y0 J (D1 J J J (λq=>kp q))<|yN ?_;refine cN h (λhc h=>?_) λhc h=>?_
     .refine S6 3 J ?_;exact eJ h W
     .refine c7 ?_;exact eJ h W
   .refine o6 ?_;refine g6<|g6<|l7 ?_;refine .inl ⟨J,?_⟩;have h:=xL hx50 h;exact eJ h (WP (λl=>if l=2001 then 2003 else l))
  .refine S3 2 J ?_;refine cF h L8 J J λv57 _ h=>nL J A6<|S2 1 J<|k8<|lq h (λq=>St.of [(1000003,.ptr 2004 0 0),(1000005,.ptr 2003 0 0),(1000008,.fn (.func 111) [.rptr (a8.Pc v34)]),(0,.fn (.yield l33) []),(3,.sl 910003),(19,.L b8.Pv v57),(20,.I (v57.length:Int)),(21,.I q.1)] [(2003,vR (.I 0) 1),(2004,vR (.I a1) 1),(910003,⟨List.map (Ls iF) q.2,(List.map (Ls iF) q.2).length,true,1,true⟩)]) (Wk.trans (OJ (f:=(Ls iF)) (t:=3) (l:=920003) (z:=1) J J (λ_=>J)) (WP (λl=>if l=910003 then 920003 else l))) λq62 x61 h hx59=>?_;obtain⟨s59,s60⟩:=q62;refine S4 1 J<|k9 ?_;refine cN h (λhc h=>?_) λhc h=>?_
   .refine c7 ?_;refine k9<|k8<|sR<|iL h J J A6 u6 λv63 _ h=>S2 3 J<|S5 3 J<|y0 J (I3 (f:=(Ls iF)) (l:=[v63.Fields]) J aW bx xw J J nl J J)<|y4 h λv64 hv61 h=>I7 J (I2 (f:=(Ls iF)) hv61 J J J J J J (.inl ⟨_,J,J⟩) aW bx Ta xw J (λ_=>J)) J J J<|S2 1 J<|S6 2 J ?_;exact eL h (Wk.trans (m8 _ [29]) (WP (λl=>if l=910003 then 29 else l)))
   .refine o6 ?_;refine g6<|g6<|l7 ?_;have h:=xL hx59 h;exact eJ h (Wk.trans (m8 _ [910003]) W)
theorem A9{a0}:OP Tryz.prog 181 [.L b8.Pv a0] (p8 a0) λr=>⟨List.map b8.Pv r,0,true,7,true⟩:=by
 refine SH Tryz.func181 λr h _ _=>?_;unfold p8 at h;refine S4 1 J<|k9<|S3 1 J<|uz J A6 λb hb=>yN ?_;refine G5 b J (λhc=>?_) (λhc=>?_)
 .obtain rfl:a0 = []:=by simpa using hb hc
  refine S4 1 J<|bK (F8 (t:=2) (l:=920000) (z:=7) J J)<|c5 ?_;cases h;exact⟨J,_,_,J,J,J,J⟩
 .refine c7 ?_;refine sR<|y0 J (jF J A6 u6)<|S1 1 J<|y1 J (yv (f:=b8.Pv) h J J (.inl ⟨_,J,J⟩) A6 u6 ml ae J (λ_=>J)) J<|S2 1 J<|c5 ?_;exact⟨J,_,_,J,J,J,J⟩
theorem wv{a0}:PO Tryz.prog 263 [b8.Pv a0] (mY a0) λr=>b8.Pv r:=by
 refine pO Tryz.func263 λr h _ _=>?_;unfold mY at h;refine S4 2 J<|S4 2 J<|S4 2 J<|c5 ?_;cases h;exact⟨J,[_],⟨oL J J J gn u6 nl J,tr⟩,J,io⟩
theorem fS{a0 a1}:PO Tryz.prog 154 [a8.Pv a0,.I a1,.fn (.func 263) []] (Q5 a0 a1) λr=>a8.Pv r:=by
 refine pO Tryz.func154 λr h _ _=>?_;refine S4 2 J<|S3 2 J<|cA h Q9 J J λv1 _ h=>S2 1 J<|S3 2 J<|y4 h λv2 hv2 h=>JF J (gT J A9 J hv2) J J<|S2 2 J<|dr [] s6 (by kernel_rfl) (by kernel_rfl)<|S7 7 J<|y4 h λv3 hv3 h=>d0 J (aJ (f:=b8.Pv) hv3 J J J J A6 u6 J) J<|d0 J (IP (f:=b8.Pv) (cs:=b8.Pc v3) hv3 J J J gn u6 nl J) J<|y4 h λv4 hv4 h=>eE J (u7 J wv J hv4) J<|d0 J (aJ (f:=b8.Pv) hv3 J J J J A6 u6 J) J<|Ie (f:=b8.Pv) (v:=v4) hv3 J J (.inr J) u6<|K5<|S4 2 J<|c5 ?_;cases h;exact⟨J,[_],⟨oL J J J z8 u9 nl J,tr⟩,J,io⟩
theorem gz{a0 a1}:PO Tryz.prog 153 [a8.Pv a0,.I a1] (dF a0 a1) λr=>a8.Pv r:=by
 refine pO Tryz.func153 λr h _ _=>?_;refine S4 2 J<|k9<|S3 2 J<|cA h jD J J λv1 _ h=>S2 1 J ?_;refine cN h (λhc h=>?_) λhc h=>?_
 .refine S4 2 J ?_;refine c5 ?_;cases h;exact⟨J,[_],⟨oL J J J z8 u9 nl J,tr⟩,J,io⟩
 .refine c7 ?_;refine S3 2 J<|cF h fS J J λv2 _ h=>S2 1 J<|c5 ?_;cases h;exact⟨J,[_],⟨oL J J J z8 u9 nl J,tr⟩,J,io⟩
theorem rB{a0}:PO Tryz.prog 155 [b8.Pv a0] (iw a0) λr=>b8.Pv r:=by
 refine pO Tryz.func155 λr h _ _=>?_;unfold iw at h;refine S4 2 J<|S4 2 J<|S4 2 J<|c5 ?_;cases h;exact⟨J,[_],⟨oL J J J gn u6 nl J,tr⟩,J,io⟩
theorem ee{a0 a1}:PO Tryz.prog 154 [a8.Pv a0,.I a1,.fn (.func 155) []] (M6 a0 a1) λr=>a8.Pv r:=by
 refine pO Tryz.func154 λr h _ _=>?_;refine S4 2 J<|S3 2 J<|cA h Q9 J J λv1 _ h=>S2 1 J<|S3 2 J<|y4 h λv2 hv2 h=>JF J (gT J A9 J hv2) J J<|S2 2 J<|dr [] s6 (by kernel_rfl) (by kernel_rfl)<|S7 7 J<|y4 h λv3 hv3 h=>d0 J (aJ (f:=b8.Pv) hv3 J J J J A6 u6 J) J<|d0 J (IP (f:=b8.Pv) (cs:=b8.Pc v3) hv3 J J J gn u6 nl J) J<|y4 h λv4 hv4 h=>eE J (u7 J rB J hv4) J<|d0 J (aJ (f:=b8.Pv) hv3 J J J J A6 u6 J) J<|Ie (f:=b8.Pv) (v:=v4) hv3 J J (.inr J) u6<|K5<|S4 2 J<|c5 ?_;cases h;exact⟨J,[_],⟨oL J J J z8 u9 nl J,tr⟩,J,io⟩
theorem cP{a0}:OP Tryz.prog 156 [.L e6.Pv a0] (G2 a0) λr=>⟨List.map e6.Pv r,0,true,3,true⟩:=by
 refine SH Tryz.func156 λr h _ _=>?_;unfold G2 at h;refine S4 1 J<|k9<|S3 1 J<|uz J H9 λb hb=>yN ?_;refine G5 b J (λhc=>?_) (λhc=>?_)
 .obtain rfl:a0 = []:=by simpa using hb hc
  refine S4 1 J<|bK (F8 (t:=2) (l:=920000) (z:=3) J J)<|c5 ?_;cases h;exact⟨J,_,_,J,J,J,J⟩
 .refine c7 ?_;refine sR<|y0 J (jF J H9 C3)<|S1 1 J<|y1 J (yv (f:=e6.Pv) h J J (.inl ⟨_,J,J⟩) H9 C3 mn af J (λ_=>J)) J<|S2 1 J<|c5 ?_;exact⟨J,_,_,J,J,J,J⟩
theorem lF{a0 a1}:PO Tryz.prog 85 [a8.Pv a0,.I a1] (aQ a0 a1) λr=>a8.Pv r:=by
 refine pO Tryz.func85 λr h _ _=>?_;refine S4 2 J<|S3 2 J<|cF h gz J J λv1 _ h=>S2 1 J<|dr [] s6 (by kernel_rfl) (by kernel_rfl)<|S7 4 J<|y4 h λv2 hv2 h=>d2 J (S9 J Q9 J hv2) J<|y4 h λv3 hv3 h=>d0 J (O6 (f:=b8.Pv) (cs:=b8.Pc v3) hv3 J J A6 u6 J J) J<|S8 3 J<|S3 2 J<|cF h ee J J λv4 _ h=>S2 1 J<|S3 2 J<|y4 h λv5 hv5 h=>JF J (gT J cP J hv5) J J<|S1 2 J<|y0 J (p6 (cs:=[.I 1,.I a1,.I v3.Prog]) J rY af J J J)<|y0 J (I3 (f:=e6.Pv) (l:=[(⟨1,a1,v3.Prog⟩:e6)]) J H9 C3 af J J nl J J)<|y4 h λv6 hv6 h=>I7 J (I2 (f:=e6.Pv) hv6 J J J J J J (.inl ⟨_,J,J⟩) H9 C3 mn af J (λ_=>J)) J J J<|S2 2 J<|S4 2 J<|c5 ?_;cases h;exact⟨J,[_],⟨oL J J J z8 u9 nl J,tr⟩,J,io⟩
theorem dX{a0 a1}:PO Tryz.prog 179 [.L iF a0,.I a1] (H0 a0 a1) λr=>.I r:=by
 refine pO Tryz.func179 λr h _ _=>?_;refine S4 1 J ?_;refine jq h (λ_=>St.of [] []) (λq6 h=>?_) λκ5 h=>?_
 .refine S4 1 J ?_;refine c5 ?_;cases h;exact f1
 .refine S3 1 J ?_;refine nL J l6<|S2 1 J<|k8<|lq h (λs8=>St.of [(0,.L iF a0),(1,.I a1),(7,.I (a0.length:Int)),(8,.I s8)] []) W λs8 x9 h hx8=>S4 1 J<|k9 ?_;refine cN h (λhc h=>?_) λhc h=>?_
  .refine c7 ?_;refine k9<|k8<|S4 2 J<|S3 3 J<|iL h J J l6 o5 λv10 _ h=>S2 2 J ?_;refine cN h (λhc h=>?_) λhc h=>?_
   .refine S4 2 J ?_;refine c5 ?_;have h:=xL hx8 h;cases h;exact f1
   .refine c7 ?_;refine S6 2 J ?_;exact eL h W
  .refine o6 ?_;refine g6<|g6<|l7 ?_;have h:=xL hx8 h;exact eJ h W
theorem L1{a0 a1}:PO Tryz.prog 165 [.L iF a0,.I a1] (E2 a0 a1) λr=>.bool r:=by
 refine pO Tryz.func165 λr h _ _=>?_;refine S4 1 J<|S3 2 J<|cA h dX J J λv1 _ h=>S2 2 J<|c5 ?_;cases h;exact f1
theorem wI{a0 a1}:PO Tryz.prog 265 [k7.Pv a0,.rptr [.L iF a1]] (cv a0 a1) λr=>.bool r:=by
 refine pO Tryz.func265 λr h _ _=>?_;unfold cv at h;refine S4 2 J<|S3 3 J<|m9 J (λhg=>oF J uE J)<|m9 J (λhg=>oS (ct hg) J J K2 J)<|m9 J (λhg=>D7 (ct hg) J J)<|y0 J (D1 J J J (λq=>kp q))<|S1 1 J<|m9 J (λhg=>U9 J mh J)<|m9 J (λhg=>oF J uE J)<|m9 J (λhg=>oS (ct hg) J J K2 J)<|y4 h λv1 hv1 h=>m9 J (λhg=>S9 J L1 (aE (ct hg) (aE (ct hg) J)) (br hv1 hg))<|y0 J (D1 J J J (λq=>kp q))<|S2 1 J<|c5 ?_;cases h;exact f1
theorem iC{a0 a1}:PO Tryz.prog 264 [.L k7.Pv a0,.fn (.func 265) [.rptr [.L iF a1]]] (M2 a0 a1) λr=>.L iF r:=by
 refine pO Tryz.func264 λr h _ _=>?_;refine S4 1 J<|S4 1 J ?_;refine jq h (λj15=>St.of [(5,.sl 910005)] [(910005,⟨List.map iF j15,(List.map iF j15).length,true,1,true⟩)]) (λj15 h=>?_) λκ14 h=>?_
 .refine S4 2 J ?_;refine c5 ?_;cases h;exact f1
 .refine S3 1 J ?_;refine nL J T7<|S2 1 J<|k8<|lq h (λq=>St.of [(1,.fn (.func 265) [.rptr [.L iF a1]]),(5,.sl 910005),(8,.L k7.Pv a0),(9,.I (a0.length:Int)),(10,.I q.1)] [(910005,⟨List.map iF q.2,(List.map iF q.2).length,true,1,true⟩)]) (Wk.trans (F8 (t:=5) (l:=920005) (z:=1) J J) (WP (λl=>if l=910005 then 920005 else l))) λq20 x19 h hx14=>?_;obtain⟨s17,s18⟩:=q20;refine S4 1 J<|k9 ?_;refine cN h (λhc h=>?_) λhc h=>?_
  .refine c7 ?_;refine jq h (λj25=>St.of [(1,.fn (.func 265) [.rptr [.L iF a1]]),(5,.sl 21),(8,.L k7.Pv a0),(9,.I (a0.length:Int)),(10,.I s17)] [(21,⟨List.map iF j25,(List.map iF j25).length,true,1,true⟩)]) (λj25 h=>?_) λκ24 h=>?_
   .refine S6 2 J ?_;exact eL h (Wk.trans (m8 _ [21]) (WP (λl=>if l=910005 then 21 else l)))
   .refine k8 ?_;refine S3 1 J<|iL h J J T7 X5 λv26 _ h=>S2 4 J<|S3 2 J<|cA h wI J J λv27 _ h=>yN ?_;refine cN h (λhc h=>?_) λhc h=>?_
    .refine S5 2 J ?_;refine y0 J (I3 (f:=iF) (l:=[s17]) J l6 o5 B6 J J nl J J)<|y4 h λv28 hv21 h=>I7 J (I2 (f:=iF) hv21 J J J J J J (.inl ⟨_,J,J⟩) l6 o5 P2 B6 J (λ_=>J)) J J J<|S2 1 J ?_;exact eJ h (Wk.trans (m8 _ [21]) W)
    .refine c7 ?_;exact eJ h (Wk.trans (m8 _ [910005]) (WP (λl=>if l=21 then 910005 else l)))
  .refine o6 ?_;refine g6<|g6<|l7 ?_;have h:=xL hx14 h;exact eJ h (Wk.trans (m8 _ [910005]) W)
theorem nR{a0}:OP Tryz.prog 266 [.L k7.Pv a0] (bR a0) λr=>⟨List.map k7.Pv r,0,true,3,true⟩:=by
 refine SH Tryz.func266 λr h _ _=>?_;unfold bR at h;refine S4 1 J<|S3 1 J<|nL J T7<|y4 h λv1 hv1 h=>y1 J (AJ (f:=k7.Pv) hv1 J J J T7 X5 Ca HA J J J) J<|S2 1 J<|S3 2 J<|y4 h λv2 hv2 h=>Xh (f:=k7.Pv) hv2 J J J (.inl ⟨_,J,J⟩) T7 X5 (λ_=>J) (by decide)<|yN<|S4 2 J<|c5 ?_;cases h;exact⟨J,_,_,J,J,J,J⟩
theorem qU{a0 a1}:PO Tryz.prog 159 [.L k7.Pv a0,.L iF a1] (gk a0 a1) λr=>.tup [.L k7.Pv r.1,.L iF r.2]:=by
 refine pO Tryz.func159 λr h _ _=>?_;unfold gk at h;refine S4 3 J<|S3 2 J<|y4 h λv1 hv1 h=>JE J (u7 J iC J hv1) J<|S2 1 J<|S3 1 J<|y4 h λv2 hv2 h=>JF J (gT J nR J hv2) J J<|S2 1 J<|S4 1 J ?_;refine jq h (λq=>St.of [(7,.sl 15),(8,.sl 910008)] [(910008,⟨List.map iF q.1,(List.map iF q.1).length,true,1,true⟩),(15,⟨List.map k7.Pv q.2,0,true,3,true⟩)]) (λq24 h=>?_) λκ21 h=>?_
 .obtain⟨j22,j23⟩:=q24;refine S4 4 J<|c5 ?_;cases h;exact f2
 .refine S3 1 J ?_;refine nL J l6<|S2 1 J<|k8<|lq h (λq=>St.of [(7,.sl 15),(8,.sl 910008),(16,.L iF v1),(17,.I (v1.length:Int)),(18,.I q.1)] [(15,⟨List.map k7.Pv q.2.1,0,true,3,true⟩),(910008,⟨List.map iF q.2.2,(List.map iF q.2.2).length,true,1,true⟩)]) (Wk.trans (F8 (t:=8) (l:=920008) (z:=1) J J) (WP (λl=>if l=910008 then 920008 else l))) λq30 x29 h hx18=>?_;obtain⟨s26,s27,s28⟩:=q30;refine S4 1 J<|k9 ?_;refine cN h (λhc h=>?_) λhc h=>?_
  .refine c7 ?_;refine jq h (λq=>St.of [(7,.sl 15),(8,.sl 35),(16,.L iF v1),(17,.I (v1.length:Int)),(18,.I s26)] [(35,⟨List.map iF q.1,(List.map iF q.1).length,true,1,true⟩),(15,⟨List.map k7.Pv q.2,0,true,3,true⟩)]) (λq38 h=>?_) λκ35 h=>?_
   .obtain⟨j36,j37⟩:=q38;refine S6 2 J ?_;exact eL h (Wk.trans (m8 _ [35]) (WP (λl=>if l=910008 then 35 else l)))
   .refine k8 ?_;refine sR<|iL h J J l6 o5 λv39 _ h=>S2 2 J<|S3 2 J<|y4 h λv40 hv25 h=>y0 J (aJ (f:=k7.Pv) hv25 J J J J T7 X5 J)<|S1 1 J<|nU (f:=k7.Pv) (v:=(⟨v40.Target,false,v40.Call⟩:k7)) hv25 J J (.inl J) VP<|yN<|S3 2 J<|y4 h λv41 hv26 h=>y0 J (aJ (f:=k7.Pv) hv26 J J J J T7 X5 J)<|S1 1 J<|y0 J (EL (f:=k7.Pv) hv26 J J J K2 J)<|S2 1 J ?_;refine cN h (λhc h=>?_) λhc h=>?_
    .refine S5 2 J ?_;refine y0 J (I3 (f:=iF) (l:=[v39]) J l6 o5 B6 J J nl J J)<|y4 h λv42 hv27 h=>I7 J (I2 (f:=iF) hv27 J J J J J J (.inl ⟨_,J,J⟩) l6 o5 P2 B6 J (λ_=>J)) J J J<|S2 1 J ?_;exact eJ h (Wk.trans (m8 _ [35]) W)
    .refine c7 ?_;exact eJ h (Wk.trans (m8 _ [910008]) (WP (λl=>if l=35 then 910008 else l)))
  .refine o6 ?_;refine g6<|g6<|l7 ?_;have h:=xL hx18 h;exact eJ h (Wk.trans (m8 _ [910008]) W)
theorem tE{a0 a1}:PO Tryz.prog 161 [.I a0,.rptr [.L k7.Pv a1]] (eW a0 a1) λr=>e6.Pv r:=by
 refine pO Tryz.func161 λr h _ _=>?_;refine S4 1 J<|S3 3 J<|iL h J J T7 X5 λv1 _ h=>S1 2 J<|y0 J (p6 (cs:=[.I 2,.I a0,.I v1.Call]) J rY af J J J)<|S2 1 J<|c5 ?_;cases h;exact⟨J,[_],⟨oL J J J bS C3 nl J,tr⟩,J,io⟩
theorem W9{a0 a1}:PO Tryz.prog 160 [.L iF a0,.fn (.func 161) [.rptr [.L k7.Pv a1]]] (B7 a0 a1) λr=>.L e6.Pv r:=by
 refine pO Tryz.func160 λr h _ _=>?_;refine S4 1 J<|S4 1 J ?_;refine jq h (λj10=>St.of [(5,.sl 910005)] [(910005,⟨List.map e6.Pv j10,(List.map e6.Pv j10).length,true,3,true⟩)]) (λj10 h=>?_) λκ9 h=>?_
 .refine S4 2 J ?_;refine c5 ?_;cases h;exact f1
 .refine S3 1 J ?_;refine nL J l6<|S2 1 J<|k8<|lq h (λq=>St.of [(1,.fn (.func 161) [.rptr [.L k7.Pv a1]]),(5,.sl 910005),(8,.L iF a0),(9,.I (a0.length:Int)),(10,.I q.1)] [(910005,⟨List.map e6.Pv q.2,(List.map e6.Pv q.2).length,true,3,true⟩)]) (Wk.trans (F8 (t:=5) (l:=920005) (z:=3) J J) (WP (λl=>if l=910005 then 920005 else l))) λq15 x14 h hx10=>?_;obtain⟨s12,s13⟩:=q15;refine S4 1 J<|k9 ?_;refine cN h (λhc h=>?_) λhc h=>?_
  .refine c7 ?_;refine k9<|k8<|sR<|iL h J J l6 o5 λv16 _ h=>S2 2 J<|S5 3 J<|cA h tE J J λv17 _ h=>y0 J (I3 (f:=e6.Pv) (l:=[v17]) J H9 C3 af J J nl J J)<|y4 h λv18 hv13 h=>I7 J (I2 (f:=e6.Pv) hv13 J J J J J J (.inl ⟨_,J,J⟩) H9 C3 mn af J (λ_=>J)) J J J<|S2 1 J<|S6 2 J ?_;exact eL h (Wk.trans (m8 _ [19]) (WP (λl=>if l=910005 then 19 else l)))
  .refine o6 ?_;refine g6<|g6<|l7 ?_;have h:=xL hx10 h;exact eJ h (Wk.trans (m8 _ [910005]) W)
theorem cQ{a0}:PO Tryz.prog 162 [.L (Ls e6.Pv) a0] (F2 a0) λr=>.L e6.Pv r:=by
 refine pO Tryz.func162 λr h _ _=>?_;refine S4 1 J<|S4 1 J ?_;refine jq h (λj11=>St.of [(0,.L (Ls e6.Pv) a0),(3,.I j11)] []) (λj11 h=>?_) λκ10 h=>?_
 .refine S3 1 J ?_;refine N9 (WE [(0,.L (Ls e6.Pv) a0),(23,.I j11)] []) ?_;refine uA (fn:=Tryz.f267) (N1:=27) J J Tryz.func267 J Ph J J nl (λe8 o9=>?_);refine S4 1 J ?_;refine jq h (λ_=>St.of [(1000000,.L (Ls e6.Pv) a0),(1000023,.I j11),(0,.nl),(1,.I j11)] []) (λq13 h=>?_) λκ12 h=>?_
  .refine k9 ?_;refine S3 2 J<|JD J J H9<|S1 1 J<|nL (f:=e6.Pv) (xs:=[]) J H9<|S2 3 J<|S4 2 J ?_;refine cN h (λhc h=>?_) λhc h=>?_
   .refine S5 2 J ?_;refine JD J J H9<|y0 J (xc (t':=true) (xs:=[]) (ys:=[]) J H9 C3 (λ_ q=>nomatch q) J ⟨_,J⟩ J (λq=>nomatch q) (zG _) (zV _) (zG _) J J)<|S1 1 J<|y4 h λv14 hv11 h=>SS (f:=e6.Pv) J hv11 J nl J J H9 H8 C3 nl af mn J J J<|S1 1 J<|nL (f:=e6.Pv) (xs:=[]) J H9<|OL [(1000000,.L (Ls e6.Pv) a0),(1000023,.I j11),(0,.nl),(1,.I (w7 (j11-(w7 (0-0))))),(8,.I j11),(9,.nl),(10,.I 0),(11,.nl),(12,.I 0),(13,.I (w7 (0-0))),(14,.I (w7 (j11-(w7 (0-0))))),(15,.I (w7 (j11-(w7 (0-0))))),(16,.bool (decide ((w7 (j11-(w7 (0-0)))) > 0))),(17,.nl),(18,.nl),(19,.I 0),(20,.nl),(21,.I (w7 (j11-(w7 (0-0))))),(23,.nl),(24,.I 0)] [] J ⟨J,J,J,J,J,J,J,J,J,J,J,J,J,J,J,J,J,J,J,J,J,J,J,J,J,J,J,J,J,J,J,J,J,J,J,J,J,J,J,J,J,J,J,J,J,J,J,J,J,J,J,J,J,J,J,J,J,J,J,J,tr⟩ tr J J nl J J J H9 C3<|S2 1 J<|S4 2 J<|c5 ?_;refine⟨J,[.sl 25],⟨J,tr⟩,?_⟩;refine N9 (rR (λl=>if l=2001 then 25 else l) [(0,.L (Ls e6.Pv) a0),(24,.sl 2001)] [(2001,⟨List.map e6.Pv [],0,true,3,true⟩)])<|S2 1 J ?_;refine jq h (λj23=>St.of [(6,.sl 2001)] [(2001,⟨List.map e6.Pv j23,(List.map e6.Pv j23).length,true,3,true⟩)]) (λj23 h=>?_) λκ22 h=>?_
    .refine S4 2 J ?_;refine c5 ?_;cases h;exact f1
    .refine S3 1 J ?_;refine nL J mq<|S2 1 J<|k8<|lq h (λq=>St.of [(6,.sl 2001),(25,.L (Ls e6.Pv) a0),(26,.I (a0.length:Int)),(27,.I q.1)] [(2001,⟨List.map e6.Pv q.2,(List.map e6.Pv q.2).length,true,3,true⟩)]) (Wk.trans (m8 _ [2001]) W) λq28 x27 h hx20=>?_;obtain⟨s25,s26⟩:=q28;refine S4 1 J<|k9 ?_;refine cN h (λhc h=>?_) λhc h=>?_
     .refine c7 ?_;refine k9<|k8<|sR<|iL h J J mq uF λv29 _ h=>S2 2 J<|S5 2 J<|y4 h λv30 hv22 h=>I7 J (I2 (f:=e6.Pv) hv22 J J J J J J (.inl ⟨_,J,J⟩) H9 C3 mn af J (λ_=>J)) J J J<|S2 1 J<|S6 2 J ?_;exact eL h (Wk.trans (m8 _ [33]) (WP (λl=>if l=2001 then 33 else l)))
     .refine o6 ?_;refine g6<|g6<|l7 ?_;have h:=xL hx20 h;exact eJ h (Wk.trans (m8 _ [2001]) W)
   .refine c7 ?_;refine S4 2 J<|c5 ?_;refine⟨J,[.nl],⟨J,tr⟩,?_⟩;refine N9 (WE [(0,.L (Ls e6.Pv) a0),(24,.nl)] [])<|S2 1 J ?_;refine jq h (λj39=>St.of [(6,.sl 910006)] [(910006,⟨List.map e6.Pv j39,(List.map e6.Pv j39).length,true,3,true⟩)]) (λj39 h=>?_) λκ38 h=>?_
    .refine S4 2 J ?_;refine c5 ?_;cases h;exact f1
    .refine S3 1 J ?_;refine nL J mq<|S2 1 J<|k8<|lq h (λq=>St.of [(6,.sl 910006),(25,.L (Ls e6.Pv) a0),(26,.I (a0.length:Int)),(27,.I q.1)] [(910006,⟨List.map e6.Pv q.2,(List.map e6.Pv q.2).length,true,3,true⟩)]) (Wk.trans (F8 (t:=6) (l:=920006) (z:=3) J J) (WP (λl=>if l=910006 then 920006 else l))) λq44 x43 h hx31=>?_;obtain⟨s41,s42⟩:=q44;refine S4 1 J<|k9 ?_;refine cN h (λhc h=>?_) λhc h=>?_
     .refine c7 ?_;refine k9<|k8<|sR<|iL h J J mq uF λv45 _ h=>S2 2 J<|S5 2 J<|y4 h λv46 hv33 h=>I7 J (I2 (f:=e6.Pv) hv33 J J J J J J (.inl ⟨_,J,J⟩) H9 C3 mn af J (λ_=>J)) J J J<|S2 1 J<|S6 2 J ?_;exact eL h (Wk.trans (m8 _ [33]) (WP (λl=>if l=910006 then 33 else l)))
     .refine o6 ?_;refine g6<|g6<|l7 ?_;have h:=xL hx31 h;exact eJ h (Wk.trans (m8 _ [910006]) W)
  .refine S4 2 J ?_;refine cN h (λhc h=>?_) λhc h=>?_;·cases h
   .refine c7 ?_;exact eJ h W
 .refine S3 1 J ?_;refine nL J mq<|S2 1 J<|k8<|lq h (λq=>St.of [(0,.L (Ls e6.Pv) a0),(3,.I q.1),(9,.L (Ls e6.Pv) a0),(10,.I (a0.length:Int)),(11,.I q.2)] []) W λq51 x50 h hx36=>?_;obtain⟨s48,s49⟩:=q51;refine S4 1 J<|k9 ?_;refine cN h (λhc h=>?_) λhc h=>?_
  .refine c7 ?_;refine jq h (λj54=>St.of [(0,.L (Ls e6.Pv) a0),(3,.I j54),(9,.L (Ls e6.Pv) a0),(10,.I (a0.length:Int)),(11,.I s49)] []) (λj54 h=>?_) λκ53 h=>?_
   .refine S6 2 J ?_;exact eL h W
   .refine k8 ?_;refine sR<|iL h J J mq uF λv55 _ h=>S2 2 J<|S3 2 J<|nL J H9<|S2 2 J<|S4 2 J ?_;refine cN h (λhc h=>?_) λhc h=>?_;·cases h
    .refine c7 ?_;exact eJ h W
  .refine o6 ?_;refine g6<|g6<|l7 ?_;have h:=xL hx36 h;exact eJ h W
theorem tF{a0 a1}:PO Tryz.prog 164 [g7.Pv a0,.rptr [.L iF a1]] (eX a0 a1) λr=>.bool r:=by
 refine pO Tryz.func164 λr h _ _=>?_;refine S4 2 J<|S3 3 J<|cA h L1 J J λv1 _ h=>S2 2 J<|c5 ?_;cases h;exact f1
theorem ar{a0 a1}:PO Tryz.prog 163 [.L g7.Pv a0,.fn (.func 164) [.rptr [.L iF a1]]] (C7 a0 a1) λr=>.L g7.Pv r:=by
 refine pO Tryz.func163 λr h _ _=>?_;refine S4 1 J<|S4 1 J ?_;refine jq h (λj15=>St.of [(5,.sl 910005)] [(910005,⟨List.map g7.Pv j15,(List.map g7.Pv j15).length,true,2,true⟩)]) (λj15 h=>?_) λκ14 h=>?_
 .refine S4 2 J ?_;refine c5 ?_;cases h;exact f1
 .refine S3 1 J ?_;refine nL J L9<|S2 1 J<|k8<|lq h (λq=>St.of [(1,.fn (.func 164) [.rptr [.L iF a1]]),(5,.sl 910005),(8,.L g7.Pv a0),(9,.I (a0.length:Int)),(10,.I q.1)] [(910005,⟨List.map g7.Pv q.2,(List.map g7.Pv q.2).length,true,2,true⟩)]) (Wk.trans (F8 (t:=5) (l:=920005) (z:=2) J J) (WP (λl=>if l=910005 then 920005 else l))) λq20 x19 h hx14=>?_;obtain⟨s17,s18⟩:=q20;refine S4 1 J<|k9 ?_;refine cN h (λhc h=>?_) λhc h=>?_
  .refine c7 ?_;refine jq h (λj25=>St.of [(1,.fn (.func 164) [.rptr [.L iF a1]]),(5,.sl 20),(8,.L g7.Pv a0),(9,.I (a0.length:Int)),(10,.I s17)] [(20,⟨List.map g7.Pv j25,(List.map g7.Pv j25).length,true,2,true⟩)]) (λj25 h=>?_) λκ24 h=>?_
   .refine S6 2 J ?_;exact eL h (Wk.trans (m8 _ [20]) (WP (λl=>if l=910005 then 20 else l)))
   .refine k8 ?_;refine sR<|iL h J J L9 T3 λv26 _ h=>S2 3 J<|S3 2 J<|cA h tF J J λv27 _ h=>yN ?_;refine cN h (λhc h=>?_) λhc h=>?_
    .refine S5 2 J ?_;refine y0 J (I3 (f:=g7.Pv) (l:=[v26]) J L9 T3 ah J J nl J J)<|y4 h λv28 hv21 h=>I7 J (I2 (f:=g7.Pv) hv21 J J J J J J (.inl ⟨_,J,J⟩) L9 T3 pF ah J (λ_=>J)) J J J<|S2 1 J ?_;exact eJ h (Wk.trans (m8 _ [20]) W)
    .refine c7 ?_;exact eJ h (Wk.trans (m8 _ [910005]) (WP (λl=>if l=20 then 910005 else l)))
  .refine o6 ?_;refine g6<|g6<|l7 ?_;have h:=xL hx14 h;exact eJ h (Wk.trans (m8 _ [910005]) W)
theorem tG{a0}:PO Tryz.prog 166 [b8.Pv a0] (jE a0) λr=>b8.Pv r:=by
 refine pO Tryz.func166 λr h _ _=>?_;unfold jE at h;refine S4 2 J<|S3 3 J<|kM (x':=.agg [.I a0.Serial,.I a0.Slot,.I a0.Prog,.bool a0.Started,.bool false,.bool a0.Stuck,.nl]) (cl':=true) J J (.inl J) bx<|yN<|S3 1 J<|kM (x':=.agg [.I a0.Serial,.I a0.Slot,.I a0.Prog,.bool a0.Started,.bool false,.bool a0.Stuck,.nl]) (cl':=true) J J (.inl J) u6<|yN<|c5 ?_;cases h;exact⟨J,[_],⟨oL J J J gn u6 nl J,tr⟩,J,io⟩
theorem eY{a0 a1}:PO Tryz.prog 154 [a8.Pv a0,.I a1,.fn (.func 166) []] (C6 a0 a1) λr=>a8.Pv r:=by
 refine pO Tryz.func154 λr h _ _=>?_;refine S4 2 J<|S3 2 J<|cA h Q9 J J λv1 _ h=>S2 1 J<|S3 2 J<|y4 h λv2 hv2 h=>JF J (gT J A9 J hv2) J J<|S2 2 J<|dr [] s6 (by kernel_rfl) (by kernel_rfl)<|S7 7 J<|y4 h λv3 hv3 h=>d0 J (aJ (f:=b8.Pv) hv3 J J J J A6 u6 J) J<|d0 J (IP (f:=b8.Pv) (cs:=b8.Pc v3) hv3 J J J gn u6 nl J) J<|y4 h λv4 hv4 h=>eE J (u7 J tG J hv4) J<|d0 J (aJ (f:=b8.Pv) hv3 J J J J A6 u6 J) J<|Ie (f:=b8.Pv) (v:=v4) hv3 J J (.inr J) u6<|K5<|S4 2 J<|c5 ?_;cases h;exact⟨J,[_],⟨oL J J J z8 u9 nl J,tr⟩,J,io⟩
theorem vD{a0 a1}:PO Tryz.prog 315 [k7.Pv a0,.rptr [.I a1]] (gF a0 a1) λr=>.bool r:=by
 refine pO Tryz.func315 λr h _ _=>?_;unfold gF at h;refine S4 2 J<|S3 3 J<|m9 J (λhg=>oF J uE J)<|m9 J (λhg=>oS (ct hg) J J K2 J)<|m9 J (λhg=>U9 J K2 J)<|m9 J (λhg=>D7 (ct hg) (ct hg) J)<|y0 J (D1 J J J (λq=>kp q))<|S2 1 J<|c5 ?_;cases h;exact f1
theorem gZ{a0 a1}:PO Tryz.prog 264 [.L k7.Pv a0,.fn (.func 315) [.rptr [.I a1]]] (T2 a0 a1) λr=>.L iF r:=by
 refine pO Tryz.func264 λr h _ _=>?_;refine S4 1 J<|S4 1 J ?_;refine jq h (λj15=>St.of [(5,.sl 910005)] [(910005,⟨List.map iF j15,(List.map iF j15).length,true,1,true⟩)]) (λj15 h=>?_) λκ14 h=>?_
 .refine S4 2 J ?_;refine c5 ?_;cases h;exact f1
 .refine S3 1 J ?_;refine nL J T7<|S2 1 J<|k8<|lq h (λq=>St.of [(1,.fn (.func 315) [.rptr [.I a1]]),(5,.sl 910005),(8,.L k7.Pv a0),(9,.I (a0.length:Int)),(10,.I q.1)] [(910005,⟨List.map iF q.2,(List.map iF q.2).length,true,1,true⟩)]) (Wk.trans (F8 (t:=5) (l:=920005) (z:=1) J J) (WP (λl=>if l=910005 then 920005 else l))) λq20 x19 h hx14=>?_;obtain⟨s17,s18⟩:=q20;refine S4 1 J<|k9 ?_;refine cN h (λhc h=>?_) λhc h=>?_
  .refine c7 ?_;refine jq h (λj25=>St.of [(1,.fn (.func 315) [.rptr [.I a1]]),(5,.sl 21),(8,.L k7.Pv a0),(9,.I (a0.length:Int)),(10,.I s17)] [(21,⟨List.map iF j25,(List.map iF j25).length,true,1,true⟩)]) (λj25 h=>?_) λκ24 h=>?_
   .refine S6 2 J ?_;exact eL h (Wk.trans (m8 _ [21]) (WP (λl=>if l=910005 then 21 else l)))
   .refine k8 ?_;refine S3 1 J<|iL h J J T7 X5 λv26 _ h=>S2 4 J<|S3 2 J<|cA h vD J J λv27 _ h=>yN ?_;refine cN h (λhc h=>?_) λhc h=>?_
    .refine S5 2 J ?_;refine y0 J (I3 (f:=iF) (l:=[s17]) J l6 o5 B6 J J nl J J)<|y4 h λv28 hv21 h=>I7 J (I2 (f:=iF) hv21 J J J J J J (.inl ⟨_,J,J⟩) l6 o5 P2 B6 J (λ_=>J)) J J J<|S2 1 J ?_;exact eJ h (Wk.trans (m8 _ [21]) W)
    .refine c7 ?_;exact eJ h (Wk.trans (m8 _ [910005]) (WP (λl=>if l=21 then 910005 else l)))
  .refine o6 ?_;refine g6<|g6<|l7 ?_;have h:=xL hx14 h;exact eJ h (Wk.trans (m8 _ [910005]) W)
theorem Aj{a0 a1}:PO Tryz.prog 268 [.L k7.Pv a0,.I a1] (dZ a0 a1) λr=>.I r:=by
 refine pO Tryz.func268 λr h _ _=>?_;unfold dZ at h;refine S4 2 J<|S3 2 J<|y4 h λv1 hv1 h=>JE J (u7 J gZ J hv1) J<|nL J l6<|S2 1 J<|c5 ?_;cases h;exact f1
theorem qn{a0 a1}:PO Tryz.prog 269 [b8.Pv a0,.rptr [.I a1]] (cd a0 a1) λr=>.bool r:=by
 refine pO Tryz.func269 λr h _ _=>?_;unfold cd at h;refine S4 2 J<|S4 5 J<|c5 ?_;cases h;exact f1
theorem Y8{a0 a1}:PO Tryz.prog 60 [.L b8.Pv a0,.fn (.func 269) [.rptr [.I a1]]] (C2 a0 a1) λr=>.L b8.Pv r:=by
 refine pO Tryz.func60 λr h _ _=>?_;refine S4 1 J<|S4 1 J ?_;refine jq h (λj15=>St.of [(5,.sl 910005)] [(910005,⟨List.map b8.Pv j15,(List.map b8.Pv j15).length,true,7,true⟩)]) (λj15 h=>?_) λκ14 h=>?_
 .refine S4 2 J ?_;refine c5 ?_;cases h;exact f1
 .refine S3 1 J ?_;refine nL J A6<|S2 1 J<|k8<|lq h (λq=>St.of [(1,.fn (.func 269) [.rptr [.I a1]]),(5,.sl 910005),(8,.L b8.Pv a0),(9,.I (a0.length:Int)),(10,.I q.1)] [(910005,⟨List.map b8.Pv q.2,(List.map b8.Pv q.2).length,true,7,true⟩)]) (Wk.trans (F8 (t:=5) (l:=920005) (z:=7) J J) (WP (λl=>if l=910005 then 920005 else l))) λq20 x19 h hx14=>?_;obtain⟨s17,s18⟩:=q20;refine S4 1 J<|k9 ?_;refine cN h (λhc h=>?_) λhc h=>?_
  .refine c7 ?_;refine jq h (λj25=>St.of [(1,.fn (.func 269) [.rptr [.I a1]]),(5,.sl 20),(8,.L b8.Pv a0),(9,.I (a0.length:Int)),(10,.I s17)] [(20,⟨List.map b8.Pv j25,(List.map b8.Pv j25).length,true,7,true⟩)]) (λj25 h=>?_) λκ24 h=>?_
   .refine S6 2 J ?_;exact eL h (Wk.trans (m8 _ [20]) (WP (λl=>if l=910005 then 20 else l)))
   .refine k8 ?_;refine sR<|iL h J J A6 u6 λv26 _ h=>S2 3 J<|S3 2 J<|cA h qn J J λv27 _ h=>yN ?_;refine cN h (λhc h=>?_) λhc h=>?_
    .refine S5 2 J ?_;refine y0 J (I3 (f:=b8.Pv) (l:=[v26]) J A6 u6 ae J J nl J J)<|y4 h λv28 hv21 h=>I7 J (I2 (f:=b8.Pv) hv21 J J J J J J (.inl ⟨_,J,J⟩) A6 u6 ml ae J (λ_=>J)) J J J<|S2 1 J ?_;exact eJ h (Wk.trans (m8 _ [20]) W)
    .refine c7 ?_;exact eJ h (Wk.trans (m8 _ [910005]) (WP (λl=>if l=20 then 910005 else l)))
  .refine o6 ?_;refine g6<|g6<|l7 ?_;have h:=xL hx14 h;exact eJ h (Wk.trans (m8 _ [910005]) W)
theorem I6{a0}:OP Tryz.prog 180 [.L iF a0] (y5 a0) λr=>⟨List.map iF r,0,true,1,true⟩:=by
 refine SH Tryz.func180 λr h _ _=>?_;unfold y5 at h;refine S4 1 J<|k9<|S3 1 J<|uz J l6 λb hb=>yN ?_;refine G5 b J (λhc=>?_) (λhc=>?_)
 .obtain rfl:a0 = []:=by simpa using hb hc
  refine S4 1 J<|bK (F8 (t:=2) (l:=920000) (z:=1) J J)<|c5 ?_;cases h;exact⟨J,_,_,J,J,J,J⟩
 .refine c7 ?_;refine sR<|y0 J (jF J l6 o5)<|S1 1 J<|y1 J (yv (f:=iF) h J J (.inl ⟨_,J,J⟩) l6 o5 P2 B6 J (λ_=>J)) J<|S2 1 J<|c5 ?_;exact⟨J,_,_,J,J,J,J⟩
theorem kG{a0 a1}:PO Tryz.prog 167 [a8.Pv a0,.I a1] (O4 a0 a1) λr=>a8.Pv r:=by
 refine pO Tryz.func167 λr h _ _=>?_;refine S4 3 J<|S3 2 J<|cA h Q9 J J λv1 _ h=>S2 1 J<|k9<|S3 3 J<|m9 J (λhg=>oF J Lk J)<|m9 J (λhg=>oS (ct hg) J J SW J)<|m9 J (λhg=>mI J)<|y4 h λv2 hv2 h=>m9 J (λhg=>O6 (f:=b8.Pv) (cs:=b8.Pc v2) (br hv2 hg) (ct hg) (ct hg) A6 u6 J J)<|m9 J (λhg=>aw (ct hg) AU J)<|m9 J (λhg=>U9 (ct hg) qx J)<|y0 J (P5 J J J (λq=>pM q))<|S1 1 J<|m9 J (λhg=>oF J DO J)<|m9 J (λhg=>oS (ct hg) J J FV J)<|m9 J (λhg=>oS J J J K2 J)<|y4 h λv3 hv3 h=>m9 J (λhg=>S9 J Aj (aE (ct hg) (aE (ct hg) J)) (br hv3 hg))<|m9 J (λhg=>D7 (ct hg) J J)<|y0 J (P5 J J J (λq=>pM q))<|yN ?_;refine cN h (λhc h=>?_) λhc h=>?_
 .refine S4 2 J ?_;refine c5 ?_;cases h;exact⟨J,[_],⟨oL J J J z8 u9 nl J,tr⟩,J,io⟩
 .refine c7 ?_;refine S3 3 J<|iL h J J A6 u6 λv4 _ h=>S2 3 J<|S3 3 J<|y4 h λv5 hv5 h=>JE J (u7 J Y8 J hv5) J<|S2 2 J<|dr [] s6 (by kernel_rfl) (by kernel_rfl)<|S7 2 J<|y4 h λv6 hv6 h=>XG J (gT J I6 J hv6) J J J<|S7 2 J<|y4 h λv7 hv7 h=>XG J (gT J I6 J hv7) J J J<|S7 1 J<|C9 (x':=.agg [.L b8.Pv v5,.sl 41,.L iF a0.Gens,.I a0.Last,.I a0.Places,.I a0.Serial,.L iF a0.Roots,.L k7.Pv a0.b7,.L g7.Pv a0.Pairs,.L e6.Pv a0.Tasks,.L (Ls g8.Pv) a0.Progs]) (cl':=false) J J (.inl J) bx<|S7 1 J<|C9 (x':=.agg [.L b8.Pv v5,.sl 41,.sl 44,.I a0.Last,.I a0.Places,.I a0.Serial,.L iF a0.Roots,.L k7.Pv a0.b7,.L g7.Pv a0.Pairs,.L e6.Pv a0.Tasks,.L (Ls g8.Pv) a0.Progs]) (cl':=false) J J (.inl J) bx<|K5<|k9<|dr [] s6 (by kernel_rfl) (by kernel_rfl)<|S7 3 J<|y4 h λv8 hv8 h=>d0 J (aJ (f:=iF) hv8 J J J J l6 o5 J) J<|d0 J (EL (f:=iF) hv8 J J J K2 J) J<|S8 3 J ?_;refine cN h (λhc h=>?_) λhc h=>?_
  .refine S3 3 J ?_;obtain⟨v9,hv9,h⟩:=sf h;refine y0 J (aJ (f:=iF) hv9 J J J J l6 o5 J)<|nU (f:=iF) (v:=(-1)) hv9 J J (.inl J) o5<|yN<|S4 2 J<|c5 ?_;cases h;exact⟨J,[_],⟨oL J J J z8 u9 nl J,tr⟩,J,io⟩
  .refine c7 ?_;refine S3 3 J<|y4 h λv10 hv10 h=>y0 J (aJ (f:=iF) hv10 J J J J l6 o5 J)<|nU (f:=iF) (v:=0) hv10 J J (.inl J) o5<|yN<|S3 3 J<|y0 J (aJ (f:=iF) hv8 J J J J l6 o5 J)<|y0 J (EL (f:=iF) hv8 J J J K2 J)<|S1 1 J<|y0 J (aJ (f:=iF) hv8 J J J J l6 o5 J)<|nU (f:=iF) (v:=w7 (v8+1)) hv8 J J (.inl J) o5<|yN<|S4 2 J<|c5 ?_;cases h;exact⟨J,[_],⟨oL J J J z8 u9 nl J,tr⟩,J,io⟩
theorem nK{a0 a1}:PO Tryz.prog 87 [a8.Pv a0,.L iF a1] (eV a0 a1) λr=>a8.Pv r:=by
 refine pO Tryz.func87 λr h _ _=>?_;refine S4 3 J<|S3 3 J<|cF h qU J J λv1 _ h=>S2 6 J<|S4 3 J<|S3 2 J<|y4 h λv2 hv2 h=>JE J (u7 J W9 J hv2) J<|S2 1 J<|S3 3 J<|y0 J (I3 (f:=(Ls e6.Pv)) (l:=[a0.Tasks,v2]) J mq uF Tf J J nl J J)<|cF h cQ J J λv3 _ h=>S2 2 J<|S3 3 J<|y4 h λv4 hv4 h=>JE J (u7 J ar J hv4) J<|S2 2 J ?_;refine jq h (λj14=>St.of [(2,.ptr 2 0 0),(4,.ptr 4 0 0)] [(4,vR (.agg [.nl,.nl,.nl,.I 0,.I 0,.I 0,.nl,.nl,.nl,.nl,.nl]) 11),(2,vR (a8.Pv j14) 11)]) (λj14 h=>?_) λκ13 h=>?_
 .refine S4 2 J ?_;refine c5 ?_;cases h;exact⟨J,[_],⟨oL J J J z8 u9 nl J,tr⟩,J,io⟩
 .refine S3 1 J ?_;refine nL J l6<|S2 1 J<|k8<|lq h (λq=>St.of [(2,.ptr 2 0 0),(4,.ptr 4 0 0),(33,.L iF a1),(34,.I (a1.length:Int)),(35,.I q.1)] [(4,vR (.agg [.nl,.nl,.nl,.I 0,.I 0,.I 0,.nl,.nl,.nl,.nl,.nl]) 11),(2,vR (a8.Pv q.2) 11)]) W λq19 x18 h hx14=>?_;obtain⟨s16,s17⟩:=q19;refine S4 1 J<|k9 ?_;refine cN h (λhc h=>?_) λhc h=>?_
  .refine c7 ?_;refine k9<|k8<|sR<|iL h J J l6 o5 λv20 _ h=>S2 2 J<|S3 2 J<|cF h eY J J λv21 _ h=>S2 1 J<|S5 2 J<|cF h kG J J λv22 _ h=>S2 1 J<|S6 2 J ?_;exact eL h W
  .refine o6 ?_;refine g6<|g6<|l7 ?_;have h:=xL hx14 h;exact eJ h W
theorem rA{a0 a1}:PO Tryz.prog 158 [b8.Pv a0,.rptr (a8.Pc a1)] (aI a0 a1) λr=>.bool r:=by
 refine pO Tryz.func158 λr h _ _=>?_;unfold aI at h;refine S4 2 J<|S3 3 J<|m9 J (λhg=>oF J AV J)<|m9 J (λhg=>oS (ct hg) J J qx J)<|m9 J (λhg=>dT (ct hg) J)<|y0 J (D1 J J J (λq=>kp q))<|S1 1 J<|m9 J (λhg=>EM J z8 u9 nl J)<|m9 J (λhg=>oF J AT J)<|m9 J (λhg=>oS (ct hg) J J K2 J)<|y4 h λv1 hv1 h=>m9 J (λhg=>S9 J jD (aE (ct hg) (aE (ct hg) J)) (br hv1 hg))<|m9 J (λhg=>D7 (ct hg) J J)<|y0 J (D1 J J J (λq=>kp q))<|S2 1 J<|c5 ?_;cases h;exact f1
theorem M9{a0 a1}:PO Tryz.prog 157 [.L b8.Pv a0,.fn (.func 158) [.rptr (a8.Pc a1)]] (w8 a0 a1) λr=>.I r:=by
 refine pO Tryz.func157 λr h _ _=>?_;refine S4 1 J ?_;refine jq h (λ_=>St.of [] []) (λq7 h=>?_) λκ6 h=>?_
 .refine S4 1 J ?_;refine c5 ?_;cases h;exact f1
 .refine S3 1 J ?_;refine nL J A6<|S2 1 J<|k8<|lq h (λs9=>St.of [(0,.L b8.Pv a0),(1,.fn (.func 158) [.rptr (a8.Pc a1)]),(7,.I (a0.length:Int)),(8,.I s9)] []) W λs9 x10 h hx9=>S4 1 J<|k9 ?_;refine cN h (λhc h=>?_) λhc h=>?_
  .refine c7 ?_;refine k9<|k8<|S4 2 J<|S3 3 J<|iL h J J A6 u6 λv11 _ h=>S1 1 J<|cA h rA J J λv12 _ h=>yN ?_;refine cN h (λhc h=>?_) λhc h=>?_
   .refine S4 2 J ?_;refine c5 ?_;have h:=xL hx9 h;cases h;exact f1
   .refine c7 ?_;refine S6 2 J ?_;exact eL h W
  .refine o6 ?_;refine g6<|g6<|l7 ?_;have h:=xL hx9 h;exact eJ h W
theorem M7{a0}:PO Tryz.prog 86 [a8.Pv a0] (H3 a0) λr=>a8.Pv r:=by
 refine pO Tryz.func86 λr h _ _=>?_;refine S4 2 J<|k8<|lq h (λs2=>St.of [(1,.ptr 1 0 0),(2,.ptr 2 0 0)] [(2,vR (.agg [.nl,.nl,.nl,.I 0,.I 0,.I 0,.nl,.nl,.nl,.nl,.nl]) 11),(1,vR (a8.Pv s2) 11)]) W λs2 x3 h hx3=>k8<|S3 3 J<|cA h M9 J J λv4 _ h=>S2 1 J<|k9<|S4 2 J ?_;refine cN h (λhc h=>?_) λhc h=>?_
 .refine S4 2 J ?_;refine c5 ?_;have h:=xL hx3 h;cases h;exact⟨J,[_],⟨oL J J J z8 u9 nl J,tr⟩,J,io⟩
 .refine c7 ?_;refine S3 3 J<|iL h J J A6 u6 λv5 _ h=>S2 3 J<|S3 1 J<|cA h lE J J λv6 _ h=>yN ?_;refine cN h (λhc h=>?_) λhc h=>?_
  .refine S5 3 J ?_;refine cF h lF J J λv7 _ h=>S2 1 J ?_;exact eL h W
  .refine S5 3 J ?_;refine y0 J (I3 (f:=iF) (l:=[v5.Serial]) J l6 o5 B6 J J nl J J)<|cF h nK J J λv8 _ h=>S2 1 J ?_;exact eL h W
theorem jC{a0}:PO Tryz.prog 24 [a8.Pv a0] (dS a0) λr=>.L iF r:=by
 refine pO Tryz.func24 λr h _ _=>?_;refine S4 2 J<|S3 2 J<|cF h L8 J J λv1 _ h=>cF h cg J J λv2 _ h=>S2 1 J<|c5 ?_;cases h;exact f1
theorem ru{a0}:PO Tryz.prog 51 [a8.Pv a0] (dp a0) λr=>.tup [a8.Pv r.1,g9.Pv r.2]:=by
 refine pO Tryz.func51 λr h _ _=>?_;refine S4 3 J<|S3 1 J<|cF h vf J J λv1 _ h=>S2 2 J<|S3 3 J<|y4 h λv2 hv2 h=>JE J (u7 J X0 J hv2) J<|S2 1 J<|S3 1 J<|cF h aH J J λv3 _ h=>cF h cg J J λv4 _ h=>S2 1 J ?_;refine jq h (λj13=>St.of [(1,.ptr 1 0 0),(2,.ptr 2 0 0),(3,.ptr 3 0 0),(5,.L b8.Pv v2),(6,.L iF v4)] [(3,vR (.agg [.I 0,.I 0]) 2),(2,vR (.agg [.nl,.nl,.nl,.I 0,.I 0,.I 0,.nl,.nl,.nl,.nl,.nl]) 11),(1,vR (a8.Pv j13) 11)]) (λj13 h=>?_) λκ12 h=>?_
 .refine k9 ?_;refine S3 1 J<|nL J l6<|S2 1 J ?_;refine cN h (λhc h=>?_) λhc h=>?_
  .refine S3 2 J ?_;refine nL J l6<|y0 J (.neg _ _ _ _ J)<|y0 J (p6 (cs:=[.I (w7 (0-(v4.length:Int))),.I 0]) J aY T8 J J J)<|S2 2 J<|c5 ?_;cases h;exact⟨J,[_,_],⟨oL J J J z8 u9 nl J,⟨oL J J J G7 A7 nl J,tr⟩⟩,J,io⟩
  .refine c7 ?_;refine dr [] s6 (by kernel_rfl) (by kernel_rfl)<|S7 2 J<|y4 h λv14 hv11 h=>eE J (u7 J cg J hv11) J<|y4 h λv15 hv12 h=>eE J (u7 J nK J hv12) J<|y4 h λv16 hv13 h=>eE J (u7 J M7 J hv13) J<|S7 1 J<|C9 (x':=a8.Pv v16) (cl':=true) J J (.inr J) u9<|K5<|dr [3,6] s6 (by kernel_rfl) (by kernel_rfl)<|S7 2 J<|y4 h λv17 hv14 h=>eE J (u7 J jC J hv14) J<|d7 J (λ_ hN=>bI (f:=iF) J l6) J<|S7 1 J<|y4 h λv18 hv15 h=>eE J (u7 J jC J hv15) J<|d7 J (λ_ hN=>bI (f:=iF) J l6) J<|S7 1 J<|d7 J (λ_ hN=>p6 (cs:=[.I (w7 ((v17.length:Int)-(v18.length:Int))),.I 0]) J aY T8 J J J) J<|C9 (x':=a8.Pv v16) (cl':=true) J J (.inr J) u9<|C9 (x':=.agg [.I (w7 ((v17.length:Int)-(v18.length:Int))),.I 0]) (cl':=true) J J (.inl J) A7<|K5<|c5 ?_;cases h;exact⟨J,[_,_],⟨oL J J J z8 u9 nl J,⟨oL J J J G7 A7 nl J,tr⟩⟩,J,io⟩
 .refine S3 1 J ?_;refine nL J l6<|S2 1 J<|k8<|lq h (λq=>St.of [(1,.ptr 1 0 0),(2,.ptr 2 0 0),(3,.ptr 3 0 0),(5,.L b8.Pv v2),(6,.L iF v4),(19,.L iF v4),(20,.I (v4.length:Int)),(21,.I q.1)] [(3,vR (.agg [.I 0,.I 0]) 2),(2,vR (.agg [.nl,.nl,.nl,.I 0,.I 0,.I 0,.nl,.nl,.nl,.nl,.nl]) 11),(1,vR (a8.Pv q.2) 11)]) W λq23 x22 h hx18=>?_;obtain⟨s20,s21⟩:=q23;refine S4 1 J<|k9 ?_;refine cN h (λhc h=>?_) λhc h=>?_
  .refine c7 ?_;refine k9<|k8<|sR<|iL h J J l6 o5 λv24 _ h=>S2 2 J<|S5 2 J<|cF h lF J J λv25 _ h=>S2 1 J<|S6 2 J ?_;exact eL h W
  .refine o6 ?_;refine g6<|g6<|l7 ?_;have h:=xL hx18 h;exact eJ h W
theorem kS{a0 a1}:PO Tryz.prog 168 [.L (Ls g8.Pv) a0,.I a1] (dx a0 a1) λr=>.L g8.Pv r:=by
 refine pO Tryz.func168 λr h _ _=>?_;refine S4 1 J<|k9<|S3 3 J<|m9 J (λhg=>mI J)<|m9 J (λhg=>om (d:=.L (Ls g8.Pv) a0) J)<|m9 J (λhg=>bI (f:=(Ls g8.Pv)) (ct hg) mo)<|m9 J (λhg=>D7 (ct hg) (ct hg) J)<|y0 J (P5 J J J (λq=>pM q))<|yN ?_;refine cN h (λhc h=>?_) λhc h=>?_
 .refine S4 1 J ?_;refine c5 ?_;cases h;exact f1
 .refine c7 ?_;refine S3 2 J<|iL h J J mo wN λv1 _ h=>S2 2 J<|c5 ?_;cases h;exact f1
theorem qD{a0 a1}:PO Tryz.prog 88 [.L (Ls g8.Pv) a0,e6.Pv a1] (bC a0 a1) λr=>.I r:=by
 refine pO Tryz.func88 λr h _ _=>?_;refine S4 2 J<|S3 3 J<|cF h kS J J λv1 _ h=>nL J gp<|S2 2 J<|c5 ?_;cases h;exact f1
theorem iu{a0 a1 a2}:PO Tryz.prog 169 [a8.Pv a0,.I a1,.I a2] (U8 a0 a1 a2) λr=>a8.Pv r:=by
 refine pO Tryz.func169 λr h _ _=>?_;refine S4 2 J<|S3 2 J<|cF h gz J J λv1 _ h=>S2 1 J<|S3 2 J<|y4 h λv2 hv2 h=>JF J (gT J I6 J hv2) J J<|S2 2 J<|S3 4 J<|y4 h λv3 hv3 h=>y0 J (aJ (f:=iF) hv3 J J J J l6 o5 J)<|nU (f:=iF) (v:=a2) hv3 J J (.inl J) o5<|yN<|S4 2 J<|c5 ?_;cases h;exact⟨J,[_],⟨oL J J J z8 u9 nl J,tr⟩,J,io⟩
theorem Q6{a0}:PO Tryz.prog 328 [j5.Pv a0] (L3 a0) λr=>.I r:=by
 refine pO Tryz.func328 λr h _ _=>?_;unfold L3 at h;refine S4 2 J<|S3 2 J<|nL J H9<|S2 1 J<|c5 ?_;cases h;exact f1
theorem Z1{a0 a1 a2}:PO Tryz.prog 329 [.L e6.Pv a0,.I a1,.I a2] (G8 a0 a1 a2) λr=>.lst true (List.map e6.Pv r):=by
 refine pO Tryz.func329 λr h _ _=>?_;unfold G8 at h;refine S4 1 J<|S3 4 J<|y4 h λv1 hv1 h=>y0 J (Nr (f:=e6.Pv) hv1 J ⟨_,J⟩ ⟨_,J⟩ ⟨_,J⟩ J J H9 C3 (λ_=>J))<|S2 1 J<|c5 ?_;cases h;exact f1
theorem kX{a0 a1}:PO Tryz.prog 316 [j5.Pv a0,.I a1] (bf a0 a1) λr=>.tup [j5.Pv r.1,.L e6.Pv r.2]:=by
 refine pO Tryz.func316 λr h _ _=>?_;refine S4 3 J<|S3 2 J<|cA h Q6 J J λv1 hv1 h=>y0 J (SG J J J)<|y0 J (Ns J J J)<|S2 1 J<|S3 3 J<|cF h Z1 J J λv2 _ h=>S2 1 J<|dr [] s6 (by kernel_rfl) (by kernel_rfl)<|S7 4 J<|d2 J (S9 J Q6 J hv1) J<|y4 h λv3 hv3 h=>eE J (u7 J Z1 J hv3) J<|S7 1 J<|C9 (x':=.agg [.L e6.Pv v3,.I a0.Cap]) (cl':=true) J J (.inr J) uF<|K5<|S4 4 J<|c5 ?_;cases h;exact⟨J,[_,_],⟨oL J J J jj cG nl J,⟨J,tr⟩⟩,J,io⟩
theorem nh{a0}:PO Tryz.prog 270 [j5.Pv a0] (cM a0) λr=>.tup [j5.Pv r.1,e6.Pv r.2.1,.I r.2.2]:=by
 refine pO Tryz.func270 λr h _ _=>?_;refine S4 4 J<|S3 1 J<|cF h kX J J λv1 _ h=>S2 6 J<|k9<|S3 1 J<|nL J H9<|S2 1 J ?_;refine cN h (λhc h=>?_) λhc h=>?_
 .refine S4 1 J ?_;refine dr [1,1007] s6 (by kernel_rfl) (by kernel_rfl)<|S7 1 J<|d7 J (λ_ hN=>mZ (cs:=[.I 0,.I 0,.I 0]) hN J J J J bS C3 nl J) J<|C9 (x':=j5.Pv a0) (cl':=true) J J (.inr J) cG<|C9 (x':=.agg [.I 0,.I 0,.I 0]) (cl':=true) J J (.inl J) C3<|S8 1 J<|c5 ?_;cases h;exact⟨J,[_,_,_],⟨oL J J J jj cG nl J,⟨oL J J J bS C3 nl J,⟨J,tr⟩⟩⟩,J,io⟩
 .refine c7 ?_;refine dr [2,3] s6 (by kernel_rfl) (by kernel_rfl)<|S7 2 J<|y4 h λv2 hv2 h=>d7 J (λ_ hN=>O6 (f:=e6.Pv) (cs:=e6.Pc v2) hv2 J J H9 C3 J J) J<|d7 J (λ_ hN=>EM J bS C3 nl J) J<|C9 (x':=j5.Pv v1.1) (cl':=true) J J (.inr J) cG<|C9 (x':=e6.Pv v2) (cl':=true) J J (.inl J) C3<|S8 1 J<|c5 ?_;cases h;exact⟨J,[_,_,_],⟨oL J J J jj cG nl J,⟨oL J J J bS C3 nl J,⟨J,tr⟩⟩⟩,J,io⟩
theorem iV{a0}:PO Tryz.prog 170 [j5.Pv a0] (aT a0) λr=>.tup [j5.Pv r.1,e6.Pv r.2.1,.I r.2.2]:=by
 refine pO Tryz.func170 λr h _ _=>?_;refine S4 4 J<|S3 1 J<|cF h nh J J λv1 _ h=>S2 6 J<|c5 ?_;cases h;exact⟨J,[_,_,_],⟨oL J J J jj cG nl J,⟨oL J J J bS C3 nl J,⟨J,tr⟩⟩⟩,J,io⟩
theorem da{a0 a1}:PO Tryz.prog 91 [a8.Pv a0,.I a1] (R9 a0 a1) λr=>.I r:=by
 refine pO Tryz.func91 λr h _ _=>?_;refine S4 2 J<|k9<|S4 2 J ?_;refine cN h (λhc h=>?_) λhc h=>?_
 .refine S4 1 J ?_;refine c5 ?_;cases h;exact f1
 .refine c7 ?_;refine S3 3 J<|iL h J J l6 o5 λv1 _ h=>S2 2 J<|c5 ?_;cases h;exact f1
theorem dq{a0 a1}:PO Tryz.prog 172 [a8.Pv a0,.I a1] (N8 a0 a1) λr=>.tup [b8.Pv r.1,.I r.2]:=by
 refine pO Tryz.func172 λr h _ _=>?_;refine S4 3 J<|k9<|S3 2 J<|cA h da J J λv1 hv1 h=>S2 1 J ?_;refine cN h (λhc h=>?_) λhc h=>?_
 .refine sR ?_;refine y0 J (p6 (cs:=[.I 0,.I 0,.I 0,.bool false,.bool false,.bool false,.nl]) J HJ ae J J J)<|kM (x':=.agg [.I 0,.I 0,.I 0,.bool false,.bool false,.bool false,.nl]) (cl':=true) J J (.inl J) u6<|S2 1 J<|c5 ?_;cases h;exact⟨J,[_,_],⟨oL J J J gn u6 nl J,⟨J,tr⟩⟩,J,io⟩
 .refine c7 ?_;refine dr [] s6 (by kernel_rfl) (by kernel_rfl)<|S7 5 J<|d2 J (S9 J da J hv1) J<|y4 h λv2 hv2 h=>d2 J (S9 J Q9 J hv2) J<|y4 h λv3 hv3 h=>d0 J (O6 (f:=b8.Pv) (cs:=b8.Pc v3) hv3 J J A6 u6 J J) J<|S7 1 J<|C9 (x':=b8.Pv v3) (cl':=true) J J (.inr J) u6<|S8 1 J<|c5 ?_;cases h;exact⟨J,[_,_],⟨oL J J J gn u6 nl J,⟨J,tr⟩⟩,J,io⟩
theorem Af{a0 a1}:PO Tryz.prog 271 [.L iF a0,.I a1] (gE a0 a1) λr=>.bool r:=by
 refine pO Tryz.func271 λr h _ _=>?_;unfold gE at h;refine S4 1 J<|S3 3 J<|m9 J (λhg=>mI J)<|m9 J (λhg=>om (d:=.L iF a0) J)<|m9 J (λhg=>bI (f:=iF) (ct hg) l6)<|m9 J (λhg=>D7 (ct hg) (ct hg) J)<|y0 J (D1 J J J (λq=>kp q))<|S2 1 J<|c5 ?_;cases h;exact f1
theorem vV{a0 a1 a2}:PO Tryz.prog 173 [.L iF a0,.I a1,.I a2] (lZ a0 a1 a2) λr=>.tup [.L iF r.1,.I r.2]:=by
 refine pO Tryz.func173 λr h _ _=>?_;refine S4 2 J<|k9<|S3 2 J<|cA h Af J J λv1 _ h=>S2 1 J ?_;refine cN h (λhc h=>?_) λhc h=>?_
 .refine S4 3 J ?_;refine c5 ?_;cases h;exact f2
 .refine c7 ?_;refine S3 1 J<|nL J l6<|y4 h λv2 hv2 h=>y1 J (AJ (f:=iF) hv2 J J J l6 o5 B6 P2 J J J) J<|S2 1 J<|S3 2 J<|y4 h λv3 hv3 h=>Xh (f:=iF) hv3 J J J (.inl ⟨_,J,J⟩) l6 o5 (λ_=>J) (by decide)<|yN<|S3 3 J<|y4 h λv4 hv4 h=>y0 J (aJ (f:=iF) hv4 J J J J l6 o5 J)<|nU (f:=iF) (v:=a2) hv4 J J (.inl J) o5<|yN<|S4 3 J<|c5 ?_;cases h;exact f2
theorem tI{a0 a1}:PO Tryz.prog 174 [b8.Pv a0,.rptr [.L iF a1]] (ff a0 a1) λr=>b8.Pv r:=by
 refine pO Tryz.func174 λr h _ _=>?_;unfold ff at h;refine S4 2 J<|S4 3 J<|S4 2 J<|c5 ?_;cases h;exact⟨J,[_],⟨oL J J J gn u6 nl J,tr⟩,J,io⟩
theorem eZ{a0 a1 a2}:PO Tryz.prog 154 [a8.Pv a0,.I a1,.fn (.func 174) [.rptr [.L iF a2]]] (O3 a0 a1 a2) λr=>a8.Pv r:=by
 refine pO Tryz.func154 λr h _ _=>?_;refine S4 2 J<|S3 2 J<|cA h Q9 J J λv1 _ h=>S2 1 J<|S3 2 J<|y4 h λv2 hv2 h=>JF J (gT J A9 J hv2) J J<|S2 2 J<|dr [] s6 (by kernel_rfl) (by kernel_rfl)<|S7 7 J<|y4 h λv3 hv3 h=>d0 J (aJ (f:=b8.Pv) hv3 J J J J A6 u6 J) J<|d0 J (IP (f:=b8.Pv) (cs:=b8.Pc v3) hv3 J J J gn u6 nl J) J<|y4 h λv4 hv4 h=>eE J (u7 J tI J hv4) J<|d0 J (aJ (f:=b8.Pv) hv3 J J J J A6 u6 J) J<|Ie (f:=b8.Pv) (v:=v4) hv3 J J (.inr J) u6<|K5<|S4 2 J<|c5 ?_;cases h;exact⟨J,[_],⟨oL J J J z8 u9 nl J,tr⟩,J,io⟩
theorem wA{a0 a1 a2}:PO Tryz.prog 92 [a8.Pv a0,.I a1,g8.Pv a2] (iN a0 a1 a2) λr=>.tup [a8.Pv r.1,.I r.2]:=by
 refine pO Tryz.func92 λr h _ _=>?_;refine S4 4 J<|S3 3 J<|cF h dq J J λv1 _ h=>S2 6 J<|k9<|S4 2 J ?_;refine cN h (λhc h=>?_) λhc h=>?_
 .refine S4 4 J ?_;refine c5 ?_;cases h;exact⟨J,[_,_],⟨oL J J J z8 u9 nl J,⟨J,tr⟩⟩,J,io⟩
 .refine c7 ?_;refine S3 5 J<|cF h vV J J λv2 _ h=>S2 6 J<|k9<|S4 2 J ?_;refine cN h (λhc h=>?_) λhc h=>?_
  .refine S4 4 J ?_;refine c5 ?_;cases h;exact⟨J,[_,_],⟨oL J J J z8 u9 nl J,⟨J,tr⟩⟩,J,io⟩
  .refine c7 ?_;refine S3 2 J<|cF h gz J J λv3 _ h=>S2 1 J<|S3 4 J<|y4 h λv4 hv4 h=>JE J (u7 J eZ J hv4) J<|S2 2 J<|c5 ?_;cases h;exact⟨J,[_,_],⟨oL J J J z8 u9 nl J,⟨J,tr⟩⟩,J,io⟩
theorem fV{a0 a1 a2}:PO Tryz.prog 90 [a8.Pv a0,.I a1,g8.Pv a2,.fn (.func 92) []] (J5 a0 a1 a2) λr=>.tup [a8.Pv r.1,g9.Pv r.2]:=by
 refine pO Tryz.func90 λr h _ _=>?_;refine S4 4 J<|S3 4 J<|cF h wA J J λv1 _ h=>S2 6 J<|k9<|S4 2 J ?_;refine cN h (λhc h=>?_) λhc h=>?_
 .refine S3 2 J ?_;refine y0 J (p6 (cs:=[.I 0,.I v1.2]) J aY T8 J J J)<|S2 2 J<|c5 ?_;cases h;exact⟨J,[_,_],⟨oL J J J z8 u9 nl J,⟨oL J J J G7 A7 nl J,tr⟩⟩,J,io⟩
 .refine c7 ?_;refine S3 1 J<|cF h M7 J J λv2 _ h=>S1 1 J<|y0 J (p6 (cs:=[.I a1,.I 0]) J aY T8 J J J)<|S2 2 J<|c5 ?_;cases h;exact⟨J,[_,_],⟨oL J J J z8 u9 nl J,⟨oL J J J G7 A7 nl J,tr⟩⟩,J,io⟩
end Go.Proofs.YtmgbbnfgfmfgaaaGreat.Ok
