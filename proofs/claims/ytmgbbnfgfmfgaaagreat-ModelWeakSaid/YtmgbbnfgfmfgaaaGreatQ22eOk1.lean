/- A part. -/
import Derived.Test.YtmgbbnfgfmfgaaaGreatQ22ePwC
import Derived.Test.YtmgbbnfgfmfgaaaGreatQ22ePwD
import Derived.Test.YtmgbbnfgfmfgaaaGreatSrt
import Derived.Test.YtmgbbnfgfmfgaaaGreatQ22eSh
import Derived.Test.YtmgbbnfgfmfgaaaGreatProg
set_option linter.unusedVariables false
set_option linter.unusedSimpArgs false
set_option linter.unusedSectionVars false
namespace Go.Proofs.YtmgbbnfgfmfgaaaGreat.Ok
open Go Go.Pw Go.Sh Go.Proofs
set_option maxRecDepth 100000
set_option maxHeartbeats 4000000
abbrev _root_.Go.Sh.j5.Pc(x:j5):List PV:=[.I x.Kind,.I x.A,.I x.B,.I x.C]
abbrev _root_.Go.Sh.j5.Pv(x:j5):PV:=.agg x.Pc
abbrev _root_.Go.Sh.b8.Pc(x:b8):List PV:=[.I x.Serial,.I x.Slot,.I x.Prog,.bool x.Started,.bool x.Alive,.bool x.Stuck,.L iF x.Fields]
abbrev _root_.Go.Sh.b8.Pv(x:b8):PV:=.agg x.Pc
abbrev _root_.Go.Sh.k9.Pc(x:k9):List PV:=[.I x.Target,.bool x.Intact,.I x.Call]
abbrev _root_.Go.Sh.k9.Pv(x:k9):PV:=.agg x.Pc
abbrev _root_.Go.Sh.k7.Pc(x:k7):List PV:=[.I x.Key,.I x.Val]
abbrev _root_.Go.Sh.k7.Pv(x:k7):PV:=.agg x.Pc
abbrev _root_.Go.Sh.g7.Pc(x:g7):List PV:=[.I x.Kind,.I x.At,.I x.Prog]
abbrev _root_.Go.Sh.g7.Pv(x:g7):PV:=.agg x.Pc
abbrev _root_.Go.Sh.n9.Pc(x:n9):List PV:=[.I x.Serial,.I x.Strong,.I x.Weak,.I x.Prog,.bool x.Started,.L iF x.Fields]
abbrev _root_.Go.Sh.n9.Pv(x:n9):PV:=.agg x.Pc
abbrev _root_.Go.Sh.c9.Pc(x:c9):List PV:=[.I x.State,.I x.Gen,.I x.Val.Serial,.I x.Val.Strong,.I x.Val.Weak,.I x.Val.Prog,.bool x.Val.Started,.L iF x.Val.Fields]
abbrev _root_.Go.Sh.c9.Pv(x:c9):PV:=.agg x.Pc
abbrev _root_.Go.Sh.g6.Pc(x:g6):List PV:=[.I x.State,.I x.Key,.I x.Val]
abbrev _root_.Go.Sh.g6.Pv(x:g6):PV:=.agg x.Pc
abbrev _root_.Go.Sh.l7.Pc(x:l7):List PV:=[sS x.part,.I x.least,.I x.most,.I x.e]
abbrev _root_.Go.Sh.l7.Pv(x:l7):PV:=.agg x.Pc
abbrev _root_.Go.Sh.l6.Pc(x:l6):List PV:=[.L c9.Pv x.b7,.I x.Last]
abbrev _root_.Go.Sh.l6.Pv(x:l6):PV:=.agg x.Pc
abbrev _root_.Go.Sh.b6.Pc(x:b6):List PV:=[.L c9.Pv x.S.b7,.I x.S.Last,.I x.Serial]
abbrev _root_.Go.Sh.b6.Pv(x:b6):PV:=.agg x.Pc
abbrev _root_.Go.Sh.k8.Pc(x:k8):List PV:=[.L g7.Pv x.L,.I x.Cap]
abbrev _root_.Go.Sh.k8.Pv(x:k8):PV:=.agg x.Pc
abbrev _root_.Go.Sh.b9.Pc(x:b9):List PV:=[.L c9.Pv x.S.S.b7,.I x.S.S.Last,.I x.S.Serial,.L iF x.Roots,.L k9.Pv x.b7,.L g6.Pv x.T,.L g7.Pv x.Q.L,.I x.Q.Cap]
abbrev _root_.Go.Sh.b9.Pv(x:b9):PV:=.agg x.Pc
abbrev _root_.Go.Sh.s6.Pc(x:s6):List PV:=[.L c9.Pv x.X.S.S.b7,.I x.X.S.S.Last,.I x.X.S.Serial,.L iF x.X.Roots,.L k9.Pv x.X.b7,.L g6.Pv x.X.T,.L g7.Pv x.X.Q.L,.I x.X.Q.Cap,.L (Ls j5.Pv) x.Progs]
abbrev _root_.Go.Sh.s6.Pv(x:s6):PV:=.agg x.Pc
abbrev _root_.Go.Sh.a8.Pc(x:a8):List PV:=[.L b8.Pv x.Nodes,.L iF x.Slots,.L iF x.Gens,.I x.Last,.I x.Places,.I x.Serial,.L iF x.Roots,.L k9.Pv x.b7,.L k7.Pv x.Pairs,.L g7.Pv x.Tasks,.L (Ls j5.Pv) x.Progs]
abbrev _root_.Go.Sh.a8.Pv(x:a8):PV:=.agg x.Pc
abbrev _root_.Go.Sh.g9.Pc(x:g9):List PV:=[.I x.V,.I x.E]
abbrev _root_.Go.Sh.g9.Pv(x:g9):PV:=.agg x.Pc
abbrev _root_.Go.Sh.e6.Pc(x:e6):List PV:=[.L iF x.L,.I x.Cap]
abbrev _root_.Go.Sh.e6.Pv(x:e6):PV:=.agg x.Pc
abbrev _root_.Go.Sh.r9.Pc(x:r9):List PV:=[.L c9.Pv x.x.S.S.b7,.I x.x.S.S.Last,.I x.x.S.Serial,.L iF x.x.Roots,.L k9.Pv x.x.b7,.L g6.Pv x.x.T,.L g7.Pv x.x.Q.L,.I x.x.Q.Cap,.I x.o.Kind,.I x.o.A,.I x.o.B,.I x.o.C]
abbrev _root_.Go.Sh.r9.Pv(x:r9):PV:=.agg x.Pc
abbrev _root_.Go.Sh.K8.Pc(x:K8):List PV:=[.I x.r,.I x.h]
abbrev _root_.Go.Sh.K8.Pv(x:K8):PV:=.agg x.Pc
abbrev _root_.Go.Sh.H3.Pc(x:H3):List PV:=[.I x.h,.I x.k,.I x.v]
abbrev _root_.Go.Sh.H3.Pv(x:H3):PV:=.agg x.Pc
abbrev _root_.Go.Sh.K7.Pc(x:K7):List PV:=[.L g6.Pv x.t]
abbrev _root_.Go.Sh.K7.Pv(x:K7):PV:=.agg x.Pc
abbrev _root_.Go.Sh.z6.Pc(x:z6):List PV:=[.I x.V,.I x.E]
abbrev _root_.Go.Sh.z6.Pv(x:z6):PV:=.agg x.Pc
def qY(t:Nat):Nat:=if t=162 then 4 else if t=166 then 0 else if t=170 then 1 else 0
theorem K1:L8 Tryz.prog 3=some false:=by kernel_rfl
theorem vC:L8 Tryz.prog 4=some false:=by kernel_rfl
theorem SI:L8 Tryz.prog 22=some false:=by kernel_rfl
theorem SJ:L8 Tryz.prog 27=some false:=by kernel_rfl
theorem mn:L8 Tryz.prog 28=some false:=by kernel_rfl
theorem BW:L8 Tryz.prog 29=some false:=by kernel_rfl
theorem SK:L8 Tryz.prog 30=some false:=by kernel_rfl
theorem SM:L8 Tryz.prog 31=some false:=by kernel_rfl
theorem A0:L8 Tryz.prog 33=some true:=by kernel_rfl
theorem uB:L8 Tryz.prog 34=some false:=by kernel_rfl
theorem G7:L8 Tryz.prog 51=some true:=by kernel_rfl
theorem SN:L8 Tryz.prog 63=some false:=by kernel_rfl
theorem ib:L8 Tryz.prog 65=some true:=by kernel_rfl
theorem mo:L8 Tryz.prog 67=some true:=by kernel_rfl
theorem BX:L8 Tryz.prog 68=some false:=by kernel_rfl
theorem jl:L8 Tryz.prog 70=some true:=by kernel_rfl
theorem u7:L8 Tryz.prog 72=some true:=by kernel_rfl
theorem mq:L8 Tryz.prog 74=some true:=by kernel_rfl
theorem gr:L8 Tryz.prog 100=some true:=by kernel_rfl
theorem bU:L8 Tryz.prog 112=some true:=by kernel_rfl
theorem wI:L8 Tryz.prog 119=some true:=by kernel_rfl
theorem sa:L8 Tryz.prog 178=some true:=by kernel_rfl
theorem BV:L8 Tryz.prog 196=some false:=by kernel_rfl
theorem iM:L8 Tryz.prog 264=some true:=by kernel_rfl
theorem pK:L8 Tryz.prog 266=some true:=by kernel_rfl
theorem Q1:N4 Tryz.prog 3=some 8:=by kernel_rfl
theorem SO:N4 Tryz.prog 28=some 24:=by kernel_rfl
theorem Lc:N4 Tryz.prog 51=some 16:=by kernel_rfl
theorem SP:N4 Tryz.prog 54=some 16:=by kernel_rfl
theorem mr:N4 Tryz.prog 100=some 56:=by kernel_rfl
theorem Hv:N4 Tryz.prog 107=some 24:=by kernel_rfl
theorem mw:N4 Tryz.prog 112=some 24:=by kernel_rfl
theorem pL:N4 Tryz.prog 135=some 16:=by kernel_rfl
theorem Hw:N4 Tryz.prog 180=some 80:=by kernel_rfl
theorem Hx:N4 Tryz.prog 251=some 24:=by kernel_rfl
theorem mA:A7 Tryz.prog 22=some 117:=by kernel_rfl
theorem bf:A7 Tryz.prog 23=some 28:=by kernel_rfl
theorem B7:A7 Tryz.prog 27=some 100:=by kernel_rfl
theorem m7:A7 Tryz.prog 28=some 3:=by kernel_rfl
theorem Q5:A7 Tryz.prog 29=some 107:=by kernel_rfl
theorem M4:A7 Tryz.prog 30=some 135:=by kernel_rfl
theorem I9:A7 Tryz.prog 31=some 112:=by kernel_rfl
theorem bg:A7 Tryz.prog 63=some 180:=by kernel_rfl
theorem dw:A7 Tryz.prog 68=some 251:=by kernel_rfl
theorem jm:A7 Tryz.prog 92=some 51:=by kernel_rfl
theorem ka:A7 Tryz.prog 114=some 54:=by kernel_rfl
theorem gu:A7 Tryz.prog 117=some 119:=by kernel_rfl
theorem bV:A7 Tryz.prog 258=some 264:=by kernel_rfl
theorem mB:A7 Tryz.prog 357=some 31:=by kernel_rfl
theorem Ld:W3 Tryz.prog 33 0=some (0,27):=by kernel_rfl
theorem Le:W3 Tryz.prog 33 1=some (1,28):=by kernel_rfl
theorem xp:W3 Tryz.prog 33 2=some (2,28):=by kernel_rfl
theorem Lf:W3 Tryz.prog 33 6=some (6,28):=by kernel_rfl
theorem xq:W3 Tryz.prog 33 7=some (7,29):=by kernel_rfl
theorem Lg:W3 Tryz.prog 33 8=some (8,30):=by kernel_rfl
theorem Lh:W3 Tryz.prog 33 9=some (9,31):=by kernel_rfl
theorem JK:W3 Tryz.prog 33 10=some (10,22):=by kernel_rfl
theorem xr:W3 Tryz.prog 51 0=some (0,3):=by kernel_rfl
theorem Li:W3 Tryz.prog 51 1=some (1,34):=by kernel_rfl
theorem Lj:W3 Tryz.prog 65 0=some (0,63):=by kernel_rfl
theorem DQ:W3 Tryz.prog 72 1=some (3,28):=by kernel_rfl
theorem Lk:W3 Tryz.prog 72 2=some (4,29):=by kernel_rfl
theorem Ll:W3 Tryz.prog 72 4=some (6,70):=by kernel_rfl
theorem AT:W3 Tryz.prog 100 0=some (0,3):=by kernel_rfl
theorem Jz:W3 Tryz.prog 100 3=some (3,4):=by kernel_rfl
theorem JA:W3 Tryz.prog 100 4=some (4,4):=by kernel_rfl
theorem JB:W3 Tryz.prog 100 5=some (5,4):=by kernel_rfl
theorem pM:W3 Tryz.prog 107 0=some (0,3):=by kernel_rfl
theorem JC:W3 Tryz.prog 107 1=some (1,4):=by kernel_rfl
theorem JD:W3 Tryz.prog 119 0=some (0,3):=by kernel_rfl
theorem JE:W3 Tryz.prog 135 0=some (0,3):=by kernel_rfl
theorem AU:W3 Tryz.prog 135 1=some (1,3):=by kernel_rfl
theorem JF:W3 Tryz.prog 178 1=some (1,3):=by kernel_rfl
theorem JG:W3 Tryz.prog 178 2=some (2,3):=by kernel_rfl
theorem AV:W3 Tryz.prog 178 4=some (4,4):=by kernel_rfl
theorem AW:W3 Tryz.prog 180 0=some (0,3):=by kernel_rfl
theorem JH:W3 Tryz.prog 180 2=some (2,178):=by kernel_rfl
theorem JI:W3 Tryz.prog 251 1=some (1,3):=by kernel_rfl
theorem JJ:W3 Tryz.prog 264 2=some (2,3):=by kernel_rfl
theorem AX:On Tryz.prog 3=some .i64:=by kernel_rfl
theorem ON:B4 Tryz.prog 111:=kC Tryz.func111 J
theorem OO:B4 Tryz.prog 130:=kC Tryz.func130 J
theorem OP:B4 Tryz.prog 133:=kC Tryz.func133 J
theorem OQ:B4 Tryz.prog 134:=kC Tryz.func134 J
theorem BY:B4 Tryz.prog 147:=kC Tryz.func147 J
theorem OR:B4 Tryz.prog 200:=kC Tryz.func200 J
theorem Hy:B4 Tryz.prog 224:=kC Tryz.func224 J
theorem OS:B4 Tryz.prog 230:=kC Tryz.func230 J
theorem OT:B4 Tryz.prog 267:=kC Tryz.func267 J
theorem Hz:B4 Tryz.prog 277:=kC Tryz.func277 J
theorem OU:B4 Tryz.prog 321:=kC Tryz.func321 J
theorem OV:B4 Tryz.prog 325:=kC Tryz.func325 J
theorem OW:B4 Tryz.prog 331:=kC Tryz.func331 J
theorem OX:B4 Tryz.prog 342:=kC Tryz.func342 J
theorem OY:B4 Tryz.prog 343:=kC Tryz.func343 J
theorem OZ:B4 Tryz.prog 363:=kC Tryz.func363 J
theorem HA:B4 Tryz.prog 364:=kC Tryz.func364 J
theorem HC:B4 Tryz.prog 366:=kC Tryz.func366 J
theorem Pa:B4 Tryz.prog 381:=kC Tryz.func381 J
theorem HD:B4 Tryz.prog 382:=kC Tryz.func382 J
theorem Q2:ui Tryz.prog 196=some (3,4):=by kernel_rfl
theorem bC:ui Tryz.prog 229=some (3,227):=by kernel_rfl
theorem xt:ui Tryz.prog 242=some (3,3):=by kernel_rfl
theorem Y2:ui Tryz.prog 260=some (3,258):=by kernel_rfl
theorem Lm:F3 Tryz.prog 33=some (λi=>(#[(0,1),(1,1),(2,1),(3,1),(4,1),(5,1),(6,1),(7,1),(8,1),(9,1),(10,1)]:Array (Nat × Nat))[i]?):=by kernel_rfl
theorem Y3:F3 Tryz.prog 51=some (λi=>(#[(0,1),(1,1)]:Array (Nat × Nat))[i]?):=by kernel_rfl
theorem Ln:F3 Tryz.prog 65=some (λi=>(#[(0,1),(1,1)]:Array (Nat × Nat))[i]?):=by kernel_rfl
theorem Lo:F3 Tryz.prog 67=some (λi=>(#[(0,2),(2,1)]:Array (Nat × Nat))[i]?):=by kernel_rfl
theorem Lp:F3 Tryz.prog 70=some (λi=>(#[(0,1),(1,1)]:Array (Nat × Nat))[i]?):=by kernel_rfl
theorem Lq:F3 Tryz.prog 72=some (λi=>(#[(0,3),(3,1),(4,1),(5,1),(6,2)]:Array (Nat × Nat))[i]?):=by kernel_rfl
theorem FT:F3 Tryz.prog 74=some (λi=>(#[(0,8),(8,1)]:Array (Nat × Nat))[i]?):=by kernel_rfl
theorem HE:F3 Tryz.prog 100=some (λi=>(#[(0,1),(1,1),(2,1),(3,1),(4,1),(5,1),(6,1)]:Array (Nat × Nat))[i]?):=by kernel_rfl
theorem Pb:F3 Tryz.prog 107=some (λi=>(#[(0,1),(1,1),(2,1)]:Array (Nat × Nat))[i]?):=by kernel_rfl
theorem sf:F3 Tryz.prog 112=some (λi=>(#[(0,1),(1,1),(2,1)]:Array (Nat × Nat))[i]?):=by kernel_rfl
theorem wJ:F3 Tryz.prog 119=some (λi=>(#[(0,1),(1,1),(2,1),(3,1)]:Array (Nat × Nat))[i]?):=by kernel_rfl
theorem BZ:F3 Tryz.prog 135=some (λi=>(#[(0,1),(1,1)]:Array (Nat × Nat))[i]?):=by kernel_rfl
theorem Pd:F3 Tryz.prog 162=some (λi=>(#[(0,4)]:Array (Nat × Nat))[i]?):=by kernel_rfl
theorem Pe:F3 Tryz.prog 166=some (λi=>(#[]:Array (Nat × Nat))[i]?):=by kernel_rfl
theorem Pf:F3 Tryz.prog 170=some (λi=>(#[(0,1)]:Array (Nat × Nat))[i]?):=by kernel_rfl
theorem Ph:F3 Tryz.prog 178=some (λi=>(#[(0,1),(1,1),(2,1),(3,1),(4,1),(5,1)]:Array (Nat × Nat))[i]?):=by kernel_rfl
theorem wK:F3 Tryz.prog 180=some (λi=>(#[(0,1),(1,1),(2,6)]:Array (Nat × Nat))[i]?):=by kernel_rfl
theorem Pj:F3 Tryz.prog 233=some (λi=>(#[(0,8),(8,4)]:Array (Nat × Nat))[i]?):=by kernel_rfl
theorem HF:F3 Tryz.prog 251=some (λi=>(#[(0,1),(1,1),(2,1)]:Array (Nat × Nat))[i]?):=by kernel_rfl
theorem ef:F3 Tryz.prog 264=some (λi=>(#[(0,1),(1,1),(2,1),(3,1)]:Array (Nat × Nat))[i]?):=by kernel_rfl
theorem Pk:F3 Tryz.prog 266=some (λi=>(#[(0,1),(1,1)]:Array (Nat × Nat))[i]?):=by kernel_rfl
theorem Pm:F3 Tryz.prog 403=some (λi=>(#[(0,1),(1,1),(2,1)]:Array (Nat × Nat))[i]?):=by kernel_rfl
theorem Pn:F3 Tryz.prog 407=some (λi=>(#[(0,1)]:Array (Nat × Nat))[i]?):=by kernel_rfl
theorem Po:F3 Tryz.prog 420=some (λi=>(#[(0,1)]:Array (Nat × Nat))[i]?):=by kernel_rfl
theorem Pp:F3 Tryz.prog 422=some (λi=>(#[(0,1),(1,1)]:Array (Nat × Nat))[i]?):=by kernel_rfl
theorem Lr:oJ Tryz.prog 51=some [1,1]:=by kernel_rfl
theorem SQ:oJ Tryz.prog 54=some [1,1]:=by kernel_rfl
theorem HG:ry Tryz.prog 162=true:=by kernel_rfl
theorem HH:ry Tryz.prog 166=true:=by kernel_rfl
theorem HI:ry Tryz.prog 170=true:=by kernel_rfl
theorem o7:s7 Tryz.prog 3=some 1:=by kernel_rfl
theorem VH:s7 Tryz.prog 4=some 1:=by kernel_rfl
theorem SS:s7 Tryz.prog 27=some 1:=by kernel_rfl
theorem bD:s7 Tryz.prog 28=some 1:=by kernel_rfl
theorem uC:s7 Tryz.prog 31=some 1:=by kernel_rfl
theorem w7:s7 Tryz.prog 33=some 11:=by kernel_rfl
theorem A9:s7 Tryz.prog 51=some 2:=by kernel_rfl
theorem xu:s7 Tryz.prog 54=some 2:=by kernel_rfl
theorem eh:s7 Tryz.prog 65=some 2:=by kernel_rfl
theorem mC:s7 Tryz.prog 67=some 3:=by kernel_rfl
theorem cI:s7 Tryz.prog 70=some 2:=by kernel_rfl
theorem p9:s7 Tryz.prog 72=some 8:=by kernel_rfl
theorem dx:s7 Tryz.prog 74=some 9:=by kernel_rfl
theorem u9:s7 Tryz.prog 100=some 7:=by kernel_rfl
theorem U5:s7 Tryz.prog 107=some 3:=by kernel_rfl
theorem C8:s7 Tryz.prog 112=some 3:=by kernel_rfl
theorem wL:s7 Tryz.prog 117=some 1:=by kernel_rfl
theorem iN:s7 Tryz.prog 119=some 4:=by kernel_rfl
theorem T7:s7 Tryz.prog 135=some 2:=by kernel_rfl
theorem Pq:s7 Tryz.prog 166=some 0:=by kernel_rfl
theorem kc:s7 Tryz.prog 178=some 6:=by kernel_rfl
theorem ak:s7 Tryz.prog 180=some 8:=by kernel_rfl
theorem dj:s7 Tryz.prog 251=some 3:=by kernel_rfl
theorem N5:s7 Tryz.prog 264=some 4:=by kernel_rfl
theorem ke:s7 Tryz.prog 266=some 2:=by kernel_rfl
theorem I0:Tryz.prog.underlying 3=some (.int .i64):=by kernel_rfl
theorem VI:Tryz.prog.underlying 4=some (.bool):=by kernel_rfl
theorem AY:Tryz.prog.underlying 5=some (.int .u8):=by kernel_rfl
theorem C0:A3 Tryz.prog 3=some ((.I 0)):=by kernel_rfl
theorem sm:A3 Tryz.prog 4=some ((.bool false)):=by kernel_rfl
theorem xv:A3 Tryz.prog 28=some ((.slice none 0 0)):=by kernel_rfl
theorem SU:A3 Tryz.prog 31=some ((.slice none 0 0)):=by kernel_rfl
theorem Lt:A3 Tryz.prog 33=some ((.agg #[(.slice none 0 0),(.slice none 0 0),(.slice none 0 0),(.I 0),(.I 0),(.I 0),(.slice none 0 0),(.slice none 0 0),(.slice none 0 0),(.slice none 0 0),(.slice none 0 0)])):=by kernel_rfl
theorem Q6:A3 Tryz.prog 51=some ((.agg #[(.I 0),(.I 0)])):=by kernel_rfl
theorem Lu:A3 Tryz.prog 54=some ((.agg #[(.I 0),(.I 0)])):=by kernel_rfl
theorem Lv:A3 Tryz.prog 65=some ((.agg #[(.slice none 0 0),(.I 0)])):=by kernel_rfl
theorem Lw:A3 Tryz.prog 67=some ((.agg #[(.slice none 0 0),(.I 0),(.I 0)])):=by kernel_rfl
theorem Lx:A3 Tryz.prog 70=some ((.agg #[(.slice none 0 0),(.I 0)])):=by kernel_rfl
theorem Ly:A3 Tryz.prog 72=some ((.agg #[(.slice none 0 0),(.I 0),(.I 0),(.slice none 0 0),(.slice none 0 0),(.slice none 0 0),(.slice none 0 0),(.I 0)])):=by kernel_rfl
theorem FU:A3 Tryz.prog 74=some ((.agg #[(.slice none 0 0),(.I 0),(.I 0),(.slice none 0 0),(.slice none 0 0),(.slice none 0 0),(.slice none 0 0),(.I 0),(.slice none 0 0)])):=by kernel_rfl
theorem al:A3 Tryz.prog 100=some ((.agg #[(.I 0),(.I 0),(.I 0),(.bool false),(.bool false),(.bool false),(.slice none 0 0)])):=by kernel_rfl
theorem Ca:A3 Tryz.prog 107=some ((.agg #[(.I 0),(.bool false),(.I 0)])):=by kernel_rfl
theorem ao:A3 Tryz.prog 112=some ((.agg #[(.I 0),(.I 0),(.I 0)])):=by kernel_rfl
theorem Pr:A3 Tryz.prog 117=some ((.slice none 0 0)):=by kernel_rfl
theorem sj:A3 Tryz.prog 119=some ((.agg #[(.I 0),(.I 0),(.I 0),(.I 0)])):=by kernel_rfl
theorem aq:A3 Tryz.prog 135=some ((.agg #[(.I 0),(.I 0)])):=by kernel_rfl
theorem HJ:A3 Tryz.prog 162=some ((.agg #[(.I 0),(.I 0),(.I 0),(.I 0)])):=by kernel_rfl
theorem HK:A3 Tryz.prog 166=some ((.agg #[])):=by kernel_rfl
theorem HL:A3 Tryz.prog 170=some ((.agg #[(.I 0)])):=by kernel_rfl
theorem Ps:A3 Tryz.prog 178=some ((.agg #[(.I 0),(.I 0),(.I 0),(.I 0),(.bool false),(.slice none 0 0)])):=by kernel_rfl
theorem pN:A3 Tryz.prog 180=some ((.agg #[(.I 0),(.I 0),(.I 0),(.I 0),(.I 0),(.I 0),(.bool false),(.slice none 0 0)])):=by kernel_rfl
theorem Pt:A3 Tryz.prog 227=some (.nilFunc):=by kernel_rfl
theorem Pu:A3 Tryz.prog 233=some ((.agg #[(.slice none 0 0),(.I 0),(.I 0),(.slice none 0 0),(.slice none 0 0),(.slice none 0 0),(.slice none 0 0),(.I 0),(.I 0),(.I 0),(.I 0),(.I 0)])):=by kernel_rfl
theorem wM:A3 Tryz.prog 251=some ((.agg #[(.I 0),(.I 0),(.I 0)])):=by kernel_rfl
theorem Px:A3 Tryz.prog 258=some ((.slice none 0 0)):=by kernel_rfl
theorem M1:A3 Tryz.prog 264=some ((.agg #[.nilFunc,(.I 0),(.I 0),(.I 0)])):=by kernel_rfl
theorem Py:A3 Tryz.prog 266=some ((.agg #[(.slice none 0 0),(.I 0)])):=by kernel_rfl
theorem Pz:A3 Tryz.prog 403=some ((.agg #[(.I 0),(.I 0),(.I 0)])):=by kernel_rfl
theorem PA:A3 Tryz.prog 407=some ((.agg #[(.slice none 0 0)])):=by kernel_rfl
theorem PB:A3 Tryz.prog 420=some ((.agg #[.nilFunc])):=by kernel_rfl
theorem PC:A3 Tryz.prog 422=some ((.agg #[(.I 0),(.I 0)])):=by kernel_rfl
theorem u4:Tryz.prog.follows .mixedOrders=true:=by kernel_rfl
def tb:TB:=⟨[((33,0),(0,27)),((33,1),(1,28)),((33,2),(2,28)),((33,3),(3,3)),((33,4),(4,3)),((33,5),(5,3)),((33,6),(6,28)),((33,7),(7,29)),((33,8),(8,30)),((33,9),(9,31)),((33,10),(10,22)),((51,0),(0,3)),((51,1),(1,34)),((65,0),(0,63)),((65,1),(1,3)),((67,0),(0,65)),((67,1),(2,3)),((70,0),(0,31)),((70,1),(1,3)),((72,0),(0,67)),((72,1),(3,28)),((72,2),(4,29)),((72,3),(5,68)),((72,4),(6,70)),((74,0),(0,72)),((74,1),(8,22)),((100,0),(0,3)),((100,1),(1,3)),((100,2),(2,3)),((100,3),(3,4)),((100,4),(4,4)),((100,5),(5,4)),((100,6),(6,28)),((107,0),(0,3)),((107,1),(1,4)),((107,2),(2,3)),((112,0),(0,3)),((112,1),(1,3)),((112,2),(2,3)),((119,0),(0,3)),((119,1),(1,3)),((119,2),(2,3)),((119,3),(3,3)),((135,0),(0,3)),((135,1),(1,3)),((162,0),(0,119)),((170,0),(0,3)),((178,0),(0,3)),((178,1),(1,3)),((178,2),(2,3)),((178,3),(3,3)),((178,4),(4,4)),((178,5),(5,28)),((180,0),(0,3)),((180,1),(1,3)),((180,2),(2,178)),((233,0),(0,72)),((233,1),(8,119)),((251,0),(0,3)),((251,1),(1,3)),((251,2),(2,3)),((264,0),(0,262)),((264,1),(1,3)),((264,3),(3,34)),((266,0),(0,28)),((266,1),(1,3)),((403,0),(0,3)),((403,1),(1,3)),((403,2),(2,3)),((407,0),(0,68)),((420,0),(0,418)),((422,0),(0,3)),((422,1),(1,3))],[(3,false),(4,false),(22,false),(27,false),(28,false),(29,false),(30,false),(31,false),(33,true),(34,false),(51,true),(54,true),(63,false),(65,true),(67,true),(68,false),(70,true),(72,true),(74,true),(100,true),(107,true),(112,true),(117,false),(119,true),(135,true),(178,true),(180,true),(196,false),(233,true),(242,false),(251,true),(262,false),(264,true),(266,true),(285,false),(418,false),(420,true)],[(3,1),(4,1),(27,1),(28,1),(29,1),(30,1),(31,1),(33,11),(34,1),(51,2),(54,2),(63,1),(65,2),(67,3),(68,1),(70,2),(72,8),(74,9),(100,7),(107,3),(112,3),(119,4),(135,2),(162,4),(170,1),(178,6),(180,8),(196,1),(233,12),(242,1),(251,3),(264,4),(266,2),(420,1)],[(3,.I 0),(4,.bool false),(28,.lst true (List.map iF [])),(29,.lst true (List.map k9.Pv [])),(30,.lst true (List.map k7.Pv [])),(33,.agg [.lst true (List.map b8.Pv []),.lst true (List.map iF []),.lst true (List.map iF []),.I 0,.I 0,.I 0,.lst true (List.map iF []),.lst true (List.map k9.Pv []),.lst true (List.map k7.Pv []),.lst true (List.map g7.Pv []),.lst true (List.map (Ls j5.Pv) [])]),(34,.I 0),(51,.agg [.I 0,.I 0]),(65,.agg [.lst true (List.map c9.Pv []),.I 0]),(67,.agg [.lst true (List.map c9.Pv []),.I 0,.I 0]),(68,.lst true (List.map g6.Pv [])),(70,.agg [.lst true (List.map g7.Pv []),.I 0]),(72,.agg [.lst true (List.map c9.Pv []),.I 0,.I 0,.lst true (List.map iF []),.lst true (List.map k9.Pv []),.lst true (List.map g6.Pv []),.lst true (List.map g7.Pv []),.I 0]),(74,.agg [.lst true (List.map c9.Pv []),.I 0,.I 0,.lst true (List.map iF []),.lst true (List.map k9.Pv []),.lst true (List.map g6.Pv []),.lst true (List.map g7.Pv []),.I 0,.lst true (List.map (Ls j5.Pv) [])]),(100,.agg [.I 0,.I 0,.I 0,.bool false,.bool false,.bool false,.lst true (List.map iF [])]),(107,.agg [.I 0,.bool false,.I 0]),(112,.agg [.I 0,.I 0,.I 0]),(119,.agg [.I 0,.I 0,.I 0,.I 0]),(135,.agg [.I 0,.I 0]),(162,.agg [.I 0,.I 0,.I 0,.I 0]),(166,.agg []),(170,.agg [.I 0]),(178,.agg [.I 0,.I 0,.I 0,.I 0,.bool false,.lst true (List.map iF [])]),(180,.agg [.I 0,.I 0,.I 0,.I 0,.I 0,.I 0,.bool false,.lst true (List.map iF [])]),(196,.abs FQ),(242,.abs FQ),(251,.agg [.I 0,.I 0,.I 0]),(264,.agg [.nilfn,.I 0,.I 0,.I 0]),(266,.agg [.lst true (List.map iF []),.I 0]),(420,.agg [.nilfn])]⟩
theorem Tb:TB.Ok Tryz.prog tb:=⟨by kernel_rfl,by kernel_rfl,by kernel_rfl,by kernel_rfl⟩
section
variable{X:Ctx}{ops:Array Oper}{K:Ctx->St->Prop}{i n:Nat}{l l':List Oper}{env env':Nat->PV}{σ σ':Nat->Option Row}{Q:PX->Ctx->St->Prop}{y:Code}{KD:St->Prop}{bar:List Nat}
theorem S1(n:Nat)(h:run tb n l env σ=some (l',env',σ'))(k:Sq X ops (i+n) l' K ⟨env',σ'⟩)(hb:TB.Ok X.P tb:=by exact Tb):Sq X ops i l K ⟨env,σ⟩:=Va hb n h k
theorem S2(n:Nat)(h:run tb n l env σ=some ([],env',σ'))(k:K X ⟨env',σ'⟩)(hb:TB.Ok X.P tb:=by exact Tb):Sq X ops i l K ⟨env,σ⟩:=Va hb n h (yN k)
theorem S3{id:Nat}(n:Nat)(h:run tb n l env σ=some (l',env',σ'))(k:Sq X l.toArray (0+n) l' (λX' s=>Z8 X' y Q s) ⟨env',σ'⟩)(hd:gO X.N l.toArray=true:=by kernel_rfl)(hb:TB.Ok X.P tb:=by exact Tb):Z8 X (.seq (.region id l.toArray false) y) Q ⟨env,σ⟩:=sr hd (Va hb n h k)
theorem S4{id:Nat}(n:Nat)(h:run tb n l env σ=some ([],env',σ'))(k:Z8 X y Q ⟨env',σ'⟩)(hd:gO X.N l.toArray=true:=by kernel_rfl)(hb:TB.Ok X.P tb:=by exact Tb):Z8 X (.seq (.region id l.toArray false) y) Q ⟨env,σ⟩:=sr hd (Va hb n h (yN k))
theorem S5{id:Nat}(n:Nat)(h:run tb n l env σ=some (l',env',σ'))(k:Sq X l.toArray (0+n) l' (Q .normal) ⟨env',σ'⟩)(hd:gO X.N l.toArray=true:=by kernel_rfl)(hb:TB.Ok X.P tb:=by exact Tb):Z8 X (.region id l.toArray false) Q ⟨env,σ⟩:=VB hd (Va hb n h k)
theorem S6{id:Nat}(n:Nat)(h:run tb n l env σ=some ([],env',σ'))(k:Q .normal X ⟨env',σ'⟩)(hd:gO X.N l.toArray=true:=by kernel_rfl)(hb:TB.Ok X.P tb:=by exact Tb):Z8 X (.region id l.toArray false) Q ⟨env,σ⟩:=VB hd (Va hb n h (yN k))
theorem S7(n:Nat)(h:Rp tb bar n i l env σ=some (l',env',σ'))(k:Ex X.P ops bar true (i+n) l' ⟨env',σ'⟩ KD)(hb:TB.Ok X.P tb:=by exact Tb):Ex X.P ops bar true i l ⟨env,σ⟩ KD:=dG hb n h k
theorem S8(n:Nat)(h:Rp tb bar n i l env σ=some ([],env',σ'))(k:KD ⟨env',σ'⟩)(hb:TB.Ok X.P tb:=by exact Tb):Ex X.P ops bar true i l ⟨env,σ⟩ KD:=dG hb n h k
end
theorem Vg:BU Tryz.prog (Tryz.sortF_ren.f 6):=KO Tryz.sortF
theorem vU{a0}:PO Tryz.prog 10 [.L (Ls j5.Pv) a0] (hZ a0) λr=>.bool r:=by
 refine pO Tryz.func10 λr h _ _=>?_;refine S4 1 J ?_;refine jq h (λ_=>St.of [(0,.L (Ls j5.Pv) a0)] []) (λq6 h=>?_) λκ5 h=>?_
 .refine S3 1 J ?_;refine nL J mA<|S2 2 J<|c5 ?_;cases h;exact f1
 .refine S4 1 J ?_;refine l4<|lq h (λs8=>St.of [(0,.L (Ls j5.Pv) a0),(3,.I s8)] []) W λs8 x9 h hx8=>l5<|S3 2 J<|nL J mA<|S1 2 J<|n0 J (λhg=>mI J)<|n0 J (λhg=>D2 (ct hg) J J)<|y0 J (D5 J J J (λq=>kl q))<|yN ?_;refine cN h (λhc h=>?_) λhc h=>?_
  .refine c8 ?_;refine l5<|l4<|S3 2 J<|iL h J J mA wL λv10 _ h=>S1 1 J<|nL J gu<|S2 1 J ?_;refine cN h (λhc h=>?_) λhc h=>?_
   .refine S4 1 J ?_;refine c5 ?_;have h:=xL hx8 h;cases h;exact f1
   .refine c8 ?_;refine S6 3 J ?_;exact eL h W
  .refine p6 ?_;refine g8<|g8<|m8 ?_;have h:=xL hx8 h;exact eJ h W
theorem DD{a0 a1}:PO Tryz.prog 11 [.L (Ls iF) a0,.I a1] (gm a0 a1) λr=>.bool r:=by
 refine pO Tryz.func11 λr h _ _=>?_;refine S4 1 J ?_;refine jq h (λ_=>St.of [(0,.L (Ls iF) a0),(1,.I a1)] []) (λq6 h=>?_) λκ5 h=>?_
 .refine S3 1 J ?_;refine nL J bf<|S2 3 J<|c5 ?_;cases h;exact f1
 .refine S4 1 J ?_;refine l4<|lq h (λs8=>St.of [(0,.L (Ls iF) a0),(1,.I a1),(5,.I s8)] []) W λs8 x9 h hx8=>l5<|S3 2 J<|nL J bf<|S1 2 J<|n0 J (λhg=>mI J)<|n0 J (λhg=>D2 (ct hg) J J)<|y0 J (D5 J J J (λq=>kl q))<|yN ?_;refine cN h (λhc h=>?_) λhc h=>?_
  .refine c8 ?_;refine l5<|l4<|S3 2 J<|iL h J J bf bD λv10 _ h=>S1 1 J<|nL J m7<|S2 1 J ?_;refine cN h (λhc h=>?_) λhc h=>?_
   .refine S4 1 J ?_;refine c5 ?_;have h:=xL hx8 h;cases h;exact f1
   .refine c8 ?_;refine S6 3 J ?_;exact eL h W
  .refine p6 ?_;refine g8<|g8<|m8 ?_;have h:=xL hx8 h;exact eJ h W
theorem AB{a0}:PO Tryz.prog 119 [j5.Pv a0] (fO a0) λr=>.bool r:=by
 refine pO Tryz.func119 λr h _ _=>?_;unfold fO at h;refine S4 2 J<|S3 4 J<|n0 J (λhg=>oF J JD J)<|n0 J (λhg=>oS (ct hg) J J K1 J)<|n0 J (λhg=>D2 (ct hg) J J)<|y0 J (D5 J J J (λq=>kl q))<|S2 1 J<|c5 ?_;cases h;exact f1
theorem A6:PO Tryz.prog 250 [.fn (.func 251) []] (bk) λr=>l7.Pv r:=by
 refine pO Tryz.func250 λr h _ _=>?_;unfold bk at h;refine S4 1 J<|S3 1 J<|y0 J (p7 (cs:=[.fn (.func 251) [],.I 0,.I 5,.I 6]) J ef M1 J J J)<|O1 (nU 4 (d':=.agg [sS (some 251),.I 0,.I 5,.I 6]) J)<|S2 1 J<|c5 ?_;cases h;exact⟨J,[_],⟨oL J J J iM N5 nl J,tr⟩,J,io⟩
theorem bq:PO Tryz.prog 253 [.fn (.func 254) []] (W2) λr=>l7.Pv r:=by
 refine pO Tryz.func253 λr h _ _=>?_;unfold W2 at h;refine S4 1 J<|S3 1 J<|y0 J (p7 (cs:=[.fn (.func 254) [],.I (-1),.I 5,.I 13]) J ef M1 J J J)<|O1 (nU 4 (d':=.agg [sS (some 254),.I (-1),.I 5,.I 13]) J)<|S2 1 J<|c5 ?_;cases h;exact⟨J,[_],⟨oL J J J iM N5 nl J,tr⟩,J,io⟩
theorem F2{a0}:PO Tryz.prog 249 [.L l7.Pv a0] (L9 a0) λr=>.L l7.Pv r:=by
 refine pO Tryz.func249 λr h _ _=>?_;unfold L9 at h;refine S4 1 J<|S4 2 J<|c5 ?_;cases h;exact f1
theorem N6:PO Tryz.prog 250 [.fn (.func 252) []] (bm) λr=>l7.Pv r:=by
 refine pO Tryz.func250 λr h _ _=>?_;unfold bm at h;refine S4 1 J<|S3 1 J<|y0 J (p7 (cs:=[.fn (.func 252) [],.I 0,.I 5,.I 6]) J ef M1 J J J)<|O1 (nU 4 (d':=.agg [sS (some 252),.I 0,.I 5,.I 6]) J)<|S2 1 J<|c5 ?_;cases h;exact⟨J,[_],⟨oL J J J iM N5 nl J,tr⟩,J,io⟩
theorem jU:PO Tryz.prog 255 [.fn (.func 254) []] (au) λr=>l7.Pv r:=by
 refine pO Tryz.func255 λr h _ _=>?_;unfold au at h;refine S4 1 J<|S3 1 J<|y0 J (p7 (cs:=[.fn (.func 254) [],.I 0,.I 3,.I 5]) J ef M1 J J J)<|O1 (nU 4 (d':=.agg [sS (some 254),.I 0,.I 3,.I 5]) J)<|S2 1 J<|c5 ?_;cases h;exact⟨J,[_],⟨oL J J J iM N5 nl J,tr⟩,J,io⟩
theorem jT:PO Tryz.prog 255 [.fn (.func 252) []] (ar) λr=>l7.Pv r:=by
 refine pO Tryz.func255 λr h _ _=>?_;unfold ar at h;refine S4 1 J<|S3 1 J<|y0 J (p7 (cs:=[.fn (.func 252) [],.I 0,.I 3,.I 5]) J ef M1 J J J)<|O1 (nU 4 (d':=.agg [sS (some 252),.I 0,.I 3,.I 5]) J)<|S2 1 J<|c5 ?_;cases h;exact⟨J,[_],⟨oL J J J iM N5 nl J,tr⟩,J,io⟩
theorem fQ:PO Tryz.prog 256 [.fn (.func 254) []] (Q8) λr=>l7.Pv r:=by
 refine pO Tryz.func256 λr h _ _=>?_;unfold Q8 at h;refine S4 1 J<|S3 1 J<|y0 J (p7 (cs:=[.fn (.func 254) [],.I (-1),.I 5,.I 6]) J ef M1 J J J)<|O1 (nU 4 (d':=.agg [sS (some 254),.I (-1),.I 5,.I 6]) J)<|S2 1 J<|c5 ?_;cases h;exact⟨J,[_],⟨oL J J J iM N5 nl J,tr⟩,J,io⟩
theorem kN:PO Tryz.prog 257 [.fn (.func 251) []] (bh) λr=>l7.Pv r:=by
 refine pO Tryz.func257 λr h _ _=>?_;unfold bh at h;refine S4 1 J<|S3 1 J<|y0 J (p7 (cs:=[.fn (.func 251) [],.I 0,.I 5,.I 7]) J ef M1 J J J)<|O1 (nU 4 (d':=.agg [sS (some 251),.I 0,.I 5,.I 7]) J)<|S2 1 J<|c5 ?_;cases h;exact⟨J,[_],⟨oL J J J iM N5 nl J,tr⟩,J,io⟩
theorem Y4:PO Tryz.prog 256 [.fn (.func 252) []] (Q7) λr=>l7.Pv r:=by
 refine pO Tryz.func256 λr h _ _=>?_;unfold Q7 at h;refine S4 1 J<|S3 1 J<|y0 J (p7 (cs:=[.fn (.func 252) [],.I (-1),.I 5,.I 6]) J ef M1 J J J)<|O1 (nU 4 (d':=.agg [sS (some 252),.I (-1),.I 5,.I 6]) J)<|S2 1 J<|c5 ?_;cases h;exact⟨J,[_],⟨oL J J J iM N5 nl J,tr⟩,J,io⟩
theorem kO:PO Tryz.prog 257 [.fn (.func 252) []] (bj) λr=>l7.Pv r:=by
 refine pO Tryz.func257 λr h _ _=>?_;unfold bj at h;refine S4 1 J<|S3 1 J<|y0 J (p7 (cs:=[.fn (.func 252) [],.I 0,.I 5,.I 7]) J ef M1 J J J)<|O1 (nU 4 (d':=.agg [sS (some 252),.I 0,.I 5,.I 7]) J)<|S2 1 J<|c5 ?_;cases h;exact⟨J,[_],⟨oL J J J iM N5 nl J,tr⟩,J,io⟩
theorem wi:PO Tryz.prog 144 [] (mK) λr=>.abs (U0 (List.map (bW iF (Ls l7.Pv)) r)):=by
 refine pO Tryz.func144 λr h _ _=>?_;refine S4 1 J<|sR<|BS (KT:=Int) (VT:=List l7) (EK:=iF) (E:=(Ls l7.Pv)) 5000001 J J<|cF h A6 J J λv1 hv1 h=>y0 J (p7 (cs:=[.fn (.func 252) [],.I 0,.I 4,.I 1]) J ef M1 J J J)<|O1 (nU 3 (d':=.agg [sS (some 252),.I 0,.I 4,.I 1]) J)<|cF h bq J J λv2 hv2 h=>y0 J (I3 (f:=l7.Pv) (l:=[v1,(⟨(some 252),0,4,1⟩:l7),v2]) J bV N5 M1 J J nl J J)<|cF h F2 J J λv3 _ h=>Z7 (es:=[]) (k:=1) (v:=v3) (E:=(Ls l7.Pv)) (EK:=iF) (.inr J) J J J J J J Y2 (x8 I0)<|yc J (w8 J A6 J hv1)<|cF h N6 J J λv4 hv4 h=>y0 J (I3 (f:=l7.Pv) (l:=[v1,v4]) J bV N5 M1 J J nl J J)<|cF h F2 J J λv5 hv5 h=>Z7 (es:=(p8 [] 1 v3)) (k:=2) (v:=v5) (E:=(Ls l7.Pv)) (EK:=iF) (.inr J) J J J J J J Y2 (x8 I0)<|yc J (w8 J A6 J hv1)<|y0 J (I3 (f:=l7.Pv) (l:=[v1]) J bV N5 M1 J J nl J J)<|cF h F2 J J λv6 _ h=>Z7 (es:=(p8 (p8 [] 1 v3) 2 v5)) (k:=3) (v:=v6) (E:=(Ls l7.Pv)) (EK:=iF) (.inr J) J J J J J J Y2 (x8 I0)<|yc J (w8 J A6 J hv1)<|yc J (w8 J N6 J hv4)<|cF h jU J J λv7 _ h=>y0 J (I3 (f:=l7.Pv) (l:=[v1,v4,v7]) J bV N5 M1 J J nl J J)<|cF h F2 J J λv8 _ h=>Z7 (es:=(p8 (p8 (p8 [] 1 v3) 2 v5) 3 v6)) (k:=4) (v:=v8) (E:=(Ls l7.Pv)) (EK:=iF) (.inr J) J J J J J J Y2 (x8 I0)<|yc J (w8 J A6 J hv1)<|cF h jT J J λv9 _ h=>cF h fQ J J λv10 _ h=>y0 J (I3 (f:=l7.Pv) (l:=[v1,v9,v10]) J bV N5 M1 J J nl J J)<|cF h F2 J J λv11 _ h=>?_;refine Z7 (es:=(p8 (p8 (p8 (p8 [] 1 v3) 2 v5) 3 v6) 4 v8)) (k:=5) (v:=v11) (E:=(Ls l7.Pv)) (EK:=iF) (.inr J) J J J J J J Y2 (x8 I0)<|cF h kN J J λv12 _ h=>cF h Y4 J J λv13 hv13 h=>yc J (w8 J bq J hv2)<|y0 J (I3 (f:=l7.Pv) (l:=[v12,v13,v2]) J bV N5 M1 J J nl J J)<|cF h F2 J J λv14 _ h=>Z7 (es:=(p8 (p8 (p8 (p8 (p8 [] 1 v3) 2 v5) 3 v6) 4 v8) 5 v11)) (k:=6) (v:=v14) (E:=(Ls l7.Pv)) (EK:=iF) (.inr J) J J J J J J Y2 (x8 I0)<|yc J (w8 J A6 J hv1)<|cF h kO J J λv15 _ h=>y0 J (I3 (f:=l7.Pv) (l:=[v1,v15]) J bV N5 M1 J J nl J J)<|cF h F2 J J λv16 _ h=>Z7 (es:=(p8 (p8 (p8 (p8 (p8 (p8 [] 1 v3) 2 v5) 3 v6) 4 v8) 5 v11) 6 v14)) (k:=7) (v:=v16) (E:=(Ls l7.Pv)) (EK:=iF) (.inr J) J J J J J J Y2 (x8 I0)<|yc J (w8 J A6 J hv1)<|yc J (w8 J Y4 J hv13)<|y0 J (I3 (f:=l7.Pv) (l:=[v1,v13]) J bV N5 M1 J J nl J J)<|cF h F2 J J λv17 _ h=>Z7 (es:=(p8 (p8 (p8 (p8 (p8 (p8 (p8 [] 1 v3) 2 v5) 3 v6) 4 v8) 5 v11) 6 v14) 7 v16)) (k:=8) (v:=v17) (E:=(Ls l7.Pv)) (EK:=iF) (.inr J) J J J J J J Y2 (x8 I0)<|yc J (w8 J A6 J hv1)<|yc J (w8 J N6 J hv4)<|y0 J (I3 (f:=l7.Pv) (l:=[v1,v4]) J bV N5 M1 J J nl J J)<|yc J (w8 J F2 J hv5)<|Z7 (es:=(p8 (p8 (p8 (p8 (p8 (p8 (p8 (p8 [] 1 v3) 2 v5) 3 v6) 4 v8) 5 v11) 6 v14) 7 v16) 8 v17)) (k:=9) (v:=v5) (E:=(Ls l7.Pv)) (EK:=iF) (.inr J) J J J J J J Y2 (x8 I0)<|yc J (w8 J A6 J hv1)<|yc J (w8 J N6 J hv4)<|y0 J (I3 (f:=l7.Pv) (l:=[v1,v4]) J bV N5 M1 J J nl J J)<|yc J (w8 J F2 J hv5)<|Z7 (es:=(p8 (p8 (p8 (p8 (p8 (p8 (p8 (p8 (p8 [] 1 v3) 2 v5) 3 v6) 4 v8) 5 v11) 6 v14) 7 v16) 8 v17) 9 v5)) (k:=10) (v:=v5) (E:=(Ls l7.Pv)) (EK:=iF) (.inr J) J J J J J J Y2 (x8 I0)<|cF h F2 J J λv18 _ h=>Z7 (es:=(p8 (p8 (p8 (p8 (p8 (p8 (p8 (p8 (p8 (p8 [] 1 v3) 2 v5) 3 v6) 4 v8) 5 v11) 6 v14) 7 v16) 8 v17) 9 v5) 10 v5)) (k:=11) (v:=v18) (E:=(Ls l7.Pv)) (EK:=iF) (.inr J) J J J J J J Y2 (x8 I0)<|y0 J (p7 (cs:=[.fn (.func 251) [],.I 0,.I 200,.I 12]) J ef M1 J J J) ?_;refine O1 (nU 46 (d':=.agg [sS (some 251),.I 0,.I 200,.I 12]) J)<|y0 J (I3 (f:=l7.Pv) (l:=[(⟨(some 251),0,200,12⟩:l7)]) J bV N5 M1 J J nl J J)<|cF h F2 J J λv19 _ h=>Z7 (es:=(p8 (p8 (p8 (p8 (p8 (p8 (p8 (p8 (p8 (p8 (p8 [] 1 v3) 2 v5) 3 v6) 4 v8) 5 v11) 6 v14) 7 v16) 8 v17) 9 v5) 10 v5) 11 v18)) (k:=12) (v:=v19) (E:=(Ls l7.Pv)) (EK:=iF) (.inr J) J J J J J J Y2 (x8 I0)<|S2 2 J<|bM (DF 0 5000001 J J)<|c5 ?_;cases h;exact f1
theorem qD{a0}:PO Tryz.prog 251 [j5.Pv a0] (rh a0) λr=>.I r:=by
 refine pO Tryz.func251 λr h _ _=>?_;unfold rh at h;refine S4 2 J<|S4 3 J<|c5 ?_;cases h;exact f1
theorem qE{a0}:PO Tryz.prog 252 [j5.Pv a0] (rj a0) λr=>.I r:=by
 refine pO Tryz.func252 λr h _ _=>?_;unfold rj at h;refine S4 2 J<|S4 3 J<|c5 ?_;cases h;exact f1
theorem qF{a0}:PO Tryz.prog 254 [j5.Pv a0] (rk a0) λr=>.I r:=by
 refine pO Tryz.func254 λr h _ _=>?_;unfold rk at h;refine S4 2 J<|S4 3 J<|c5 ?_;cases h;exact f1
theorem Gz{f:Fv}{a0:j5}{r:Int}(h:sU f a0=some r):∃n,f=some n/\B4 Tryz.prog n/\bc Tryz.prog n [j5.Pv a0] (.I r):=by
 unfold sU at h;by_cases e251:f=some 251
 .rw[zb e251] at h;exact⟨251,e251,(@qD a0).1,(@qD a0).2 _ h⟩
 rw[za e251] at h;by_cases e252:f=some 252
 .rw[zb e252] at h;exact⟨252,e252,(@qE a0).1,(@qE a0).2 _ h⟩
 rw[za e252] at h;by_cases e254:f=some 254
 .rw[zb e254] at h;exact⟨254,e254,(@qF a0).1,(@qF a0).2 _ h⟩
 rw[za e254] at h;cases h
theorem kM{a0}:PO Tryz.prog 81 [j5.Pv a0] (W1 a0) λr=>.I r:=by
 refine pO Tryz.func81 λr h _ _=>?_;unfold W1 at h;refine S4 2 J<|dr [] u4 (by kernel_rfl) (by kernel_rfl)<|y6 h λv1 hv1 h=>eE J (w8 J wi J hv1) J<|S7 2 J<|d4 J (BC (es:=v1) (k:=a0.Kind) (E:=(Ls l7.Pv)) (EK:=iF) (d:=.tup [.L l7.Pv ((z8 v1 a0.Kind).getD ([]:List l7)),.bool ((z8 v1 a0.Kind).isSome)]) J J Y2 (x8 I0) Px J (Yj _ _ ([]:List l7))) J<|S8 5 J<|l5<|S4 2 J ?_;refine cN h (λhc h=>?_) λhc h=>?_
 .refine S4 1 J ?_;refine c5 ?_;cases h;exact f1
 .refine c8 ?_;refine jq h (λ_=>St.of [] []) (λq9 h=>?_) λκ8 h=>?_
  .refine S4 1 J ?_;refine c5 ?_;cases h;exact f1
  .refine S3 1 J ?_;refine nL J bV<|S2 1 J<|l4<|lq h (λs11=>St.of [(1,.ptr 1 0 0),(17,.L l7.Pv ((z8 v1 a0.Kind).getD ([]:List l7))),(18,.I (((z8 v1 a0.Kind).getD ([]:List l7)).length:Int)),(19,.I s11)] [(1,vR (j5.Pv a0) 4)]) W λs11 x12 h hx13=>S4 1 J<|l5 ?_;refine cN h (λhc h=>?_) λhc h=>?_
   .refine c8 ?_;refine l5<|l4<|sR<|iL h J J bV N5 λv13 _ h=>S2 3 J<|S3 3 J ?_;obtain⟨v14,hv15,h⟩:=sp h;obtain⟨n15,he16,hk17,hp18⟩:=Gz hv15;refine O1 (SE 24 J he16)<|y0 J (GK J hk17 J hp18)<|S2 1 J<|S3 5 J<|n0 J (λhg=>mI J)<|n0 J (λhg=>oF J JJ J)<|n0 J (λhg=>oS (ct hg) J J K1 J)<|n0 J (λhg=>D2 (ct hg) (ct hg) J)<|y0 J (O8 J J J (λq=>oG q))<|yN ?_;refine cN h (λhc h=>?_) λhc h=>?_
    .refine S4 3 J ?_;refine c5 ?_;have h:=xL hx13 h;cases h;exact f1
    .refine c8 ?_;refine S6 2 J ?_;exact eL h W
   .refine p6 ?_;refine g8<|g8<|m8 ?_;have h:=xL hx13 h;exact eJ h W
theorem AD{a0}:PO Tryz.prog 62 [.L (Ls j5.Pv) a0] (fP a0) λr=>.bool r:=by
 refine pO Tryz.func62 λr h _ _=>?_;refine S4 1 J<|l5<|S3 1 J<|nL J mA<|S2 1 J ?_;refine cN h (λhc h=>?_) λhc h=>?_
 .refine S4 1 J ?_;refine c5 ?_;cases h;exact f1
 .refine c8 ?_;refine jq h (λ_=>St.of [] []) (λq21 h=>?_) λκ20 h=>?_
  .refine S4 1 J ?_;refine c5 ?_;cases h;exact f1
  .refine S3 1 J ?_;refine nL J mA<|S2 1 J<|l4<|lq h (λs23=>St.of [(10,.L (Ls j5.Pv) a0),(11,.I (a0.length:Int)),(12,.I s23)] []) W λs23 x24 h hx22=>S4 1 J<|l5 ?_;refine cN h (λhc h=>?_) λhc h=>?_
   .refine c8 ?_;refine jq h (λ_=>St.of [(10,.L (Ls j5.Pv) a0),(11,.I (a0.length:Int)),(12,.I s23)] []) (λq33 h=>?_) λκ32 h=>?_
    .refine S6 2 J ?_;exact eL h W
    .refine l4 ?_;refine sR<|iL h J J mA wL λv34 _ h=>S2 2 J<|l5<|S3 1 J<|nL J gu<|S2 1 J ?_;refine cN h (λhc h=>?_) λhc h=>?_
     .refine S4 1 J ?_;refine c5 ?_;have h:=xL hx22 h;cases h;exact f1
     .refine c8 ?_;refine S3 1 J<|nL J gu<|S2 1 J<|l4<|lq h (λs36=>St.of [(10,.L (Ls j5.Pv) a0),(11,.I (a0.length:Int)),(12,.I s23),(19,.L j5.Pv v34),(20,.I (v34.length:Int)),(21,.I s36)] []) W λs36 x37 h hx34=>S4 1 J<|l5 ?_;refine cN h (λhc h=>?_) λhc h=>?_
      .refine c8 ?_;refine l5<|l4<|sR<|iL h J J gu iN λv38 _ h=>S2 3 J<|S3 1 J<|cA h AB J J λv39 _ h=>S1 2 J<|n0 J (λhg=>oL J J J wI iN nl J)<|y6 h λv40 hv37 h=>n0 J (λhg=>R8 J kM (X5 (ct hg) J) (aj hv37 hg))<|n0 J (λhg=>D2 (ct hg) J J)<|y0 J (O8 J J J (λq=>oG q))<|yN ?_;refine cN h (λhc h=>?_) λhc h=>?_
       .refine S4 1 J ?_;refine c5 ?_;have h:=xL hx34 h;have h:=xL hx22 h;cases h;exact f1
       .refine c8 ?_;refine S6 2 J ?_;exact eL h W
      .refine p6 ?_;refine g8<|g8<|m8 ?_;have h:=xL hx34 h;exact eJ h W
   .refine p6 ?_;refine g8<|g8<|m8 ?_;have h:=xL hx22 h;exact eJ h W
theorem oc{a0 a1}:PO Tryz.prog 201 [.I a0,.I a1] (aE a0 a1) λr=>l6.Pv r:=by
 refine pO Tryz.func201 λr h _ _=>?_;refine S4 1 J<|l5<|S3 3 J<|n0 J (λhg=>mI J)<|n0 J (λhg=>D2 (ct hg) J J)<|y0 J (O8 J J J (λq=>oG q))<|S1 1 J<|n0 J (λhg=>mI J)<|n0 J (λhg=>D2 (ct hg) J J)<|y0 J (O8 J J J (λq=>oG q))<|S1 1 J<|n0 J (λhg=>mI J)<|n0 J (λhg=>D2 (ct hg) J J)<|y0 J (O8 J J J (λq=>oG q))<|yN ?_;refine cN h (λhc h=>?_) λhc h=>?_
 .refine sR ?_;refine y0 J (p7 (cs:=[.nl,.I 0]) J Ln Lv J J J)<|kK (x':=.agg [.nl,.I 0]) (cl':=true) J J (.inl J) eh<|yN<|c5 ?_;cases h;exact⟨J,[_],⟨oL J J J ib eh nl J,tr⟩,J,io⟩
 .refine c8 ?_;refine S3 1 J<|y6 h λv1 hv1 h=>y1 J (AJ (f:=c9.Pv) hv1 J J J bg ak pN Hw J J J) J<|S1 1 J<|y0 J (p7 (cs:=[.sl 21,.I a1]) J Ln Lv J J J)<|S2 1 J<|c5 ?_;cases h;exact⟨J,[_],⟨oL J J J ib eh nl J,tr⟩,J,io⟩
theorem Dw{a0 a1}:PO Tryz.prog 120 [.I a0,.I a1] (jj a0 a1) λr=>b6.Pv r:=by
 refine pO Tryz.func120 λr h _ _=>?_;refine S4 1 J<|S3 2 J<|cF h oc J J λv1 _ h=>y0 J (p7 (cs:=[.L c9.Pv v1.b7,.I v1.Last,.I 0]) J Lo Lw J J J)<|S2 1 J<|c5 ?_;cases h;exact⟨J,[_],⟨oL J J J mo mC nl J,tr⟩,J,io⟩
theorem vX{a0}:PO Tryz.prog 41 [.I a0] (Am a0) λr=>.L k9.Pv r:=by
 refine pO Tryz.func41 λr h _ _=>?_;refine S4 1 J<|l5<|S3 3 J<|n0 J (λhg=>mI J)<|n0 J (λhg=>D2 (ct hg) J J)<|y0 J (O8 J J J (λq=>oG q))<|yN ?_;refine cN h (λhc h=>?_) λhc h=>?_
 .refine S4 1 J ?_;refine c5 ?_;cases h;exact f1
 .refine c8 ?_;refine S3 1 J<|y6 h λv1 hv1 h=>y1 J (AJ (f:=k9.Pv) hv1 J J J Q5 U5 Ca Hv J J J) J<|S2 1 J ?_;refine jq h (λj9=>St.of [(3,.sl 12)] [(12,⟨List.map k9.Pv j9,0,true,3,true⟩)]) (λj9 h=>?_) λκ8 h=>?_
  .refine S4 2 J ?_;refine c5 ?_;cases h;exact f1
  .refine S3 1 J ?_;refine y0 J (II (f:=k9.Pv) J J J Q5)<|S2 1 J<|l4<|lq h (λq=>St.of [(3,.sl 12),(14,.I (v1.length:Int)),(15,.I q.1)] [(12,⟨List.map k9.Pv q.2,0,true,3,true⟩)]) W λq14 x13 h hx9=>?_;obtain⟨s11,s12⟩:=q14;refine S4 1 J<|l5 ?_;refine cN h (λhc h=>?_) λhc h=>?_
   .refine c8 ?_;refine l5<|l4<|S4 2 J<|S5 2 J<|y6 h λv15 hv10 h=>y0 J (aQ (f:=k9.Pv) hv10 J J J J Q5 U5 J)<|S1 1 J<|nV (f:=k9.Pv) (v:=(⟨v15.Target,v15.Intact,(-1)⟩:k9)) hv10 J J (.inl J) o7<|yN<|S6 2 J ?_;exact eL h W
   .refine p6 ?_;refine g8<|g8<|m8 ?_;have h:=xL hx9 h;exact eJ h W
theorem Em{a0}:PO Tryz.prog 121 [.I a0] (sY a0) λr=>.L g6.Pv r:=by
 refine pO Tryz.func121 λr h _ _=>?_;refine S4 1 J<|l5<|S3 3 J<|n0 J (λhg=>mI J)<|n0 J (λhg=>D2 (ct hg) J J)<|y0 J (O8 J J J (λq=>oG q))<|yN ?_;refine cN h (λhc h=>?_) λhc h=>?_
 .refine S4 1 J ?_;refine c5 ?_;cases h;exact f1
 .refine c8 ?_;refine S3 1 J<|y6 h λv1 hv1 h=>y1 J (AJ (f:=g6.Pv) hv1 J J J dw dj wM Hx J J J) J<|S2 1 J<|c5 ?_;cases h;exact f1
theorem ng{a0}:PO Tryz.prog 202 [.I a0] (cM a0) λr=>k8.Pv r:=by
 refine pO Tryz.func202 λr h _ _=>?_;unfold cM at h;refine S4 1 J<|S3 1 J<|y0 J (p7 (cs:=[.nl,.I a0]) J Lp Lx J J J)<|kK (x':=.agg [.nl,.I a0]) (cl':=true) J J (.inl J) cI<|yN<|c5 ?_;cases h;exact⟨J,[_],⟨oL J J J jl cI nl J,tr⟩,J,io⟩
theorem vP:PO Tryz.prog 122 [] (yY) λr=>k8.Pv r:=by
 refine pO Tryz.func122 λr h _ _=>?_;refine S4 1 J<|sR<|cF h ng J J λv1 _ h=>S2 1 J<|c5 ?_;cases h;exact⟨J,[_],⟨oL J J J jl cI nl J,tr⟩,J,io⟩
theorem Eo{a0 a1 a2}:PO Tryz.prog 63 [.I a0,.I a1,.I a2] (lB a0 a1 a2) λr=>b9.Pv r:=by
 refine pO Tryz.func63 λr h _ _=>?_;refine S4 1 J<|l5<|S3 3 J<|n0 J (λhg=>mI J)<|n0 J (λhg=>D2 (ct hg) J J)<|y0 J (O8 J J J (λq=>oG q))<|S1 1 J<|n0 J (λhg=>mI J)<|n0 J (λhg=>D2 (ct hg) J J)<|y0 J (O8 J J J (λq=>oG q))<|S1 1 J<|n0 J (λhg=>mI J)<|n0 J (λhg=>D2 (ct hg) J J)<|y0 J (O8 J J J (λq=>oG q))<|S1 1 J<|n0 J (λhg=>mI J)<|n0 J (λhg=>D2 (ct hg) J J)<|y0 J (O8 J J J (λq=>oG q))<|S1 1 J<|n0 J (λhg=>mI J)<|n0 J (λhg=>D2 (ct hg) J J)<|y0 J (O8 J J J (λq=>oG q))<|yN ?_;refine cN h (λhc h=>?_) λhc h=>?_
 .refine sR ?_;refine y0 J (p7 (cs:=[.nl,.I 0,.I 0,.nl,.nl,.nl,.nl,.I 0]) J Lq Ly J J J)<|kK (x':=.agg [.nl,.I 0,.I 0,.nl,.nl,.nl,.nl,.I 0]) (cl':=true) J J (.inl J) p9<|yN<|c5 ?_;cases h;exact⟨J,[_],⟨oL J J J u7 p9 nl J,tr⟩,J,io⟩
 .refine c8 ?_;refine dr [] u4 (by kernel_rfl) (by kernel_rfl)<|S7 2 J<|y6 h λv1 hv1 h=>eE J (w8 J Dw J hv1) J<|y6 h λv2 hv2 h=>d1 J (AJ (f:=iF) hv2 J J J m7 o7 C0 Q1 J J J) J J J<|y6 h λv3 hv3 h=>eE J (w8 J vX J hv3) J<|S7 1 J<|y6 h λv4 hv4 h=>eE J (w8 J Em J hv4) J<|y6 h λv5 hv5 h=>eE J (w8 J vP J hv5) J<|d7 J (λ_ hN=>p7 (cs:=[.L c9.Pv v1.S.b7,.I v1.S.Last,.I v1.Serial,.sl 33,.L k9.Pv v3,.L g6.Pv v4,.L g7.Pv v5.L,.I v5.Cap]) J Lq Ly J J J) J<|D1 (x':=.agg [.L c9.Pv v1.S.b7,.I v1.S.Last,.I v1.Serial,.sl 33,.L k9.Pv v3,.L g6.Pv v4,.L g7.Pv v5.L,.I v5.Cap]) (cl':=false) J J (.inr J) p9<|K2<|c5 ?_;cases h;exact⟨J,[_],⟨oL J J J u7 p9 nl J,tr⟩,J,io⟩
theorem kR{a0 a1 a2 a3}:PO Tryz.prog 26 [.I a0,.I a1,.I a2,.L (Ls j5.Pv) a3] (P6 a0 a1 a2 a3) λr=>.tup [s6.Pv r.1,.I r.2]:=by
 refine pO Tryz.func26 λr h _ _=>?_;refine S4 2 J<|l5<|S3 1 J<|cA h AD J J λv1 _ h=>S2 1 J ?_;refine cN h (λhc h=>?_) λhc h=>?_
 .refine sR ?_;refine y0 J (p7 (cs:=[.nl,.I 0,.I 0,.nl,.nl,.nl,.nl,.I 0,.nl]) J FT FU J J J)<|kK (x':=.agg [.nl,.I 0,.I 0,.nl,.nl,.nl,.nl,.I 0,.nl]) (cl':=true) J J (.inl J) dx<|S2 1 J<|c5 ?_;cases h;exact⟨J,[_,_],⟨oL J J J mq dx nl J,⟨J,tr⟩⟩,J,io⟩
 .refine c8 ?_;refine S3 3 J<|cF h Eo J J λv2 _ h=>S2 2 J<|l5<|S3 2 J<|nL J m7<|S2 1 J ?_;refine cN h (λhc h=>?_) λhc h=>?_
  .refine sR ?_;refine y0 J (p7 (cs:=[.nl,.I 0,.I 0,.nl,.nl,.nl,.nl,.I 0,.nl]) J FT FU J J J)<|kK (x':=.agg [.nl,.I 0,.I 0,.nl,.nl,.nl,.nl,.I 0,.nl]) (cl':=true) J J (.inl J) dx<|S2 1 J<|c5 ?_;cases h;exact⟨J,[_,_],⟨oL J J J mq dx nl J,⟨J,tr⟩⟩,J,io⟩
  .refine c8 ?_;refine S3 2 J<|y0 J (p7 (cs:=[.L c9.Pv v2.S.S.b7,.I v2.S.S.Last,.I v2.S.Serial,.L iF v2.Roots,.L k9.Pv v2.b7,.L g6.Pv v2.T,.L g7.Pv v2.Q.L,.I v2.Q.Cap,.L (Ls j5.Pv) a3]) J FT FU J J J)<|S2 2 J<|c5 ?_;cases h;exact⟨J,[_,_],⟨oL J J J mq dx nl J,⟨J,tr⟩⟩,J,io⟩
theorem tE{a0 a1 a2 a3}:PO Tryz.prog 13 [.I a0,.I a1,.I a2,.L (Ls j5.Pv) a3] (aV a0 a1 a2 a3) λr=>.tup [a8.Pv r.1,.I r.2]:=by
 refine pO Tryz.func13 λr h _ _=>?_;refine S4 2 J<|l5<|S3 4 J<|cF h kR J J λv1 _ h=>S2 6 J<|S4 2 J ?_;refine cN h (λhc h=>?_) λhc h=>?_
 .refine sR ?_;refine y0 J (p7 (cs:=[.nl,.nl,.nl,.I 0,.I 0,.I 0,.nl,.nl,.nl,.nl,.nl]) J Lm Lt J J J)<|S1 1 J<|kK (x':=.agg [.nl,.nl,.nl,.I 0,.I 0,.I 0,.nl,.nl,.nl,.nl,.nl]) (cl':=true) J J (.inl J) w7<|S2 1 J<|c5 ?_;cases h;exact⟨J,[_,_],⟨oL J J J A0 w7 nl J,⟨J,tr⟩⟩,J,io⟩
 .refine c8 ?_;refine dr [] u4 (by kernel_rfl) (by kernel_rfl)<|S7 1 J<|y6 h λv2 hv2 h=>d1 J (AJ (f:=iF) hv2 J J J m7 o7 C0 Q1 J J J) J J J<|S7 1 J<|d1 J (AJ (f:=iF) hv2 J J J m7 o7 C0 Q1 J J J) J J J<|S7 2 J<|y6 h λv3 hv3 h=>d1 J (AJ (f:=iF) hv3 J J J m7 o7 C0 Q1 J J J) J J J<|y6 h λv4 hv4 h=>eE J (w8 J vX J hv4) J<|S7 1 J<|d7 J (λ_ hN=>p7 (cs:=[.nl,.sl 25,.sl 27,.I a1,.I a2,.I 0,.sl 30,.L k9.Pv v4,.nl,.nl,.L (Ls j5.Pv) a3]) J Lm Lt J J J) J<|D1 (x':=.agg [.nl,.sl 25,.sl 27,.I a1,.I a2,.I 0,.sl 30,.L k9.Pv v4,.nl,.nl,.L (Ls j5.Pv) a3]) (cl':=false) J J (.inl J) w7<|S8 1 J<|c5 ?_;cases h;exact⟨J,[_,_],⟨oL J J J A0 w7 nl J,⟨J,tr⟩⟩,J,io⟩
theorem oy{a0}:PO Tryz.prog 50 [.L iF a0] (U6 a0) λr=>.tup [j5.Pv r.1,.I r.2]:=by
 refine pO Tryz.func50 λr h _ _=>?_;refine S4 2 J<|l5<|S3 1 J<|nL J m7<|S2 1 J ?_;refine cN h (λhc h=>?_) λhc h=>?_
 .refine sR ?_;refine y0 J (p7 (cs:=[.I 0,.I 0,.I 0,.I 0]) J wJ sj J J J)<|S2 2 J<|c5 ?_;cases h;exact⟨J,[_,_],⟨oL J J J wI iN nl J,⟨J,tr⟩⟩,J,io⟩
 .refine c8 ?_;refine dr [] u4 (by kernel_rfl) (by kernel_rfl)<|S7 1 J<|y6 h λv1 hv1 h=>d0 J (P4 (f:=iF) (cs:=[.I v1]) hv1 J J m7 o7 J J) J<|S7 2 J<|y6 h λv2 hv2 h=>d0 J (P4 (f:=iF) (cs:=[.I v2]) hv2 J J m7 o7 J J) J<|S7 2 J<|y6 h λv3 hv3 h=>d0 J (P4 (f:=iF) (cs:=[.I v3]) hv3 J J m7 o7 J J) J<|S7 2 J<|y6 h λv4 hv4 h=>d0 J (P4 (f:=iF) (cs:=[.I v4]) hv4 J J m7 o7 J J) J<|S7 1 J<|d7 J (λ_ hN=>p7 (cs:=[.I v1,.I v2,.I v3,.I v4]) J wJ sj J J J) J<|S7 1 J<|D1 (x':=.agg [.I v1,.I v2,.I v3,.I v4]) (cl':=true) J J (.inl J) iN<|K2<|l5<|S3 1 J<|cA h kM J J λv5 _ h=>S2 1 J<|S4 2 J ?_;refine cN h (λhc h=>?_) λhc h=>?_
  .refine sR ?_;refine y0 J (p7 (cs:=[.I 0,.I 0,.I 0,.I 0]) J wJ sj J J J)<|S2 3 J<|c5 ?_;cases h;exact⟨J,[_,_],⟨oL J J J wI iN nl J,⟨J,tr⟩⟩,J,io⟩
  .refine c8 ?_;refine S4 3 J<|c5 ?_;cases h;exact⟨J,[_,_],⟨oL J J J wI iN nl J,⟨J,tr⟩⟩,J,io⟩
theorem rC{a0}:PO Tryz.prog 145 [b8.Pv a0] (iw a0) λr=>.bool r:=by
 refine pO Tryz.func145 λr h _ _=>?_;unfold iw at h;refine S4 2 J<|S4 3 J<|c5 ?_;cases h;exact f1
theorem ae{a0}:PO Tryz.prog 60 [.L b8.Pv a0,.fn (.func 145) []] (C5 a0) λr=>.L b8.Pv r:=by
 refine pO Tryz.func60 λr h _ _=>?_;refine S4 1 J<|S4 1 J ?_;refine jq h (λj15=>St.of [(5,.sl 910005)] [(910005,⟨List.map b8.Pv j15,(List.map b8.Pv j15).length,true,7,true⟩)]) (λj15 h=>?_) λκ14 h=>?_
 .refine S4 2 J ?_;refine c5 ?_;cases h;exact f1
 .refine S3 1 J ?_;refine nL J B7<|S2 1 J<|l4<|lq h (λq=>St.of [(1,.fn (.func 145) []),(5,.sl 910005),(8,.L b8.Pv a0),(9,.I (a0.length:Int)),(10,.I q.1)] [(910005,⟨List.map b8.Pv q.2,(List.map b8.Pv q.2).length,true,7,true⟩)]) (Wk.trans (G4 (t:=5) (l:=920005) (z:=7) J J) (WP (λl=>if l=910005 then 920005 else l))) λq20 x19 h hx14=>?_;obtain⟨s17,s18⟩:=q20;refine S4 1 J<|l5 ?_;refine cN h (λhc h=>?_) λhc h=>?_
  .refine c8 ?_;refine jq h (λj25=>St.of [(1,.fn (.func 145) []),(5,.sl 20),(8,.L b8.Pv a0),(9,.I (a0.length:Int)),(10,.I s17)] [(20,⟨List.map b8.Pv j25,(List.map b8.Pv j25).length,true,7,true⟩)]) (λj25 h=>?_) λκ24 h=>?_
   .refine S6 2 J ?_;exact eL h (Wk.trans (n7 _ [20]) (WP (λl=>if l=910005 then 20 else l)))
   .refine l4 ?_;refine sR<|iL h J J B7 u9 λv26 _ h=>S2 3 J<|S3 2 J<|cA h rC J J λv27 _ h=>yN ?_;refine cN h (λhc h=>?_) λhc h=>?_
    .refine S5 2 J ?_;refine y0 J (I3 (f:=b8.Pv) (l:=[v26]) J B7 u9 al J J nl J J)<|y6 h λv28 hv21 h=>J5 J (I6 (f:=b8.Pv) hv21 J J J J J J (.inl ⟨_,J,J⟩) B7 u9 mr al J (λ_=>J)) J J J<|S2 1 J ?_;exact eJ h (Wk.trans (n7 _ [20]) W)
    .refine c8 ?_;exact eJ h (Wk.trans (n7 _ [910005]) (WP (λl=>if l=20 then 910005 else l)))
  .refine p6 ?_;refine g8<|g8<|m8 ?_;have h:=xL hx14 h;exact eJ h (Wk.trans (n7 _ [910005]) W)
theorem rD{a0}:PO Tryz.prog 118 [b8.Pv a0] (iz a0) λr=>.I r:=by
 refine pO Tryz.func118 λr h _ _=>?_;unfold iz at h;refine S4 2 J<|S4 3 J<|c5 ?_;cases h;exact f1
theorem V0{a0}:PO Tryz.prog 117 [.L b8.Pv a0,.fn (.func 118) []] (B6 a0) λr=>.L iF r:=by
 refine pO Tryz.func117 λr h _ _=>?_;refine S4 1 J<|S4 1 J ?_;refine jq h (λj10=>St.of [(5,.sl 910005)] [(910005,⟨List.map iF j10,(List.map iF j10).length,true,1,true⟩)]) (λj10 h=>?_) λκ9 h=>?_
 .refine S4 2 J ?_;refine c5 ?_;cases h;exact f1
 .refine S3 1 J ?_;refine nL J B7<|S2 1 J<|l4<|lq h (λq=>St.of [(1,.fn (.func 118) []),(5,.sl 910005),(8,.L b8.Pv a0),(9,.I (a0.length:Int)),(10,.I q.1)] [(910005,⟨List.map iF q.2,(List.map iF q.2).length,true,1,true⟩)]) (Wk.trans (G4 (t:=5) (l:=920005) (z:=1) J J) (WP (λl=>if l=910005 then 920005 else l))) λq15 x14 h hx10=>?_;obtain⟨s12,s13⟩:=q15;refine S4 1 J<|l5 ?_;refine cN h (λhc h=>?_) λhc h=>?_
  .refine c8 ?_;refine l5<|l4<|sR<|iL h J J B7 u9 λv16 _ h=>S2 3 J<|S5 3 J<|cA h rD J J λv17 _ h=>y0 J (I3 (f:=iF) (l:=[v17]) J m7 o7 C0 J J nl J J)<|y6 h λv18 hv13 h=>J5 J (I6 (f:=iF) hv13 J J J J J J (.inl ⟨_,J,J⟩) m7 o7 Q1 C0 J (λ_=>J)) J J J<|S2 1 J<|S6 2 J ?_;exact eL h (Wk.trans (n7 _ [19]) (WP (λl=>if l=910005 then 19 else l)))
  .refine p6 ?_;refine g8<|g8<|m8 ?_;have h:=xL hx10 h;exact eJ h (Wk.trans (n7 _ [910005]) W)
theorem cm{a0}:PO Tryz.prog 59 [.L b8.Pv a0] (I5 a0) λr=>.L iF r:=by
 refine pO Tryz.func59 λr h _ _=>?_;refine S4 1 J<|S3 1 J<|cF h V0 J J λv1 _ h=>S2 1 J<|c5 ?_;cases h;exact f1
theorem lO{a0}:PO Tryz.prog 146 [.I a0] (aY a0) λr=>e6.Pv r:=by
 refine pO Tryz.func146 λr h _ _=>?_;unfold aY at h;refine S4 1 J<|S3 1 J<|y0 J (p7 (cs:=[.nl,.I a0]) J Pk Py J J J)<|kK (x':=.agg [.nl,.I a0]) (cl':=true) J J (.inl J) ke<|yN<|c5 ?_;cases h;exact⟨J,[_],⟨oL J J J pK ke nl J,tr⟩,J,io⟩
theorem cq{a0}:PO Tryz.prog 115 [a8.Pv a0] (W4 a0) λr=>k8.Pv r:=by
 refine pO Tryz.func115 λr h _ _=>?_;unfold W4 at h;refine S4 2 J<|dr [] u4 (by kernel_rfl) (by kernel_rfl)<|S7 2 J<|y6 h λv1 hv1 h=>eE J (w8 J vP J hv1) J<|S7 1 J<|d7 J (λ_ hN=>p7 (cs:=[.L g7.Pv a0.Tasks,.I v1.Cap]) J Lp Lx J J J) J<|D1 (x':=.agg [.L g7.Pv a0.Tasks,.I v1.Cap]) (cl':=true) J J (.inr J) cI<|K2<|c5 ?_;cases h;exact⟨J,[_],⟨oL J J J jl cI nl J,tr⟩,J,io⟩
theorem yZ{a0 a1}:PO Tryz.prog 199 [k8.Pv a0,.I a1] (qj a0 a1) λr=>.fn (.func 277) [.rptr (k8.Pc r.1),.rptr [.I r.2]]:=by
 refine pO Tryz.func199 λr h _ _=>?_;unfold qj at h;refine S4 3 J<|S4 2 J<|c5 ?_;cases h;exact f1
theorem uh{a0}:PO Tryz.prog 114 [k8.Pv a0] (gk a0) λr=>.L iF r:=by
 refine pO Tryz.func114 λr h _ _=>?_;refine S4 2 J<|S4 1 J ?_;refine jq h (λj10=>St.of [(3,.ptr 2001 0 0)] [(2001,vS (.sl 912501) 1),(912501,⟨List.map iF j10,(List.map iF j10).length,true,1,true⟩)]) (λj10 h=>?_) λκ9 h=>?_
 .refine S4 2 J ?_;refine c5 ?_;cases h;exact f1
 .refine S3 1 J ?_;refine cF h yZ J J λv11 _ h=>yN<|l4<|bM (rW (λl=>if l=2011 then 3 else l) [(3,.ptr 2011 0 0),(6,.fn (.func 277) [.rptr (k8.Pc v11.1),.rptr [.I v11.2]])] [(2011,vR (.nl) 1)]) ?_;refine bL (fn:=Tryz.f277) (N1:=24) J Tryz.func277 J J nl J Hz J J (λl17 e18 o19 hR20=>?_);refine S3 2 J<|nL J I9<|S2 1 J<|l4<|lq h (λq=>St.of [(1000003,.ptr 2011 0 0),(1000006,.fn (.func 277) [.rptr (k8.Pc v11.1),.rptr [.I v11.2]]),(0,.fn (.yield l17) []),(2,.rptr [.I v11.2]),(7,.L g7.Pv v11.1.L),(8,.I (v11.1.L.length:Int)),(9,.I q.1)] [(2011,vS (.sl 912511) 1),(912511,⟨List.map iF q.2,(List.map iF q.2).length,true,1,true⟩)]) (Wk.trans (uw (l0:=2011) (j:=0) (l:=922511) (z:=1) J J J J J) (WP (λl=>if l=912511 then 922511 else l))) λq16 x15 h hx23=>?_;obtain⟨s13,s14⟩:=q16;refine S4 1 J<|l5 ?_;refine cN h (λhc h=>?_) λhc h=>?_
  .refine c8 ?_;refine l5<|l4<|sR<|iL h J J I9 C8 λv17 _ h=>S2 3 J<|S3 5 J<|n0 J (λhg=>om (d:=.fn (.yield l17) []) J)<|n0 J (λhg=>oL J J J bU C8 nl J) ?_;rcases zaw ((v17.Kind==v11.2)==true) with hg25 | hg25
   .have h:=Si h hg25;refine O1 (rW (λl=>if l=2019 then 912511 else l) [(1000003,.ptr 2011 0 0),(1000006,.fn (.func 277) [.rptr (k8.Pc v11.1),.rptr [.I v11.2]]),(0,.fn (.yield l17) []),(2,.rptr [.I v11.2]),(7,.L g7.Pv v11.1.L),(8,.I (v11.1.L.length:Int)),(9,.I s13),(17,.bool (v17.Kind==v11.2)),(18,.fn (.yield l17) []),(19,g7.Pv v17)] [(2011,vS (.sl 2019) 1),(2019,⟨List.map iF s14,(List.map iF s14).length,true,1,true⟩)]) ?_;refine ja hR20 (zX some hg25) J J J J J (λe26 o27 o28=>?_);refine S6 2 J ?_;refine⟨J,?_⟩;refine l4<|S5 3 J<|y0 J (I3 (f:=iF) (l:=[v17.At]) J m7 o7 C0 J J nl J J)<|y6 h λv18 hv29 h=>J5 J (I6 (f:=iF) hv29 J J J J J J (.inl ⟨_,J,J⟩) m7 o7 Q1 C0 J (λ_=>J)) J J J<|S2 1 J ?_;refine⟨J,?_⟩;refine O1 (rW (λl=>if l=2020 then 12 else l) [(1000003,.ptr 2011 0 0),(1000006,.fn (.func 277) [.rptr (k8.Pc v11.1),.rptr [.I v11.2]]),(0,.fn (.yield l17) []),(2,.rptr [.I v11.2]),(7,.L g7.Pv v11.1.L),(8,.I (v11.1.L.length:Int)),(9,.I s13),(17,.bool (v17.Kind==v11.2)),(20,.bool true)] [(2011,vS (.sl 2020) 1),(2020,⟨List.map iF v18,s14.length,true,1,true⟩)])<|y0 (zX some hg25) (fK J J)<|y0 J (kG J J hg25)<|yN ?_;refine G6 false J (λq=>nomatch q) (λ_=>?_);refine c8<|S6 2 J ?_;exact eL h (Wk.trans (n7 _ [2020]) (WP (λl=>if l=912511 then 2020 else l)))
   .have h:=Sg h hg25;refine cS (zX some hg25)<|cS (zX some hg25)<|y0 J (nb J J hg25)<|yN ?_;refine G6 false J (λq=>nomatch q) (λ_=>?_);refine c8<|S6 2 J ?_;exact eL h (Wk.trans (n7 _ [912511]) W)
  .refine p6 ?_;refine g8<|g8<|m8 ?_;refine .inl ⟨J,?_⟩;have h:=xL hx23 h;exact eJ h (Wk.trans (n7 _ [912511]) (WP (λl=>if l=2001 then 2011 else if l=912501 then 912511 else l)))
theorem df{a0}:PO Tryz.prog 116 [.L (Ls iF) a0] (F7 a0) λr=>.L iF r:=by
 refine pO Tryz.func116 λr h _ _=>?_;refine S4 1 J<|S4 1 J ?_;refine jq h (λj11=>St.of [(0,.L (Ls iF) a0),(3,.I j11)] []) (λj11 h=>?_) λκ10 h=>?_
 .refine S3 1 J ?_;refine O1 (WE [(0,.L (Ls iF) a0),(23,.I j11)] []) ?_;refine uz (fn:=Tryz.f200) (N1:=27) J J Tryz.func200 J OR J J nl (λe8 o9=>?_);refine S4 1 J ?_;refine jq h (λ_=>St.of [(1000000,.L (Ls iF) a0),(1000023,.I j11),(0,.nl),(1,.I j11)] []) (λq13 h=>?_) λκ12 h=>?_
  .refine l5 ?_;refine S3 2 J<|Jt J J m7<|S1 1 J<|nL (f:=iF) (xs:=[]) J m7<|S2 3 J<|S4 2 J ?_;refine cN h (λhc h=>?_) λhc h=>?_
   .refine S5 2 J ?_;refine Jt J J m7<|y0 J (xa (t':=true) (xs:=[]) (ys:=[]) J m7 o7 (λ_ q=>nomatch q) J ⟨_,J⟩ J (λq=>nomatch q) (zG _) (zV _) (zG _) J J)<|S1 1 J<|y6 h λv14 hv11 h=>SG (f:=iF) J hv11 J nl J J m7 I0 o7 nl C0 Q1 J J J<|S1 1 J<|nL (f:=iF) (xs:=[]) J m7<|Oz [(1000000,.L (Ls iF) a0),(1000023,.I j11),(0,.nl),(1,.I (w9 (j11-(w9 (0-0))))),(8,.I j11),(9,.nl),(10,.I 0),(11,.nl),(12,.I 0),(13,.I (w9 (0-0))),(14,.I (w9 (j11-(w9 (0-0))))),(15,.I (w9 (j11-(w9 (0-0))))),(16,.bool (decide ((w9 (j11-(w9 (0-0)))) > 0))),(17,.nl),(18,.nl),(19,.I 0),(20,.nl),(21,.I (w9 (j11-(w9 (0-0))))),(23,.nl),(24,.I 0)] [] J ⟨J,J,J,J,J,J,J,J,J,J,J,J,J,J,J,J,J,J,J,J,J,J,J,J,J,J,J,J,J,J,J,J,J,J,J,J,J,J,J,J,J,J,J,J,J,J,J,J,J,J,J,J,J,J,J,J,J,J,J,J,tr⟩ tr J J nl J J J m7 o7<|S2 1 J<|S4 2 J<|c5 ?_;refine⟨J,[.sl 25],⟨J,tr⟩,?_⟩;refine O1 (rW (λl=>if l=2001 then 25 else l) [(0,.L (Ls iF) a0),(24,.sl 2001)] [(2001,⟨List.map iF [],0,true,1,true⟩)])<|S2 1 J ?_;refine jq h (λj23=>St.of [(6,.sl 2001)] [(2001,⟨List.map iF j23,(List.map iF j23).length,true,1,true⟩)]) (λj23 h=>?_) λκ22 h=>?_
    .refine S4 2 J ?_;refine c5 ?_;cases h;exact f1
    .refine S3 1 J ?_;refine nL J bf<|S2 1 J<|l4<|lq h (λq=>St.of [(6,.sl 2001),(25,.L (Ls iF) a0),(26,.I (a0.length:Int)),(27,.I q.1)] [(2001,⟨List.map iF q.2,(List.map iF q.2).length,true,1,true⟩)]) (Wk.trans (n7 _ [2001]) W) λq28 x27 h hx20=>?_;obtain⟨s25,s26⟩:=q28;refine S4 1 J<|l5 ?_;refine cN h (λhc h=>?_) λhc h=>?_
     .refine c8 ?_;refine l5<|l4<|sR<|iL h J J bf bD λv29 _ h=>S2 2 J<|S5 2 J<|y6 h λv30 hv22 h=>J5 J (I6 (f:=iF) hv22 J J J J J J (.inl ⟨_,J,J⟩) m7 o7 Q1 C0 J (λ_=>J)) J J J<|S2 1 J<|S6 2 J ?_;exact eL h (Wk.trans (n7 _ [33]) (WP (λl=>if l=2001 then 33 else l)))
     .refine p6 ?_;refine g8<|g8<|m8 ?_;have h:=xL hx20 h;exact eJ h (Wk.trans (n7 _ [2001]) W)
   .refine c8 ?_;refine S4 2 J<|c5 ?_;refine⟨J,[.nl],⟨J,tr⟩,?_⟩;refine O1 (WE [(0,.L (Ls iF) a0),(24,.nl)] [])<|S2 1 J ?_;refine jq h (λj39=>St.of [(6,.sl 910006)] [(910006,⟨List.map iF j39,(List.map iF j39).length,true,1,true⟩)]) (λj39 h=>?_) λκ38 h=>?_
    .refine S4 2 J ?_;refine c5 ?_;cases h;exact f1
    .refine S3 1 J ?_;refine nL J bf<|S2 1 J<|l4<|lq h (λq=>St.of [(6,.sl 910006),(25,.L (Ls iF) a0),(26,.I (a0.length:Int)),(27,.I q.1)] [(910006,⟨List.map iF q.2,(List.map iF q.2).length,true,1,true⟩)]) (Wk.trans (G4 (t:=6) (l:=920006) (z:=1) J J) (WP (λl=>if l=910006 then 920006 else l))) λq44 x43 h hx31=>?_;obtain⟨s41,s42⟩:=q44;refine S4 1 J<|l5 ?_;refine cN h (λhc h=>?_) λhc h=>?_
     .refine c8 ?_;refine l5<|l4<|sR<|iL h J J bf bD λv45 _ h=>S2 2 J<|S5 2 J<|y6 h λv46 hv33 h=>J5 J (I6 (f:=iF) hv33 J J J J J J (.inl ⟨_,J,J⟩) m7 o7 Q1 C0 J (λ_=>J)) J J J<|S2 1 J<|S6 2 J ?_;exact eL h (Wk.trans (n7 _ [33]) (WP (λl=>if l=910006 then 33 else l)))
     .refine p6 ?_;refine g8<|g8<|m8 ?_;have h:=xL hx31 h;exact eJ h (Wk.trans (n7 _ [910006]) W)
  .refine S4 2 J ?_;refine cN h (λhc h=>?_) λhc h=>?_;·cases h
   .refine c8 ?_;exact eJ h W
 .refine S3 1 J ?_;refine nL J bf<|S2 1 J<|l4<|lq h (λq=>St.of [(0,.L (Ls iF) a0),(3,.I q.1),(9,.L (Ls iF) a0),(10,.I (a0.length:Int)),(11,.I q.2)] []) W λq51 x50 h hx36=>?_;obtain⟨s48,s49⟩:=q51;refine S4 1 J<|l5 ?_;refine cN h (λhc h=>?_) λhc h=>?_
  .refine c8 ?_;refine jq h (λj54=>St.of [(0,.L (Ls iF) a0),(3,.I j54),(9,.L (Ls iF) a0),(10,.I (a0.length:Int)),(11,.I s49)] []) (λj54 h=>?_) λκ53 h=>?_
   .refine S6 2 J ?_;exact eL h W
   .refine l4 ?_;refine sR<|iL h J J bf bD λv55 _ h=>S2 2 J<|S3 2 J<|nL J m7<|S2 2 J<|S4 2 J ?_;refine cN h (λhc h=>?_) λhc h=>?_;·cases h
    .refine c8 ?_;exact eJ h W
  .refine p6 ?_;refine g8<|g8<|m8 ?_;have h:=xL hx36 h;exact eJ h W
theorem R9{a0}:PO Tryz.prog 149 [e6.Pv a0] (H5 a0) λr=>.I r:=by
 refine pO Tryz.func149 λr h _ _=>?_;unfold H5 at h;refine S4 2 J<|S3 2 J<|nL J m7<|S2 1 J<|c5 ?_;cases h;exact f1
theorem fm{a0 a1 a2}:PO Tryz.prog 258 [.L iF a0,.I a1,.I a2] (T3 a0 a1 a2) λr=>.lst true (List.map iF r):=by
 refine pO Tryz.func258 λr h _ _=>?_;unfold T3 at h;refine S4 1 J<|S3 4 J<|y6 h λv1 hv1 h=>y0 J (Nh (f:=iF) hv1 J ⟨_,J⟩ ⟨_,J⟩ ⟨_,J⟩ J J m7 o7 (λ_=>J))<|S2 1 J<|c5 ?_;cases h;exact f1
theorem V4{a0 a1}:PO Tryz.prog 148 [e6.Pv a0,.I a1] (D6 a0 a1) λr=>.tup [e6.Pv r.1,.I r.2]:=by
 refine pO Tryz.func148 λr h _ _=>?_;unfold D6 at h;refine S4 3 J<|l5<|dr [] u4 (by kernel_rfl) (by kernel_rfl)<|S7 1 J<|y6 h λv1 hv1 h=>d2 J (R8 J R9 J hv1) J<|S8 3 J ?_;refine cN h (λhc h=>?_) λhc h=>?_
 .refine S4 3 J ?_;refine c5 ?_;cases h;exact⟨J,[_,_],⟨oL J J J pK ke nl J,⟨J,tr⟩⟩,J,io⟩
 .refine c8 ?_;refine dr [] u4 (by kernel_rfl) (by kernel_rfl)<|S7 3 J<|d2 J (R8 J R9 J hv1) J<|y6 h λv2 hv2 h=>eE J (w8 J fm J hv2) J<|S7 1 J<|VL J (I3 (f:=iF) (l:=[a1]) J m7 o7 C0 J J nl J J) J<|y6 h λv3 hv3 h=>d3 J (yw (f:=iF) hv3 J J (.inl ⟨_,J,J⟩) m7 o7 Q1 C0 J (λ_=>J)) J J J<|S7 1 J<|D1 (x':=.agg [.sl 19,.I a0.Cap]) (cl':=false) J J (.inl J) bD<|K2<|S4 3 J<|c5 ?_;cases h;exact⟨J,[_,_],⟨oL J J J pK ke nl J,⟨J,tr⟩⟩,J,io⟩
theorem rM{a0 a1}:PO Tryz.prog 259 [e6.Pv a0,.I a1] (iC a0 a1) λr=>.tup [e6.Pv r.1,.L iF r.2]:=by
 refine pO Tryz.func259 λr h _ _=>?_;refine S4 3 J<|S3 2 J<|cA h R9 J J λv1 hv1 h=>y0 J (Su J J J)<|y0 J (Ni J J J)<|S2 1 J<|S3 3 J<|cF h fm J J λv2 _ h=>S2 1 J<|dr [] u4 (by kernel_rfl) (by kernel_rfl)<|S7 4 J<|d2 J (R8 J R9 J hv1) J<|y6 h λv3 hv3 h=>eE J (w8 J fm J hv3) J<|S7 1 J<|D1 (x':=.agg [.L iF v3,.I a0.Cap]) (cl':=true) J J (.inr J) bD<|K2<|S4 4 J<|c5 ?_;cases h;exact⟨J,[_,_],⟨oL J J J pK ke nl J,⟨J,tr⟩⟩,J,io⟩
theorem lP{a0}:PO Tryz.prog 150 [e6.Pv a0] (W5 a0) λr=>.tup [e6.Pv r.1,.I r.2.1,.I r.2.2]:=by
 refine pO Tryz.func150 λr h _ _=>?_;refine S4 4 J<|S3 1 J<|cF h rM J J λv1 _ h=>S2 6 J<|l5<|S3 1 J<|nL J m7<|S2 1 J ?_;refine cN h (λhc h=>?_) λhc h=>?_
 .refine S4 1 J ?_;refine S4 5 J<|c5 ?_;cases h;exact⟨J,[_,_,_],⟨oL J J J pK ke nl J,⟨J,⟨J,tr⟩⟩⟩,J,io⟩
 .refine c8 ?_;refine dr [2,3] u4 (by kernel_rfl) (by kernel_rfl)<|S7 2 J<|y6 h λv2 hv2 h=>d7 J (λ_ hN=>P4 (f:=iF) (cs:=[.I v2]) hv2 J J m7 o7 J J) J<|d7 J (λ_ hN=>V2 J K1 J) J<|D1 (x':=e6.Pv v1.1) (cl':=true) J J (.inr J) ke<|S8 2 J<|c5 ?_;cases h;exact⟨J,[_,_,_],⟨oL J J J pK ke nl J,⟨J,⟨J,tr⟩⟩⟩,J,io⟩
theorem wv{a0 a1}:PO Tryz.prog 260 [b8.Pv a0,.rptr [.I a1]] (fe a0 a1) λr=>.bool r:=by
 refine pO Tryz.func260 λr h _ _=>?_;unfold fe at h;refine S4 2 J<|S4 5 J<|c5 ?_;cases h;exact f1
theorem P1{a0 a1}:PO Tryz.prog 157 [.L b8.Pv a0,.fn (.func 260) [.rptr [.I a1]]] (y9 a0 a1) λr=>.I r:=by
 refine pO Tryz.func157 λr h _ _=>?_;refine S4 1 J ?_;refine jq h (λ_=>St.of [] []) (λq7 h=>?_) λκ6 h=>?_
 .refine S4 1 J ?_;refine c5 ?_;cases h;exact f1
 .refine S3 1 J ?_;refine nL J B7<|S2 1 J<|l4<|lq h (λs9=>St.of [(0,.L b8.Pv a0),(1,.fn (.func 260) [.rptr [.I a1]]),(7,.I (a0.length:Int)),(8,.I s9)] []) W λs9 x10 h hx9=>S4 1 J<|l5 ?_;refine cN h (λhc h=>?_) λhc h=>?_
  .refine c8 ?_;refine l5<|l4<|S4 2 J<|S3 3 J<|iL h J J B7 u9 λv11 _ h=>S1 1 J<|cA h wv J J λv12 _ h=>yN ?_;refine cN h (λhc h=>?_) λhc h=>?_
   .refine S4 2 J ?_;refine c5 ?_;have h:=xL hx9 h;cases h;exact f1
   .refine c8 ?_;refine S6 2 J ?_;exact eL h W
  .refine p6 ?_;refine g8<|g8<|m8 ?_;have h:=xL hx9 h;exact eJ h W
theorem R4{a0 a1}:PO Tryz.prog 151 [a8.Pv a0,.I a1] (J0 a0 a1) λr=>.I r:=by
 refine pO Tryz.func151 λr h _ _=>?_;refine S4 3 J<|S3 3 J<|cA h P1 J J λv1 _ h=>S2 1 J<|c5 ?_;cases h;exact f1
theorem qv{a0 a1}:PO Tryz.prog 261 [k7.Pv a0,.rptr [.I a1]] (cp a0 a1) λr=>.bool r:=by
 refine pO Tryz.func261 λr h _ _=>?_;unfold cp at h;refine S4 2 J<|S4 5 J<|c5 ?_;cases h;exact f1
theorem Z1{a0 a1}:PO Tryz.prog 163 [.L k7.Pv a0,.fn (.func 261) [.rptr [.I a1]]] (C3 a0 a1) λr=>.L k7.Pv r:=by
 refine pO Tryz.func163 λr h _ _=>?_;refine S4 1 J<|S4 1 J ?_;refine jq h (λj15=>St.of [(5,.sl 910005)] [(910005,⟨List.map k7.Pv j15,(List.map k7.Pv j15).length,true,2,true⟩)]) (λj15 h=>?_) λκ14 h=>?_
 .refine S4 2 J ?_;refine c5 ?_;cases h;exact f1
 .refine S3 1 J ?_;refine nL J M4<|S2 1 J<|l4<|lq h (λq=>St.of [(1,.fn (.func 261) [.rptr [.I a1]]),(5,.sl 910005),(8,.L k7.Pv a0),(9,.I (a0.length:Int)),(10,.I q.1)] [(910005,⟨List.map k7.Pv q.2,(List.map k7.Pv q.2).length,true,2,true⟩)]) (Wk.trans (G4 (t:=5) (l:=920005) (z:=2) J J) (WP (λl=>if l=910005 then 920005 else l))) λq20 x19 h hx14=>?_;obtain⟨s17,s18⟩:=q20;refine S4 1 J<|l5 ?_;refine cN h (λhc h=>?_) λhc h=>?_
  .refine c8 ?_;refine jq h (λj25=>St.of [(1,.fn (.func 261) [.rptr [.I a1]]),(5,.sl 20),(8,.L k7.Pv a0),(9,.I (a0.length:Int)),(10,.I s17)] [(20,⟨List.map k7.Pv j25,(List.map k7.Pv j25).length,true,2,true⟩)]) (λj25 h=>?_) λκ24 h=>?_
   .refine S6 2 J ?_;exact eL h (Wk.trans (n7 _ [20]) (WP (λl=>if l=910005 then 20 else l)))
   .refine l4 ?_;refine sR<|iL h J J M4 T7 λv26 _ h=>S2 3 J<|S3 2 J<|cA h qv J J λv27 _ h=>yN ?_;refine cN h (λhc h=>?_) λhc h=>?_
    .refine S5 2 J ?_;refine y0 J (I3 (f:=k7.Pv) (l:=[v26]) J M4 T7 aq J J nl J J)<|y6 h λv28 hv21 h=>J5 J (I6 (f:=k7.Pv) hv21 J J J J J J (.inl ⟨_,J,J⟩) M4 T7 pL aq J (λ_=>J)) J J J<|S2 1 J ?_;exact eJ h (Wk.trans (n7 _ [20]) W)
    .refine c8 ?_;exact eJ h (Wk.trans (n7 _ [910005]) (WP (λl=>if l=20 then 910005 else l)))
  .refine p6 ?_;refine g8<|g8<|m8 ?_;have h:=xL hx14 h;exact eJ h (Wk.trans (n7 _ [910005]) W)
theorem qw{a0}:PO Tryz.prog 262 [k7.Pv a0] (fW a0) λr=>.I r:=by
 refine pO Tryz.func262 λr h _ _=>?_;unfold fW at h;refine S4 2 J<|S4 3 J<|c5 ?_;cases h;exact f1
theorem U1{a0}:PO Tryz.prog 112 [.L k7.Pv a0,.fn (.func 262) []] (E1 a0) λr=>.L iF r:=by
 refine pO Tryz.func112 λr h _ _=>?_;refine S4 1 J<|S4 1 J ?_;refine jq h (λj10=>St.of [(5,.sl 910005)] [(910005,⟨List.map iF j10,(List.map iF j10).length,true,1,true⟩)]) (λj10 h=>?_) λκ9 h=>?_
 .refine S4 2 J ?_;refine c5 ?_;cases h;exact f1
 .refine S3 1 J ?_;refine nL J M4<|S2 1 J<|l4<|lq h (λq=>St.of [(1,.fn (.func 262) []),(5,.sl 910005),(8,.L k7.Pv a0),(9,.I (a0.length:Int)),(10,.I q.1)] [(910005,⟨List.map iF q.2,(List.map iF q.2).length,true,1,true⟩)]) (Wk.trans (G4 (t:=5) (l:=920005) (z:=1) J J) (WP (λl=>if l=910005 then 920005 else l))) λq15 x14 h hx10=>?_;obtain⟨s12,s13⟩:=q15;refine S4 1 J<|l5 ?_;refine cN h (λhc h=>?_) λhc h=>?_
  .refine c8 ?_;refine l5<|l4<|sR<|iL h J J M4 T7 λv16 _ h=>S2 3 J<|S5 3 J<|cA h qw J J λv17 _ h=>y0 J (I3 (f:=iF) (l:=[v17]) J m7 o7 C0 J J nl J J)<|y6 h λv18 hv13 h=>J5 J (I6 (f:=iF) hv13 J J J J J J (.inl ⟨_,J,J⟩) m7 o7 Q1 C0 J (λ_=>J)) J J J<|S2 1 J<|S6 2 J ?_;exact eL h (Wk.trans (n7 _ [19]) (WP (λl=>if l=910005 then 19 else l)))
  .refine p6 ?_;refine g8<|g8<|m8 ?_;have h:=xL hx10 h;exact eJ h (Wk.trans (n7 _ [910005]) W)
theorem kD{a0 a1}:PO Tryz.prog 152 [a8.Pv a0,.I a1] (O7 a0 a1) λr=>.L iF r:=by
 refine pO Tryz.func152 λr h _ _=>?_;unfold O7 at h;refine S4 3 J<|S3 3 J<|y6 h λv1 hv1 h=>Ju J (w8 J Z1 J hv1) J<|S2 1 J<|S3 1 J<|cF h U1 J J λv2 _ h=>S2 1 J<|c5 ?_;cases h;exact f1
theorem va{a0}:PO Tryz.prog 82 [a8.Pv a0] (gE a0) λr=>.abs (U0 (List.map (bW iF PV.bool) r)):=by
 refine pO Tryz.func82 λr h _ _=>?_;refine S4 2 J<|S3 2 J<|cF h ae J J λv1 _ h=>cF h cm J J λv2 _ h=>S2 1 J<|sR<|BS (KT:=Int) (VT:=Bool) (EK:=iF) (E:=PV.bool) 5000012 J J<|Z7 (es:=[]) (k:=0) (v:=true) (E:=PV.bool) (EK:=iF) (.inr J) J J J J J J Q2 (x8 I0)<|S2 3 J<|S3 2 J<|nL J B7<|cF h lO J J λv3 _ h=>S2 2 J<|S4 2 J<|Xh [] 9 u4 (by kernel_rfl) (by kernel_rfl) (by kernel_rfl) (by kernel_rfl) nl<|S7 4 J<|y6 h λv4 hv4 h=>eE J (w8 J cq J hv4) J<|y6 h λv5 hv5 h=>eE J (w8 J uh J hv5) J<|S7 1 J<|VL J (I3 (f:=(Ls iF)) (l:=[a0.Roots,v5,v2]) J bf bD xv J J nl J J) J<|y6 h λv6 hv6 h=>eE J (w8 J df J hv6) J<|K2<|CT (rW (λl=>if l=2001 then 5 else if l=2002 then 4 else if l=2003 then 1 else if l=5002004 then 5000012 else l) [(1,.ptr 2003 0 0),(4,.ptr 2002 0 0),(5,.ptr 2001 0 0),(6,.fn (.func 147) [.ptr 2002 0 0,.ptr 2001 0 0]),(19,.fn (.func 147) [.ptr 2002 0 0,.ptr 2001 0 0]),(27,.L iF v6)] [(2001,vR (e6.Pv v3) 2),(2002,vS (.mp 5002004) 1),(5002004,⟨[.mapc (List.map (bW iF PV.bool) (p8 [] 0 true))],0,false,0,false⟩),(2003,vR (a8.Pv a0) 11)]) ?_;refine Hr (fn:=Tryz.f147) (N1:=25) J J J Tryz.func147 J BY J J nl (λe7 o8=>?_);refine Vy h (λq=>St.of [(1000001,.ptr 2003 0 0),(1000004,.ptr 2002 0 0),(1000005,.ptr 2001 0 0),(1000006,.fn (.func 147) [.ptr 2002 0 0,.ptr 2001 0 0]),(1000019,.fn (.func 147) [.ptr 2002 0 0,.ptr 2001 0 0]),(1000027,.L iF v6)] [(2001,vR (e6.Pv q.1) 2),(2002,vS (.mp 5002004) 1),(5002004,⟨[.mapc (List.map (bW iF PV.bool) q.2)],0,false,0,false⟩),(2003,vR (a8.Pv a0) 11)]) (λq24 h=>dup ?_) λκ21 h=>?_
 .obtain⟨j22,j23⟩:=q24;refine⟨J,[],tr,?_⟩;refine⟨_,ux [(1,.ptr 2003 0 0),(4,.ptr 2002 0 0),(5,.ptr 2001 0 0),(6,.fn (.func 147) [.ptr 2002 0 0,.ptr 2001 0 0])] [(2001,vR (e6.Pv j22) 2),(2002,vS (.mp 5002004) 1),(5002004,⟨[.mapc (List.map (bW iF PV.bool) j23)],0,false,0,false⟩),(2003,vR (a8.Pv a0) 11)] ⟨J,J,J,J,J,J,J,J,J,J,J,J,tr⟩ ⟨rS,W8 J J J (λq=>nomatch q) J J J J,W8 J J J (λq=>nomatch q) J J J J,rS,tr⟩,?_⟩;refine K2 ?_;refine jq h (λj100=>St.of [(4,.ptr 2002 0 0)] [(2002,vS (.mp 5002004) 1),(5002004,⟨[.mapc (List.map (bW iF PV.bool) j100)],0,false,0,false⟩)]) (λj100 h=>?_) λκ99 h=>?_
  .refine S4 2 J ?_;refine bM (DF 2 5002004 J J)<|c5 ?_;cases h;exact f1
  .refine l4 ?_;refine lq h (λq=>St.of [(1,.ptr 2003 0 0),(4,.ptr 2002 0 0),(5,.ptr 2001 0 0),(6,.fn (.func 147) [.ptr 2002 0 0,.ptr 2001 0 0])] [(2001,vR (e6.Pv q.1) 2),(2002,vS (.mp 5002004) 1),(5002004,⟨[.mapc (List.map (bW iF PV.bool) q.2)],0,false,0,false⟩),(2003,vR (a8.Pv a0) 11)]) W λq105 x104 h hx67=>?_;obtain⟨s102,s103⟩:=q105;refine l5<|S3 1 J<|cA h R9 J J λv106 _ h=>S2 1 J ?_;refine cN h (λhc h=>?_) λhc h=>?_
   .refine c8 ?_;refine l4<|S4 1 J<|S3 1 J<|cF h lP J J λv107 _ h=>S2 6 J<|Xh [] 9 u4 (by kernel_rfl) (by kernel_rfl) (by kernel_rfl) (by kernel_rfl) nl<|S7 5 J<|y6 h λv108 hv70 h=>d2 J (R8 J R4 J hv70) J<|y6 h λv109 hv71 h=>d0 J (P4 (f:=b8.Pv) (cs:=b8.Pc v109) hv71 J J B7 u9 J J) J<|S8 2 J<|CT (WE [(1,.ptr 2003 0 0),(4,.ptr 2002 0 0),(5,.ptr 2001 0 0),(6,.fn (.func 147) [.ptr 2002 0 0,.ptr 2001 0 0]),(7,.I v107.2.1),(38,.fn (.func 147) [.ptr 2002 0 0,.ptr 2001 0 0]),(46,.L iF v109.Fields)] [(2001,vR (e6.Pv v107.1) 2),(2002,vS (.mp 5002004) 1),(5002004,⟨[.mapc (List.map (bW iF PV.bool) s103)],0,false,0,false⟩),(2003,vR (a8.Pv a0) 11)]) ?_;refine Hr (fn:=Tryz.f147) (N1:=25) J J J Tryz.func147 J BY J J nl (λe72 o73=>?_);refine Vy h (λq=>St.of [(1000001,.ptr 2003 0 0),(1000004,.ptr 2002 0 0),(1000005,.ptr 2001 0 0),(1000006,.fn (.func 147) [.ptr 2002 0 0,.ptr 2001 0 0]),(1000007,.I v107.2.1),(1000038,.fn (.func 147) [.ptr 2002 0 0,.ptr 2001 0 0]),(1000046,.L iF v109.Fields)] [(2001,vR (e6.Pv q.1) 2),(2002,vS (.mp 5002004) 1),(5002004,⟨[.mapc (List.map (bW iF PV.bool) q.2)],0,false,0,false⟩),(2003,vR (a8.Pv a0) 11)]) (λq127 h=>dup ?_) λκ124 h=>?_
    .obtain⟨j125,j126⟩:=q127;refine⟨J,[],tr,?_⟩;refine⟨_,ux [(1,.ptr 2003 0 0),(4,.ptr 2002 0 0),(5,.ptr 2001 0 0),(6,.fn (.func 147) [.ptr 2002 0 0,.ptr 2001 0 0]),(7,.I v107.2.1)] [(2001,vR (e6.Pv j125) 2),(2002,vS (.mp 5002004) 1),(5002004,⟨[.mapc (List.map (bW iF PV.bool) j126)],0,false,0,false⟩),(2003,vR (a8.Pv a0) 11)] ⟨J,J,J,J,J,J,J,J,J,J,J,J,J,J,J,tr⟩ ⟨rS,W8 J J J (λq=>nomatch q) J J J J,W8 J J J (λq=>nomatch q) J J J J,rS,tr⟩,?_⟩;refine K2<|S5 3 J<|cF h kD J J λv128 _ h=>O1 (WE [(1,.ptr 2003 0 0),(4,.ptr 2002 0 0),(5,.ptr 2001 0 0),(6,.fn (.func 147) [.ptr 2002 0 0,.ptr 2001 0 0]),(48,.fn (.func 147) [.ptr 2002 0 0,.ptr 2001 0 0]),(51,.L iF v128)] [(2001,vR (e6.Pv j125) 2),(2002,vS (.mp 5002004) 1),(5002004,⟨[.mapc (List.map (bW iF PV.bool) j126)],0,false,0,false⟩),(2003,vR (a8.Pv a0) 11)]) ?_;refine uz (fn:=Tryz.f147) (N1:=25) J J Tryz.func147 J BY J J nl (λe84 o85=>?_);refine Vy h (λq=>St.of [(1000001,.ptr 2003 0 0),(1000004,.ptr 2002 0 0),(1000005,.ptr 2001 0 0),(1000006,.fn (.func 147) [.ptr 2002 0 0,.ptr 2001 0 0]),(1000048,.fn (.func 147) [.ptr 2002 0 0,.ptr 2001 0 0]),(1000051,.L iF v128)] [(2001,vR (e6.Pv q.1) 2),(2002,vS (.mp 5002004) 1),(5002004,⟨[.mapc (List.map (bW iF PV.bool) q.2)],0,false,0,false⟩),(2003,vR (a8.Pv a0) 11)]) (λq146 h=>dup ?_) λκ143 h=>?_
     .obtain⟨j144,j145⟩:=q146;refine⟨J,[],tr,?_⟩;refine O1 (WE [(1,.ptr 2003 0 0),(4,.ptr 2002 0 0),(5,.ptr 2001 0 0),(6,.fn (.func 147) [.ptr 2002 0 0,.ptr 2001 0 0])] [(2001,vR (e6.Pv j144) 2),(2002,vS (.mp 5002004) 1),(5002004,⟨[.mapc (List.map (bW iF PV.bool) j145)],0,false,0,false⟩),(2003,vR (a8.Pv a0) 11)])<|yN ?_;exact eL h W
     .refine S3 1 J ?_;refine nL J m7<|S2 1 J<|l4<|lq h (λq=>St.of [(1000001,.ptr 2003 0 0),(1000004,.ptr 2002 0 0),(1000005,.ptr 2001 0 0),(1000006,.fn (.func 147) [.ptr 2002 0 0,.ptr 2001 0 0]),(1000048,.fn (.func 147) [.ptr 2002 0 0,.ptr 2001 0 0]),(1000051,.L iF v128),(1,.ptr 2002 0 0),(2,.ptr 2001 0 0),(6,.L iF v128),(7,.I (v128.length:Int)),(8,.I q.1)] [(2001,vR (e6.Pv q.2.1) 2),(2002,vS (.mp 5002004) 1),(5002004,⟨[.mapc (List.map (bW iF PV.bool) q.2.2)],0,false,0,false⟩),(2003,vR (a8.Pv a0) 11)]) W λq152 x151 h hx97=>?_;obtain⟨s148,s149,s150⟩:=q152;refine S4 1 J<|l5 ?_;refine cN h (λhc h=>?_) λhc h=>?_
      .refine c8 ?_;refine jq h (λq=>St.of [(1000001,.ptr 2003 0 0),(1000004,.ptr 2002 0 0),(1000005,.ptr 2001 0 0),(1000006,.fn (.func 147) [.ptr 2002 0 0,.ptr 2001 0 0]),(1000048,.fn (.func 147) [.ptr 2002 0 0,.ptr 2001 0 0]),(1000051,.L iF v128),(1,.ptr 2002 0 0),(2,.ptr 2001 0 0),(6,.L iF v128),(7,.I (v128.length:Int)),(8,.I s148)] [(2001,vR (e6.Pv q.1) 2),(2002,vS (.mp 5002004) 1),(5002004,⟨[.mapc (List.map (bW iF PV.bool) q.2)],0,false,0,false⟩),(2003,vR (a8.Pv a0) 11)]) (λq158 h=>?_) λκ155 h=>?_
       .obtain⟨j156,j157⟩:=q158;refine S6 2 J ?_;exact eL h W
       .refine l4 ?_;refine sR<|iL h J J m7 o7 λv159 _ h=>S2 2 J<|S3 2 J<|BR (es:=s150) (k:=v159) (E:=PV.bool) (EK:=iF) (d:=.bool ((z8 s150 v159).getD (false:Bool))) J J J J Q2 (x8 I0) sm J (ML _ _ _)<|S2 1 J ?_;refine cN h (λhc h=>?_) λhc h=>?_
        .refine S3 2 J ?_;refine Z7 (es:=s150) (k:=v159) (v:=true) (E:=PV.bool) (EK:=iF) (.inl J) J J J J J J Q2 (x8 I0)<|yN<|S5 2 J<|cF h V4 J J λv160 _ h=>S2 4 J ?_;exact eJ h W
        .refine c8 ?_;exact eJ h W
      .refine p6 ?_;refine g8<|g8<|m8 ?_;have h:=xL hx97 h;exact eJ h W
    .refine S3 1 J ?_;refine nL J m7<|S2 1 J<|l4<|lq h (λq=>St.of [(1000001,.ptr 2003 0 0),(1000004,.ptr 2002 0 0),(1000005,.ptr 2001 0 0),(1000006,.fn (.func 147) [.ptr 2002 0 0,.ptr 2001 0 0]),(1000007,.I v107.2.1),(1000038,.fn (.func 147) [.ptr 2002 0 0,.ptr 2001 0 0]),(1000046,.L iF v109.Fields),(1,.ptr 2002 0 0),(2,.ptr 2001 0 0),(6,.L iF v109.Fields),(7,.I (v109.Fields.length:Int)),(8,.I q.1)] [(2001,vR (e6.Pv q.2.1) 2),(2002,vS (.mp 5002004) 1),(5002004,⟨[.mapc (List.map (bW iF PV.bool) q.2.2)],0,false,0,false⟩),(2003,vR (a8.Pv a0) 11)]) W λq166 x165 h hx105=>?_;obtain⟨s162,s163,s164⟩:=q166;refine S4 1 J<|l5 ?_;refine cN h (λhc h=>?_) λhc h=>?_
     .refine c8 ?_;refine jq h (λq=>St.of [(1000001,.ptr 2003 0 0),(1000004,.ptr 2002 0 0),(1000005,.ptr 2001 0 0),(1000006,.fn (.func 147) [.ptr 2002 0 0,.ptr 2001 0 0]),(1000007,.I v107.2.1),(1000038,.fn (.func 147) [.ptr 2002 0 0,.ptr 2001 0 0]),(1000046,.L iF v109.Fields),(1,.ptr 2002 0 0),(2,.ptr 2001 0 0),(6,.L iF v109.Fields),(7,.I (v109.Fields.length:Int)),(8,.I s162)] [(2001,vR (e6.Pv q.1) 2),(2002,vS (.mp 5002004) 1),(5002004,⟨[.mapc (List.map (bW iF PV.bool) q.2)],0,false,0,false⟩),(2003,vR (a8.Pv a0) 11)]) (λq172 h=>?_) λκ169 h=>?_
      .obtain⟨j170,j171⟩:=q172;refine S6 2 J ?_;exact eL h W
      .refine l4 ?_;refine sR<|iL h J J m7 o7 λv173 _ h=>S2 2 J<|S3 2 J<|BR (es:=s164) (k:=v173) (E:=PV.bool) (EK:=iF) (d:=.bool ((z8 s164 v173).getD (false:Bool))) J J J J Q2 (x8 I0) sm J (ML _ _ _)<|S2 1 J ?_;refine cN h (λhc h=>?_) λhc h=>?_
       .refine S3 2 J ?_;refine Z7 (es:=s164) (k:=v173) (v:=true) (E:=PV.bool) (EK:=iF) (.inl J) J J J J J J Q2 (x8 I0)<|yN<|S5 2 J<|cF h V4 J J λv174 _ h=>S2 4 J ?_;exact eJ h W
       .refine c8 ?_;exact eJ h W
     .refine p6 ?_;refine g8<|g8<|m8 ?_;have h:=xL hx105 h;exact eJ h W
   .refine p6 ?_;refine g8<|g8<|m8 ?_;have h:=xL hx67 h;exact eJ h W
 .refine S3 1 J ?_;refine nL J m7<|S2 1 J<|l4<|lq h (λq=>St.of [(1000001,.ptr 2003 0 0),(1000004,.ptr 2002 0 0),(1000005,.ptr 2001 0 0),(1000006,.fn (.func 147) [.ptr 2002 0 0,.ptr 2001 0 0]),(1000019,.fn (.func 147) [.ptr 2002 0 0,.ptr 2001 0 0]),(1000027,.L iF v6),(1,.ptr 2002 0 0),(2,.ptr 2001 0 0),(6,.L iF v6),(7,.I (v6.length:Int)),(8,.I q.1)] [(2001,vR (e6.Pv q.2.1) 2),(2002,vS (.mp 5002004) 1),(5002004,⟨[.mapc (List.map (bW iF PV.bool) q.2.2)],0,false,0,false⟩),(2003,vR (a8.Pv a0) 11)]) W λq180 x179 h hx113=>?_;obtain⟨s176,s177,s178⟩:=q180;refine S4 1 J<|l5 ?_;refine cN h (λhc h=>?_) λhc h=>?_
  .refine c8 ?_;refine jq h (λq=>St.of [(1000001,.ptr 2003 0 0),(1000004,.ptr 2002 0 0),(1000005,.ptr 2001 0 0),(1000006,.fn (.func 147) [.ptr 2002 0 0,.ptr 2001 0 0]),(1000019,.fn (.func 147) [.ptr 2002 0 0,.ptr 2001 0 0]),(1000027,.L iF v6),(1,.ptr 2002 0 0),(2,.ptr 2001 0 0),(6,.L iF v6),(7,.I (v6.length:Int)),(8,.I s176)] [(2001,vR (e6.Pv q.1) 2),(2002,vS (.mp 5002004) 1),(5002004,⟨[.mapc (List.map (bW iF PV.bool) q.2)],0,false,0,false⟩),(2003,vR (a8.Pv a0) 11)]) (λq186 h=>?_) λκ183 h=>?_
   .obtain⟨j184,j185⟩:=q186;refine S6 2 J ?_;exact eL h W
   .refine l4 ?_;refine sR<|iL h J J m7 o7 λv187 _ h=>S2 2 J<|S3 2 J<|BR (es:=s178) (k:=v187) (E:=PV.bool) (EK:=iF) (d:=.bool ((z8 s178 v187).getD (false:Bool))) J J J J Q2 (x8 I0) sm J (ML _ _ _)<|S2 1 J ?_;refine cN h (λhc h=>?_) λhc h=>?_
    .refine S3 2 J ?_;refine Z7 (es:=s178) (k:=v187) (v:=true) (E:=PV.bool) (EK:=iF) (.inl J) J J J J J J Q2 (x8 I0)<|yN<|S5 2 J<|cF h V4 J J λv188 _ h=>S2 4 J ?_;exact eJ h W
    .refine c8 ?_;exact eJ h W
  .refine p6 ?_;refine g8<|g8<|m8 ?_;have h:=xL hx113 h;exact eJ h W
theorem pd{a0 a1}:PO Tryz.prog 83 [b8.Pv a0,.rptr [.abs (U0 (List.map (bW iF PV.bool) a1))]] (bx a0 a1) λr=>.bool r:=by
 refine pO Tryz.func83 λr h _ _=>?_;unfold bx at h;refine S4 2 J<|S3 3 J<|n0 J (λhg=>V2 J BV J)<|n0 J (λhg=>oF J AT J)<|n0 J (λhg=>oS (ct hg) J J K1 J)<|n0 J (λhg=>BC (es:=a1) (k:=a0.Serial) (E:=PV.bool) (EK:=iF) (d:=.bool ((z8 a1 a0.Serial).getD (false:Bool))) (ct hg) (ct hg) Q2 (x8 I0) sm J (ML _ _ _))<|n0 J (λhg=>fK (ct hg) J)<|y0 J (D5 J J J (λq=>kl q))<|S2 1 J<|c5 ?_;cases h;exact f1
theorem X7{a0 a1}:PO Tryz.prog 60 [.L b8.Pv a0,.fn (.func 83) [.rptr [.abs (U0 (List.map (bW iF PV.bool) a1))]]] (B9 a0 a1) λr=>.L b8.Pv r:=by
 refine pO Tryz.func60 λr h _ _=>?_;refine S4 1 J<|S4 1 J ?_;refine jq h (λj15=>St.of [(5,.sl 910005)] [(910005,⟨List.map b8.Pv j15,(List.map b8.Pv j15).length,true,7,true⟩)]) (λj15 h=>?_) λκ14 h=>?_
 .refine S4 2 J ?_;refine c5 ?_;cases h;exact f1
 .refine S3 1 J ?_;refine nL J B7<|S2 1 J<|l4<|lq h (λq=>St.of [(1,.fn (.func 83) [.rptr [.abs (U0 (List.map (bW iF PV.bool) a1))]]),(5,.sl 910005),(8,.L b8.Pv a0),(9,.I (a0.length:Int)),(10,.I q.1)] [(910005,⟨List.map b8.Pv q.2,(List.map b8.Pv q.2).length,true,7,true⟩)]) (Wk.trans (G4 (t:=5) (l:=920005) (z:=7) J J) (WP (λl=>if l=910005 then 920005 else l))) λq20 x19 h hx14=>?_;obtain⟨s17,s18⟩:=q20;refine S4 1 J<|l5 ?_;refine cN h (λhc h=>?_) λhc h=>?_
  .refine c8 ?_;refine jq h (λj25=>St.of [(1,.fn (.func 83) [.rptr [.abs (U0 (List.map (bW iF PV.bool) a1))]]),(5,.sl 20),(8,.L b8.Pv a0),(9,.I (a0.length:Int)),(10,.I s17)] [(20,⟨List.map b8.Pv j25,(List.map b8.Pv j25).length,true,7,true⟩)]) (λj25 h=>?_) λκ24 h=>?_
   .refine S6 2 J ?_;exact eL h (Wk.trans (n7 _ [20]) (WP (λl=>if l=910005 then 20 else l)))
   .refine l4 ?_;refine sR<|iL h J J B7 u9 λv26 _ h=>S2 3 J<|S3 2 J<|cA h pd J J λv27 _ h=>yN ?_;refine cN h (λhc h=>?_) λhc h=>?_
    .refine S5 2 J ?_;refine y0 J (I3 (f:=b8.Pv) (l:=[v26]) J B7 u9 al J J nl J J)<|y6 h λv28 hv21 h=>J5 J (I6 (f:=b8.Pv) hv21 J J J J J J (.inl ⟨_,J,J⟩) B7 u9 mr al J (λ_=>J)) J J J<|S2 1 J ?_;exact eJ h (Wk.trans (n7 _ [20]) W)
    .refine c8 ?_;exact eJ h (Wk.trans (n7 _ [910005]) (WP (λl=>if l=20 then 910005 else l)))
  .refine p6 ?_;refine g8<|g8<|m8 ?_;have h:=xL hx14 h;exact eJ h (Wk.trans (n7 _ [910005]) W)
theorem lH{a0}:PO Tryz.prog 84 [b8.Pv a0] (da a0) λr=>.bool r:=by
 refine pO Tryz.func84 λr h _ _=>?_;unfold da at h;refine S4 2 J<|S3 4 J<|n0 J (λhg=>oF J Jz J)<|n0 J (λhg=>oS (ct hg) J J vC J)<|n0 J (λhg=>fK (ct hg) J)<|y0 J (D5 J J J (λq=>kl q))<|S2 1 J<|c5 ?_;cases h;exact f1
theorem aO{a0}:PO Tryz.prog 60 [.L b8.Pv a0,.fn (.func 84) []] (D3 a0) λr=>.L b8.Pv r:=by
 refine pO Tryz.func60 λr h _ _=>?_;refine S4 1 J<|S4 1 J ?_;refine jq h (λj15=>St.of [(5,.sl 910005)] [(910005,⟨List.map b8.Pv j15,(List.map b8.Pv j15).length,true,7,true⟩)]) (λj15 h=>?_) λκ14 h=>?_
 .refine S4 2 J ?_;refine c5 ?_;cases h;exact f1
 .refine S3 1 J ?_;refine nL J B7<|S2 1 J<|l4<|lq h (λq=>St.of [(1,.fn (.func 84) []),(5,.sl 910005),(8,.L b8.Pv a0),(9,.I (a0.length:Int)),(10,.I q.1)] [(910005,⟨List.map b8.Pv q.2,(List.map b8.Pv q.2).length,true,7,true⟩)]) (Wk.trans (G4 (t:=5) (l:=920005) (z:=7) J J) (WP (λl=>if l=910005 then 920005 else l))) λq20 x19 h hx14=>?_;obtain⟨s17,s18⟩:=q20;refine S4 1 J<|l5 ?_;refine cN h (λhc h=>?_) λhc h=>?_
  .refine c8 ?_;refine jq h (λj25=>St.of [(1,.fn (.func 84) []),(5,.sl 20),(8,.L b8.Pv a0),(9,.I (a0.length:Int)),(10,.I s17)] [(20,⟨List.map b8.Pv j25,(List.map b8.Pv j25).length,true,7,true⟩)]) (λj25 h=>?_) λκ24 h=>?_
   .refine S6 2 J ?_;exact eL h (Wk.trans (n7 _ [20]) (WP (λl=>if l=910005 then 20 else l)))
   .refine l4 ?_;refine sR<|iL h J J B7 u9 λv26 _ h=>S2 3 J<|S3 2 J<|cA h lH J J λv27 _ h=>yN ?_;refine cN h (λhc h=>?_) λhc h=>?_
    .refine S5 2 J ?_;refine y0 J (I3 (f:=b8.Pv) (l:=[v26]) J B7 u9 al J J nl J J)<|y6 h λv28 hv21 h=>J5 J (I6 (f:=b8.Pv) hv21 J J J J J J (.inl ⟨_,J,J⟩) B7 u9 mr al J (λ_=>J)) J J J<|S2 1 J ?_;exact eJ h (Wk.trans (n7 _ [20]) W)
    .refine c8 ?_;exact eJ h (Wk.trans (n7 _ [910005]) (WP (λl=>if l=20 then 910005 else l)))
  .refine p6 ?_;refine g8<|g8<|m8 ?_;have h:=xL hx14 h;exact eJ h (Wk.trans (n7 _ [910005]) W)
theorem yu{a0}:PO Tryz.prog 58 [a8.Pv a0] (kz a0) λr=>.fn (.func 111) [.rptr (a8.Pc r)]:=by
 refine pO Tryz.func58 λr h _ _=>?_;unfold kz at h;refine S4 2 J<|S4 2 J<|c5 ?_;cases h;exact f1
theorem rB{a0}:PO Tryz.prog 113 [k7.Pv a0] (iv a0) λr=>.I r:=by
 refine pO Tryz.func113 λr h _ _=>?_;unfold iv at h;refine S4 2 J<|S4 3 J<|c5 ?_;cases h;exact f1
theorem U9{a0}:PO Tryz.prog 112 [.L k7.Pv a0,.fn (.func 113) []] (B5 a0) λr=>.L iF r:=by
 refine pO Tryz.func112 λr h _ _=>?_;refine S4 1 J<|S4 1 J ?_;refine jq h (λj10=>St.of [(5,.sl 910005)] [(910005,⟨List.map iF j10,(List.map iF j10).length,true,1,true⟩)]) (λj10 h=>?_) λκ9 h=>?_
 .refine S4 2 J ?_;refine c5 ?_;cases h;exact f1
 .refine S3 1 J ?_;refine nL J M4<|S2 1 J<|l4<|lq h (λq=>St.of [(1,.fn (.func 113) []),(5,.sl 910005),(8,.L k7.Pv a0),(9,.I (a0.length:Int)),(10,.I q.1)] [(910005,⟨List.map iF q.2,(List.map iF q.2).length,true,1,true⟩)]) (Wk.trans (G4 (t:=5) (l:=920005) (z:=1) J J) (WP (λl=>if l=910005 then 920005 else l))) λq15 x14 h hx10=>?_;obtain⟨s12,s13⟩:=q15;refine S4 1 J<|l5 ?_;refine cN h (λhc h=>?_) λhc h=>?_
  .refine c8 ?_;refine l5<|l4<|sR<|iL h J J M4 T7 λv16 _ h=>S2 3 J<|S5 3 J<|cA h rB J J λv17 _ h=>y0 J (I3 (f:=iF) (l:=[v17]) J m7 o7 C0 J J nl J J)<|y6 h λv18 hv13 h=>J5 J (I6 (f:=iF) hv13 J J J J J J (.inl ⟨_,J,J⟩) m7 o7 Q1 C0 J (λ_=>J)) J J J<|S2 1 J<|S6 2 J ?_;exact eL h (Wk.trans (n7 _ [19]) (WP (λl=>if l=910005 then 19 else l)))
  .refine p6 ?_;refine g8<|g8<|m8 ?_;have h:=xL hx10 h;exact eJ h (Wk.trans (n7 _ [910005]) W)
theorem uZ{a0}:PO Tryz.prog 61 [b8.Pv a0] (kV a0) λr=>.bool r:=by
 refine pO Tryz.func61 λr h _ _=>?_;unfold kV at h;refine S4 2 J<|S4 3 J<|c5 ?_;cases h;exact f1
theorem M0{a0}:PO Tryz.prog 60 [.L b8.Pv a0,.fn (.func 61) []] (B0 a0) λr=>.L b8.Pv r:=by
 refine pO Tryz.func60 λr h _ _=>?_;refine S4 1 J<|S4 1 J ?_;refine jq h (λj15=>St.of [(5,.sl 910005)] [(910005,⟨List.map b8.Pv j15,(List.map b8.Pv j15).length,true,7,true⟩)]) (λj15 h=>?_) λκ14 h=>?_
 .refine S4 2 J ?_;refine c5 ?_;cases h;exact f1
 .refine S3 1 J ?_;refine nL J B7<|S2 1 J<|l4<|lq h (λq=>St.of [(1,.fn (.func 61) []),(5,.sl 910005),(8,.L b8.Pv a0),(9,.I (a0.length:Int)),(10,.I q.1)] [(910005,⟨List.map b8.Pv q.2,(List.map b8.Pv q.2).length,true,7,true⟩)]) (Wk.trans (G4 (t:=5) (l:=920005) (z:=7) J J) (WP (λl=>if l=910005 then 920005 else l))) λq20 x19 h hx14=>?_;obtain⟨s17,s18⟩:=q20;refine S4 1 J<|l5 ?_;refine cN h (λhc h=>?_) λhc h=>?_
  .refine c8 ?_;refine jq h (λj25=>St.of [(1,.fn (.func 61) []),(5,.sl 20),(8,.L b8.Pv a0),(9,.I (a0.length:Int)),(10,.I s17)] [(20,⟨List.map b8.Pv j25,(List.map b8.Pv j25).length,true,7,true⟩)]) (λj25 h=>?_) λκ24 h=>?_
   .refine S6 2 J ?_;exact eL h (Wk.trans (n7 _ [20]) (WP (λl=>if l=910005 then 20 else l)))
   .refine l4 ?_;refine sR<|iL h J J B7 u9 λv26 _ h=>S2 3 J<|S3 2 J<|cA h uZ J J λv27 _ h=>yN ?_;refine cN h (λhc h=>?_) λhc h=>?_
    .refine S5 2 J ?_;refine y0 J (I3 (f:=b8.Pv) (l:=[v26]) J B7 u9 al J J nl J J)<|y6 h λv28 hv21 h=>J5 J (I6 (f:=b8.Pv) hv21 J J J J J J (.inl ⟨_,J,J⟩) B7 u9 mr al J (λ_=>J)) J J J<|S2 1 J ?_;exact eJ h (Wk.trans (n7 _ [20]) W)
    .refine c8 ?_;exact eJ h (Wk.trans (n7 _ [910005]) (WP (λl=>if l=20 then 910005 else l)))
  .refine p6 ?_;refine g8<|g8<|m8 ?_;have h:=xL hx14 h;exact eJ h (Wk.trans (n7 _ [910005]) W)
theorem pc{a0 a1}:PO Tryz.prog 21 [a8.Pv a0,.I a1] (dT a0 a1) λr=>.I r:=by
 refine pO Tryz.func21 λr h _ _=>?_;refine S4 3 J<|S4 2 J ?_;refine jq h (λj33=>St.of [(5,.ptr 2001 0 0)] [(2001,vR (.I j33) 1)]) (λj33 h=>?_) λκ32 h=>?_
 .refine S4 2 J ?_;refine c5 ?_;cases h;exact f1
 .refine S3 1 J ?_;refine cF h yu J J λv34 _ h=>yN<|l4<|bM (rW (λl=>if l=2003 then 5 else if l=2004 then 3 else l) [(3,.ptr 2004 0 0),(5,.ptr 2003 0 0),(8,.fn (.func 111) [.rptr (a8.Pc v34)])] [(2003,vR (.I 0) 1),(2004,vR (.I a1) 1)]) ?_;refine bL (fn:=Tryz.f111) (N1:=43) J Tryz.func111 J J nl J ON J J (λl33 e34 o35 hR36=>?_);refine dr [] u4 (by kernel_rfl) (by kernel_rfl)<|S7 4 J<|y6 h λv35 hv37 h=>eE J (w8 J U9 J hv37) J<|S7 1 J<|y6 h λv36 hv38 h=>eE J (w8 J cq J hv38) J<|y6 h λv37 hv39 h=>eE J (w8 J uh J hv39) J<|VL J (I3 (f:=(Ls iF)) (l:=[v34.Roots,v35,v37]) J bf bD xv J J nl J J) J<|S8 1 J ?_;refine jq h (λj47=>St.of [(1000003,.ptr 2004 0 0),(1000005,.ptr 2003 0 0),(1000008,.fn (.func 111) [.rptr (a8.Pc v34)]),(0,.fn (.yield l33) []),(3,.sl 910003)] [(910003,⟨List.map (Ls iF) j47,(List.map (Ls iF) j47).length,true,1,true⟩),(2003,vR (.I 0) 1),(2004,vR (.I a1) 1)]) (λj47 h=>?_) λκ46 h=>?_
  .refine S3 1 J ?_;obtain⟨v48,hv47,h⟩:=sp h;refine Ju J (w8 J df J hv47) J<|nL J m7<|S2 1 J<|l4<|lq h (λq=>St.of [(1000003,.ptr 2004 0 0),(1000005,.ptr 2003 0 0),(1000008,.fn (.func 111) [.rptr (a8.Pc v34)]),(0,.fn (.yield l33) []),(32,.L iF v48),(33,.I (v48.length:Int)),(34,.I q.1)] [(2003,vR (.I q.2) 1),(2004,vR (.I a1) 1)]) W λq53 x52 h hx50=>?_;obtain⟨s50,s51⟩:=q53;refine S4 1 J<|l5 ?_;refine cN h (λhc h=>?_) λhc h=>?_
   .refine c8 ?_;refine l5<|l4<|sR<|iL h J J m7 o7 λv54 _ h=>S2 2 J<|S3 2 J<|O1 (WE [(1000003,.ptr 2004 0 0),(1000005,.ptr 2003 0 0),(1000008,.fn (.func 111) [.rptr (a8.Pc v34)]),(0,.fn (.yield l33) []),(32,.L iF v48),(33,.I (v48.length:Int)),(34,.I s50),(38,.fn (.yield l33) []),(39,.I v54)] [(2003,vR (.I s51) 1),(2004,vR (.I a1) 1)]) ?_;refine ja hR36 J J J J J J (λe52 o53 o54=>?_);refine S6 1 J ?_;refine⟨J,?_⟩;refine Xl h (λj56=>St.of [(2000003,.ptr 2004 0 0),(2000005,.ptr 2003 0 0),(2000008,.fn (.func 111) [.rptr (a8.Pc v34)]),(1000000,.fn (.yield l33) []),(1000032,.L iF v48),(1000033,.I (v48.length:Int)),(1000034,.I s50),(1000038,.fn (.yield l33) []),(1000039,.I v54)] [(2003,vR (.I j56) 1),(2004,vR (.I a1) 1)]) (λj56 h=>?_) λκ55 h=>?_
    .refine⟨J,?_⟩;refine O1 (WE [(1000003,.ptr 2004 0 0),(1000005,.ptr 2003 0 0),(1000008,.fn (.func 111) [.rptr (a8.Pc v34)]),(0,.fn (.yield l33) []),(32,.L iF v48),(33,.I (v48.length:Int)),(34,.I s50),(40,.bool true)] [(2003,vR (.I j56) 1),(2004,vR (.I a1) 1)])<|S2 1 J ?_;refine G6 false J (λq=>nomatch q) (λ_=>?_);refine c8<|S6 2 J ?_;exact eL h W
    .refine l4 ?_;refine S3 3 J<|n0 J (λhg=>mI J)<|n0 J (λhg=>oS J J J K1 J)<|n0 J (λhg=>D2 (ct hg) (ct hg) J)<|y0 J (D5 J J J (λq=>kl q))<|yN ?_;refine cN h (λhc h=>?_) λhc h=>?_
     .refine S6 3 J ?_;exact eJ h W
     .refine c8 ?_;exact eJ h W
   .refine p6 ?_;refine g8<|g8<|m8 ?_;refine .inl ⟨J,?_⟩;have h:=xL hx50 h;exact eJ h (WP (λl=>if l=2001 then 2003 else l))
  .refine S3 2 J ?_;refine cF h M0 J J λv57 _ h=>nL J B7<|S2 1 J<|l4<|lq h (λq=>St.of [(1000003,.ptr 2004 0 0),(1000005,.ptr 2003 0 0),(1000008,.fn (.func 111) [.rptr (a8.Pc v34)]),(0,.fn (.yield l33) []),(3,.sl 910003),(19,.L b8.Pv v57),(20,.I (v57.length:Int)),(21,.I q.1)] [(2003,vR (.I 0) 1),(2004,vR (.I a1) 1),(910003,⟨List.map (Ls iF) q.2,(List.map (Ls iF) q.2).length,true,1,true⟩)]) (Wk.trans (Oy (f:=(Ls iF)) (t:=3) (l:=920003) (z:=1) J J (λ_=>J)) (WP (λl=>if l=910003 then 920003 else l))) λq62 x61 h hx59=>?_;obtain⟨s59,s60⟩:=q62;refine S4 1 J<|l5 ?_;refine cN h (λhc h=>?_) λhc h=>?_
   .refine c8 ?_;refine l5<|l4<|sR<|iL h J J B7 u9 λv63 _ h=>S2 3 J<|S5 3 J<|y0 J (I3 (f:=(Ls iF)) (l:=[v63.Fields]) J bf bD xv J J nl J J)<|y6 h λv64 hv61 h=>J5 J (I6 (f:=(Ls iF)) hv61 J J J J J J (.inl ⟨_,J,J⟩) bf bD SO xv J (λ_=>J)) J J J<|S2 1 J<|S6 2 J ?_;exact eL h (Wk.trans (n7 _ [29]) (WP (λl=>if l=910003 then 29 else l)))
   .refine p6 ?_;refine g8<|g8<|m8 ?_;have h:=xL hx59 h;exact eJ h (Wk.trans (n7 _ [910003]) W)
theorem B1{a0}:OC Tryz.prog 181 [.L b8.Pv a0] (r7 a0) λr=>⟨List.map b8.Pv r,0,true,7,true⟩:=by
 refine Sw Tryz.func181 λr h _ _=>?_;unfold r7 at h;refine S4 1 J<|l5<|S3 1 J<|uy J B7 λb hb=>yN ?_;refine G6 b J (λhc=>?_) (λhc=>?_)
 .obtain rfl:a0 = []:=by simpa using hb hc
  refine S4 1 J<|bM (G4 (t:=2) (l:=920000) (z:=7) J J)<|c5 ?_;cases h;exact⟨J,_,_,J,J,J,J⟩
 .refine c8 ?_;refine sR<|y0 J (lL J B7 u9)<|S1 1 J<|y1 J (yw (f:=b8.Pv) h J J (.inl ⟨_,J,J⟩) B7 u9 mr al J (λ_=>J)) J<|S2 1 J<|c5 ?_;exact⟨J,_,_,J,J,J,J⟩
theorem wu{a0}:PO Tryz.prog 263 [b8.Pv a0] (mY a0) λr=>b8.Pv r:=by
 refine pO Tryz.func263 λr h _ _=>?_;unfold mY at h;refine S4 2 J<|S4 2 J<|S4 2 J<|c5 ?_;cases h;exact⟨J,[_],⟨oL J J J gr u9 nl J,tr⟩,J,io⟩
theorem fV{a0 a1}:PO Tryz.prog 154 [a8.Pv a0,.I a1,.fn (.func 263) []] (Q9 a0 a1) λr=>a8.Pv r:=by
 refine pO Tryz.func154 λr h _ _=>?_;refine S4 2 J<|S3 2 J<|cA h R4 J J λv1 _ h=>S2 1 J<|S3 2 J<|y6 h λv2 hv2 h=>Jv J (gW J B1 J hv2) J J<|S2 2 J<|dr [] u4 (by kernel_rfl) (by kernel_rfl)<|S7 7 J<|y6 h λv3 hv3 h=>d0 J (aQ (f:=b8.Pv) hv3 J J J J B7 u9 J) J<|d0 J (IH (f:=b8.Pv) (cs:=b8.Pc v3) hv3 J J J gr u9 nl J) J<|y6 h λv4 hv4 h=>eE J (w8 J wu J hv4) J<|d0 J (aQ (f:=b8.Pv) hv3 J J J J B7 u9 J) J<|HY (f:=b8.Pv) (v:=v4) hv3 J J (.inr J) u9<|K2<|S4 2 J<|c5 ?_;cases h;exact⟨J,[_],⟨oL J J J A0 w7 nl J,tr⟩,J,io⟩
theorem gC{a0 a1}:PO Tryz.prog 153 [a8.Pv a0,.I a1] (dH a0 a1) λr=>a8.Pv r:=by
 refine pO Tryz.func153 λr h _ _=>?_;refine S4 2 J<|l5<|S3 2 J<|cA h pc J J λv1 _ h=>S2 1 J ?_;refine cN h (λhc h=>?_) λhc h=>?_
 .refine S4 2 J ?_;refine c5 ?_;cases h;exact⟨J,[_],⟨oL J J J A0 w7 nl J,tr⟩,J,io⟩
 .refine c8 ?_;refine S3 2 J<|cF h fV J J λv2 _ h=>S2 1 J<|c5 ?_;cases h;exact⟨J,[_],⟨oL J J J A0 w7 nl J,tr⟩,J,io⟩
theorem rF{a0}:PO Tryz.prog 155 [b8.Pv a0] (iA a0) λr=>b8.Pv r:=by
 refine pO Tryz.func155 λr h _ _=>?_;unfold iA at h;refine S4 2 J<|S4 2 J<|S4 2 J<|c5 ?_;cases h;exact⟨J,[_],⟨oL J J J gr u9 nl J,tr⟩,J,io⟩
theorem ee{a0 a1}:PO Tryz.prog 154 [a8.Pv a0,.I a1,.fn (.func 155) []] (M8 a0 a1) λr=>a8.Pv r:=by
 refine pO Tryz.func154 λr h _ _=>?_;refine S4 2 J<|S3 2 J<|cA h R4 J J λv1 _ h=>S2 1 J<|S3 2 J<|y6 h λv2 hv2 h=>Jv J (gW J B1 J hv2) J J<|S2 2 J<|dr [] u4 (by kernel_rfl) (by kernel_rfl)<|S7 7 J<|y6 h λv3 hv3 h=>d0 J (aQ (f:=b8.Pv) hv3 J J J J B7 u9 J) J<|d0 J (IH (f:=b8.Pv) (cs:=b8.Pc v3) hv3 J J J gr u9 nl J) J<|y6 h λv4 hv4 h=>eE J (w8 J rF J hv4) J<|d0 J (aQ (f:=b8.Pv) hv3 J J J J B7 u9 J) J<|HY (f:=b8.Pv) (v:=v4) hv3 J J (.inr J) u9<|K2<|S4 2 J<|c5 ?_;cases h;exact⟨J,[_],⟨oL J J J A0 w7 nl J,tr⟩,J,io⟩
theorem cQ{a0}:OC Tryz.prog 156 [.L g7.Pv a0] (G3 a0) λr=>⟨List.map g7.Pv r,0,true,3,true⟩:=by
 refine Sw Tryz.func156 λr h _ _=>?_;unfold G3 at h;refine S4 1 J<|l5<|S3 1 J<|uy J I9 λb hb=>yN ?_;refine G6 b J (λhc=>?_) (λhc=>?_)
 .obtain rfl:a0 = []:=by simpa using hb hc
  refine S4 1 J<|bM (G4 (t:=2) (l:=920000) (z:=3) J J)<|c5 ?_;cases h;exact⟨J,_,_,J,J,J,J⟩
 .refine c8 ?_;refine sR<|y0 J (lL J I9 C8)<|S1 1 J<|y1 J (yw (f:=g7.Pv) h J J (.inl ⟨_,J,J⟩) I9 C8 mw ao J (λ_=>J)) J<|S2 1 J<|c5 ?_;exact⟨J,_,_,J,J,J,J⟩
theorem lI{a0 a1}:PO Tryz.prog 85 [a8.Pv a0,.I a1] (aX a0 a1) λr=>a8.Pv r:=by
 refine pO Tryz.func85 λr h _ _=>?_;refine S4 2 J<|S3 2 J<|cF h gC J J λv1 _ h=>S2 1 J<|dr [] u4 (by kernel_rfl) (by kernel_rfl)<|S7 4 J<|y6 h λv2 hv2 h=>d2 J (R8 J R4 J hv2) J<|y6 h λv3 hv3 h=>d0 J (P4 (f:=b8.Pv) (cs:=b8.Pc v3) hv3 J J B7 u9 J J) J<|S8 3 J<|S3 2 J<|cF h ee J J λv4 _ h=>S2 1 J<|S3 2 J<|y6 h λv5 hv5 h=>Jv J (gW J cQ J hv5) J J<|S1 2 J<|y0 J (p7 (cs:=[.I 1,.I a1,.I v3.Prog]) J sf ao J J J)<|y0 J (I3 (f:=g7.Pv) (l:=[(⟨1,a1,v3.Prog⟩:g7)]) J I9 C8 ao J J nl J J)<|y6 h λv6 hv6 h=>J5 J (I6 (f:=g7.Pv) hv6 J J J J J J (.inl ⟨_,J,J⟩) I9 C8 mw ao J (λ_=>J)) J J J<|S2 2 J<|S4 2 J<|c5 ?_;cases h;exact⟨J,[_],⟨oL J J J A0 w7 nl J,tr⟩,J,io⟩
theorem dX{a0 a1}:PO Tryz.prog 179 [.L iF a0,.I a1] (H0 a0 a1) λr=>.I r:=by
 refine pO Tryz.func179 λr h _ _=>?_;refine S4 1 J ?_;refine jq h (λ_=>St.of [] []) (λq6 h=>?_) λκ5 h=>?_
 .refine S4 1 J ?_;refine c5 ?_;cases h;exact f1
 .refine S3 1 J ?_;refine nL J m7<|S2 1 J<|l4<|lq h (λs8=>St.of [(0,.L iF a0),(1,.I a1),(7,.I (a0.length:Int)),(8,.I s8)] []) W λs8 x9 h hx8=>S4 1 J<|l5 ?_;refine cN h (λhc h=>?_) λhc h=>?_
  .refine c8 ?_;refine l5<|l4<|S4 2 J<|S3 3 J<|iL h J J m7 o7 λv10 _ h=>S2 2 J ?_;refine cN h (λhc h=>?_) λhc h=>?_
   .refine S4 2 J ?_;refine c5 ?_;have h:=xL hx8 h;cases h;exact f1
   .refine c8 ?_;refine S6 2 J ?_;exact eL h W
  .refine p6 ?_;refine g8<|g8<|m8 ?_;have h:=xL hx8 h;exact eJ h W
theorem L3{a0 a1}:PO Tryz.prog 165 [.L iF a0,.I a1] (E4 a0 a1) λr=>.bool r:=by
 refine pO Tryz.func165 λr h _ _=>?_;refine S4 1 J<|S3 2 J<|cA h dX J J λv1 _ h=>S2 2 J<|c5 ?_;cases h;exact f1
theorem wH{a0 a1}:PO Tryz.prog 265 [k9.Pv a0,.rptr [.L iF a1]] (cC a0 a1) λr=>.bool r:=by
 refine pO Tryz.func265 λr h _ _=>?_;unfold cC at h;refine S4 2 J<|S3 3 J<|n0 J (λhg=>oF J pM J)<|n0 J (λhg=>oS (ct hg) J J K1 J)<|n0 J (λhg=>D2 (ct hg) J J)<|y0 J (D5 J J J (λq=>kl q))<|S1 1 J<|n0 J (λhg=>V2 J mn J)<|n0 J (λhg=>oF J pM J)<|n0 J (λhg=>oS (ct hg) J J K1 J)<|y6 h λv1 hv1 h=>n0 J (λhg=>R8 J L3 (X5 (ct hg) (X5 (ct hg) J)) (aj hv1 hg))<|y0 J (D5 J J J (λq=>kl q))<|S2 1 J<|c5 ?_;cases h;exact f1
theorem iG{a0 a1}:PO Tryz.prog 264 [.L k9.Pv a0,.fn (.func 265) [.rptr [.L iF a1]]] (M2 a0 a1) λr=>.L iF r:=by
 refine pO Tryz.func264 λr h _ _=>?_;refine S4 1 J<|S4 1 J ?_;refine jq h (λj15=>St.of [(5,.sl 910005)] [(910005,⟨List.map iF j15,(List.map iF j15).length,true,1,true⟩)]) (λj15 h=>?_) λκ14 h=>?_
 .refine S4 2 J ?_;refine c5 ?_;cases h;exact f1
 .refine S3 1 J ?_;refine nL J Q5<|S2 1 J<|l4<|lq h (λq=>St.of [(1,.fn (.func 265) [.rptr [.L iF a1]]),(5,.sl 910005),(8,.L k9.Pv a0),(9,.I (a0.length:Int)),(10,.I q.1)] [(910005,⟨List.map iF q.2,(List.map iF q.2).length,true,1,true⟩)]) (Wk.trans (G4 (t:=5) (l:=920005) (z:=1) J J) (WP (λl=>if l=910005 then 920005 else l))) λq20 x19 h hx14=>?_;obtain⟨s17,s18⟩:=q20;refine S4 1 J<|l5 ?_;refine cN h (λhc h=>?_) λhc h=>?_
  .refine c8 ?_;refine jq h (λj25=>St.of [(1,.fn (.func 265) [.rptr [.L iF a1]]),(5,.sl 21),(8,.L k9.Pv a0),(9,.I (a0.length:Int)),(10,.I s17)] [(21,⟨List.map iF j25,(List.map iF j25).length,true,1,true⟩)]) (λj25 h=>?_) λκ24 h=>?_
   .refine S6 2 J ?_;exact eL h (Wk.trans (n7 _ [21]) (WP (λl=>if l=910005 then 21 else l)))
   .refine l4 ?_;refine S3 1 J<|iL h J J Q5 U5 λv26 _ h=>S2 4 J<|S3 2 J<|cA h wH J J λv27 _ h=>yN ?_;refine cN h (λhc h=>?_) λhc h=>?_
    .refine S5 2 J ?_;refine y0 J (I3 (f:=iF) (l:=[s17]) J m7 o7 C0 J J nl J J)<|y6 h λv28 hv21 h=>J5 J (I6 (f:=iF) hv21 J J J J J J (.inl ⟨_,J,J⟩) m7 o7 Q1 C0 J (λ_=>J)) J J J<|S2 1 J ?_;exact eJ h (Wk.trans (n7 _ [21]) W)
    .refine c8 ?_;exact eJ h (Wk.trans (n7 _ [910005]) (WP (λl=>if l=21 then 910005 else l)))
  .refine p6 ?_;refine g8<|g8<|m8 ?_;have h:=xL hx14 h;exact eJ h (Wk.trans (n7 _ [910005]) W)
theorem nT{a0}:OC Tryz.prog 266 [.L k9.Pv a0] (bT a0) λr=>⟨List.map k9.Pv r,0,true,3,true⟩:=by
 refine Sw Tryz.func266 λr h _ _=>?_;unfold bT at h;refine S4 1 J<|S3 1 J<|nL J Q5<|y6 h λv1 hv1 h=>y1 J (AJ (f:=k9.Pv) hv1 J J J Q5 U5 Ca Hv J J J) J<|S2 1 J<|S3 2 J<|y6 h λv2 hv2 h=>Xa (f:=k9.Pv) hv2 J J J (.inl ⟨_,J,J⟩) Q5 U5 (λ_=>J) (by decide)<|yN<|S4 2 J<|c5 ?_;cases h;exact⟨J,_,_,J,J,J,J⟩
theorem qX{a0 a1}:PO Tryz.prog 159 [.L k9.Pv a0,.L iF a1] (gp a0 a1) λr=>.tup [.L k9.Pv r.1,.L iF r.2]:=by
 refine pO Tryz.func159 λr h _ _=>?_;unfold gp at h;refine S4 3 J<|S3 2 J<|y6 h λv1 hv1 h=>Ju J (w8 J iG J hv1) J<|S2 1 J<|S3 1 J<|y6 h λv2 hv2 h=>Jv J (gW J nT J hv2) J J<|S2 1 J<|S4 1 J ?_;refine jq h (λq=>St.of [(7,.sl 15),(8,.sl 910008)] [(910008,⟨List.map iF q.1,(List.map iF q.1).length,true,1,true⟩),(15,⟨List.map k9.Pv q.2,0,true,3,true⟩)]) (λq24 h=>?_) λκ21 h=>?_
 .obtain⟨j22,j23⟩:=q24;refine S4 4 J<|c5 ?_;cases h;exact f2
 .refine S3 1 J ?_;refine nL J m7<|S2 1 J<|l4<|lq h (λq=>St.of [(7,.sl 15),(8,.sl 910008),(16,.L iF v1),(17,.I (v1.length:Int)),(18,.I q.1)] [(15,⟨List.map k9.Pv q.2.1,0,true,3,true⟩),(910008,⟨List.map iF q.2.2,(List.map iF q.2.2).length,true,1,true⟩)]) (Wk.trans (G4 (t:=8) (l:=920008) (z:=1) J J) (WP (λl=>if l=910008 then 920008 else l))) λq30 x29 h hx18=>?_;obtain⟨s26,s27,s28⟩:=q30;refine S4 1 J<|l5 ?_;refine cN h (λhc h=>?_) λhc h=>?_
  .refine c8 ?_;refine jq h (λq=>St.of [(7,.sl 15),(8,.sl 35),(16,.L iF v1),(17,.I (v1.length:Int)),(18,.I s26)] [(35,⟨List.map iF q.1,(List.map iF q.1).length,true,1,true⟩),(15,⟨List.map k9.Pv q.2,0,true,3,true⟩)]) (λq38 h=>?_) λκ35 h=>?_
   .obtain⟨j36,j37⟩:=q38;refine S6 2 J ?_;exact eL h (Wk.trans (n7 _ [35]) (WP (λl=>if l=910008 then 35 else l)))
   .refine l4 ?_;refine sR<|iL h J J m7 o7 λv39 _ h=>S2 2 J<|S3 2 J<|y6 h λv40 hv25 h=>y0 J (aQ (f:=k9.Pv) hv25 J J J J Q5 U5 J)<|S1 1 J<|nV (f:=k9.Pv) (v:=(⟨v40.Target,false,v40.Call⟩:k9)) hv25 J J (.inl J) VH<|yN<|S3 2 J<|y6 h λv41 hv26 h=>y0 J (aQ (f:=k9.Pv) hv26 J J J J Q5 U5 J)<|S1 1 J<|y0 J (EL (f:=k9.Pv) hv26 J J J K1 J)<|S2 1 J ?_;refine cN h (λhc h=>?_) λhc h=>?_
    .refine S5 2 J ?_;refine y0 J (I3 (f:=iF) (l:=[v39]) J m7 o7 C0 J J nl J J)<|y6 h λv42 hv27 h=>J5 J (I6 (f:=iF) hv27 J J J J J J (.inl ⟨_,J,J⟩) m7 o7 Q1 C0 J (λ_=>J)) J J J<|S2 1 J ?_;exact eJ h (Wk.trans (n7 _ [35]) W)
    .refine c8 ?_;exact eJ h (Wk.trans (n7 _ [910008]) (WP (λl=>if l=35 then 910008 else l)))
  .refine p6 ?_;refine g8<|g8<|m8 ?_;have h:=xL hx18 h;exact eJ h (Wk.trans (n7 _ [910008]) W)
theorem tG{a0 a1}:PO Tryz.prog 161 [.I a0,.rptr [.L k9.Pv a1]] (eX a0 a1) λr=>g7.Pv r:=by
 refine pO Tryz.func161 λr h _ _=>?_;refine S4 1 J<|S3 3 J<|iL h J J Q5 U5 λv1 _ h=>S1 2 J<|y0 J (p7 (cs:=[.I 2,.I a0,.I v1.Call]) J sf ao J J J)<|S2 1 J<|c5 ?_;cases h;exact⟨J,[_],⟨oL J J J bU C8 nl J,tr⟩,J,io⟩
theorem X6{a0 a1}:PO Tryz.prog 160 [.L iF a0,.fn (.func 161) [.rptr [.L k9.Pv a1]]] (B8 a0 a1) λr=>.L g7.Pv r:=by
 refine pO Tryz.func160 λr h _ _=>?_;refine S4 1 J<|S4 1 J ?_;refine jq h (λj10=>St.of [(5,.sl 910005)] [(910005,⟨List.map g7.Pv j10,(List.map g7.Pv j10).length,true,3,true⟩)]) (λj10 h=>?_) λκ9 h=>?_
 .refine S4 2 J ?_;refine c5 ?_;cases h;exact f1
 .refine S3 1 J ?_;refine nL J m7<|S2 1 J<|l4<|lq h (λq=>St.of [(1,.fn (.func 161) [.rptr [.L k9.Pv a1]]),(5,.sl 910005),(8,.L iF a0),(9,.I (a0.length:Int)),(10,.I q.1)] [(910005,⟨List.map g7.Pv q.2,(List.map g7.Pv q.2).length,true,3,true⟩)]) (Wk.trans (G4 (t:=5) (l:=920005) (z:=3) J J) (WP (λl=>if l=910005 then 920005 else l))) λq15 x14 h hx10=>?_;obtain⟨s12,s13⟩:=q15;refine S4 1 J<|l5 ?_;refine cN h (λhc h=>?_) λhc h=>?_
  .refine c8 ?_;refine l5<|l4<|sR<|iL h J J m7 o7 λv16 _ h=>S2 2 J<|S5 3 J<|cA h tG J J λv17 _ h=>y0 J (I3 (f:=g7.Pv) (l:=[v17]) J I9 C8 ao J J nl J J)<|y6 h λv18 hv13 h=>J5 J (I6 (f:=g7.Pv) hv13 J J J J J J (.inl ⟨_,J,J⟩) I9 C8 mw ao J (λ_=>J)) J J J<|S2 1 J<|S6 2 J ?_;exact eL h (Wk.trans (n7 _ [19]) (WP (λl=>if l=910005 then 19 else l)))
  .refine p6 ?_;refine g8<|g8<|m8 ?_;have h:=xL hx10 h;exact eJ h (Wk.trans (n7 _ [910005]) W)
theorem cR{a0}:PO Tryz.prog 162 [.L (Ls g7.Pv) a0] (F4 a0) λr=>.L g7.Pv r:=by
 refine pO Tryz.func162 λr h _ _=>?_;refine S4 1 J<|S4 1 J ?_;refine jq h (λj11=>St.of [(0,.L (Ls g7.Pv) a0),(3,.I j11)] []) (λj11 h=>?_) λκ10 h=>?_
 .refine S3 1 J ?_;refine O1 (WE [(0,.L (Ls g7.Pv) a0),(23,.I j11)] []) ?_;refine uz (fn:=Tryz.f267) (N1:=27) J J Tryz.func267 J OT J J nl (λe8 o9=>?_);refine S4 1 J ?_;refine jq h (λ_=>St.of [(1000000,.L (Ls g7.Pv) a0),(1000023,.I j11),(0,.nl),(1,.I j11)] []) (λq13 h=>?_) λκ12 h=>?_
  .refine l5 ?_;refine S3 2 J<|Jt J J I9<|S1 1 J<|nL (f:=g7.Pv) (xs:=[]) J I9<|S2 3 J<|S4 2 J ?_;refine cN h (λhc h=>?_) λhc h=>?_
   .refine S5 2 J ?_;refine Jt J J I9<|y0 J (xa (t':=true) (xs:=[]) (ys:=[]) J I9 C8 (λ_ q=>nomatch q) J ⟨_,J⟩ J (λq=>nomatch q) (zG _) (zV _) (zG _) J J)<|S1 1 J<|y6 h λv14 hv11 h=>SG (f:=g7.Pv) J hv11 J nl J J I9 I0 C8 nl ao mw J J J<|S1 1 J<|nL (f:=g7.Pv) (xs:=[]) J I9<|Oz [(1000000,.L (Ls g7.Pv) a0),(1000023,.I j11),(0,.nl),(1,.I (w9 (j11-(w9 (0-0))))),(8,.I j11),(9,.nl),(10,.I 0),(11,.nl),(12,.I 0),(13,.I (w9 (0-0))),(14,.I (w9 (j11-(w9 (0-0))))),(15,.I (w9 (j11-(w9 (0-0))))),(16,.bool (decide ((w9 (j11-(w9 (0-0)))) > 0))),(17,.nl),(18,.nl),(19,.I 0),(20,.nl),(21,.I (w9 (j11-(w9 (0-0))))),(23,.nl),(24,.I 0)] [] J ⟨J,J,J,J,J,J,J,J,J,J,J,J,J,J,J,J,J,J,J,J,J,J,J,J,J,J,J,J,J,J,J,J,J,J,J,J,J,J,J,J,J,J,J,J,J,J,J,J,J,J,J,J,J,J,J,J,J,J,J,J,tr⟩ tr J J nl J J J I9 C8<|S2 1 J<|S4 2 J<|c5 ?_;refine⟨J,[.sl 25],⟨J,tr⟩,?_⟩;refine O1 (rW (λl=>if l=2001 then 25 else l) [(0,.L (Ls g7.Pv) a0),(24,.sl 2001)] [(2001,⟨List.map g7.Pv [],0,true,3,true⟩)])<|S2 1 J ?_;refine jq h (λj23=>St.of [(6,.sl 2001)] [(2001,⟨List.map g7.Pv j23,(List.map g7.Pv j23).length,true,3,true⟩)]) (λj23 h=>?_) λκ22 h=>?_
    .refine S4 2 J ?_;refine c5 ?_;cases h;exact f1
    .refine S3 1 J ?_;refine nL J mB<|S2 1 J<|l4<|lq h (λq=>St.of [(6,.sl 2001),(25,.L (Ls g7.Pv) a0),(26,.I (a0.length:Int)),(27,.I q.1)] [(2001,⟨List.map g7.Pv q.2,(List.map g7.Pv q.2).length,true,3,true⟩)]) (Wk.trans (n7 _ [2001]) W) λq28 x27 h hx20=>?_;obtain⟨s25,s26⟩:=q28;refine S4 1 J<|l5 ?_;refine cN h (λhc h=>?_) λhc h=>?_
     .refine c8 ?_;refine l5<|l4<|sR<|iL h J J mB uC λv29 _ h=>S2 2 J<|S5 2 J<|y6 h λv30 hv22 h=>J5 J (I6 (f:=g7.Pv) hv22 J J J J J J (.inl ⟨_,J,J⟩) I9 C8 mw ao J (λ_=>J)) J J J<|S2 1 J<|S6 2 J ?_;exact eL h (Wk.trans (n7 _ [33]) (WP (λl=>if l=2001 then 33 else l)))
     .refine p6 ?_;refine g8<|g8<|m8 ?_;have h:=xL hx20 h;exact eJ h (Wk.trans (n7 _ [2001]) W)
   .refine c8 ?_;refine S4 2 J<|c5 ?_;refine⟨J,[.nl],⟨J,tr⟩,?_⟩;refine O1 (WE [(0,.L (Ls g7.Pv) a0),(24,.nl)] [])<|S2 1 J ?_;refine jq h (λj39=>St.of [(6,.sl 910006)] [(910006,⟨List.map g7.Pv j39,(List.map g7.Pv j39).length,true,3,true⟩)]) (λj39 h=>?_) λκ38 h=>?_
    .refine S4 2 J ?_;refine c5 ?_;cases h;exact f1
    .refine S3 1 J ?_;refine nL J mB<|S2 1 J<|l4<|lq h (λq=>St.of [(6,.sl 910006),(25,.L (Ls g7.Pv) a0),(26,.I (a0.length:Int)),(27,.I q.1)] [(910006,⟨List.map g7.Pv q.2,(List.map g7.Pv q.2).length,true,3,true⟩)]) (Wk.trans (G4 (t:=6) (l:=920006) (z:=3) J J) (WP (λl=>if l=910006 then 920006 else l))) λq44 x43 h hx31=>?_;obtain⟨s41,s42⟩:=q44;refine S4 1 J<|l5 ?_;refine cN h (λhc h=>?_) λhc h=>?_
     .refine c8 ?_;refine l5<|l4<|sR<|iL h J J mB uC λv45 _ h=>S2 2 J<|S5 2 J<|y6 h λv46 hv33 h=>J5 J (I6 (f:=g7.Pv) hv33 J J J J J J (.inl ⟨_,J,J⟩) I9 C8 mw ao J (λ_=>J)) J J J<|S2 1 J<|S6 2 J ?_;exact eL h (Wk.trans (n7 _ [33]) (WP (λl=>if l=910006 then 33 else l)))
     .refine p6 ?_;refine g8<|g8<|m8 ?_;have h:=xL hx31 h;exact eJ h (Wk.trans (n7 _ [910006]) W)
  .refine S4 2 J ?_;refine cN h (λhc h=>?_) λhc h=>?_;·cases h
   .refine c8 ?_;exact eJ h W
 .refine S3 1 J ?_;refine nL J mB<|S2 1 J<|l4<|lq h (λq=>St.of [(0,.L (Ls g7.Pv) a0),(3,.I q.1),(9,.L (Ls g7.Pv) a0),(10,.I (a0.length:Int)),(11,.I q.2)] []) W λq51 x50 h hx36=>?_;obtain⟨s48,s49⟩:=q51;refine S4 1 J<|l5 ?_;refine cN h (λhc h=>?_) λhc h=>?_
  .refine c8 ?_;refine jq h (λj54=>St.of [(0,.L (Ls g7.Pv) a0),(3,.I j54),(9,.L (Ls g7.Pv) a0),(10,.I (a0.length:Int)),(11,.I s49)] []) (λj54 h=>?_) λκ53 h=>?_
   .refine S6 2 J ?_;exact eL h W
   .refine l4 ?_;refine sR<|iL h J J mB uC λv55 _ h=>S2 2 J<|S3 2 J<|nL J I9<|S2 2 J<|S4 2 J ?_;refine cN h (λhc h=>?_) λhc h=>?_;·cases h
    .refine c8 ?_;exact eJ h W
  .refine p6 ?_;refine g8<|g8<|m8 ?_;have h:=xL hx36 h;exact eJ h W
theorem tH{a0 a1}:PO Tryz.prog 164 [k7.Pv a0,.rptr [.L iF a1]] (eY a0 a1) λr=>.bool r:=by
 refine pO Tryz.func164 λr h _ _=>?_;refine S4 2 J<|S3 3 J<|cA h L3 J J λv1 _ h=>S2 2 J<|c5 ?_;cases h;exact f1
theorem aA{a0 a1}:PO Tryz.prog 163 [.L k7.Pv a0,.fn (.func 164) [.rptr [.L iF a1]]] (C9 a0 a1) λr=>.L k7.Pv r:=by
 refine pO Tryz.func163 λr h _ _=>?_;refine S4 1 J<|S4 1 J ?_;refine jq h (λj15=>St.of [(5,.sl 910005)] [(910005,⟨List.map k7.Pv j15,(List.map k7.Pv j15).length,true,2,true⟩)]) (λj15 h=>?_) λκ14 h=>?_
 .refine S4 2 J ?_;refine c5 ?_;cases h;exact f1
 .refine S3 1 J ?_;refine nL J M4<|S2 1 J<|l4<|lq h (λq=>St.of [(1,.fn (.func 164) [.rptr [.L iF a1]]),(5,.sl 910005),(8,.L k7.Pv a0),(9,.I (a0.length:Int)),(10,.I q.1)] [(910005,⟨List.map k7.Pv q.2,(List.map k7.Pv q.2).length,true,2,true⟩)]) (Wk.trans (G4 (t:=5) (l:=920005) (z:=2) J J) (WP (λl=>if l=910005 then 920005 else l))) λq20 x19 h hx14=>?_;obtain⟨s17,s18⟩:=q20;refine S4 1 J<|l5 ?_;refine cN h (λhc h=>?_) λhc h=>?_
  .refine c8 ?_;refine jq h (λj25=>St.of [(1,.fn (.func 164) [.rptr [.L iF a1]]),(5,.sl 20),(8,.L k7.Pv a0),(9,.I (a0.length:Int)),(10,.I s17)] [(20,⟨List.map k7.Pv j25,(List.map k7.Pv j25).length,true,2,true⟩)]) (λj25 h=>?_) λκ24 h=>?_
   .refine S6 2 J ?_;exact eL h (Wk.trans (n7 _ [20]) (WP (λl=>if l=910005 then 20 else l)))
   .refine l4 ?_;refine sR<|iL h J J M4 T7 λv26 _ h=>S2 3 J<|S3 2 J<|cA h tH J J λv27 _ h=>yN ?_;refine cN h (λhc h=>?_) λhc h=>?_
    .refine S5 2 J ?_;refine y0 J (I3 (f:=k7.Pv) (l:=[v26]) J M4 T7 aq J J nl J J)<|y6 h λv28 hv21 h=>J5 J (I6 (f:=k7.Pv) hv21 J J J J J J (.inl ⟨_,J,J⟩) M4 T7 pL aq J (λ_=>J)) J J J<|S2 1 J ?_;exact eJ h (Wk.trans (n7 _ [20]) W)
    .refine c8 ?_;exact eJ h (Wk.trans (n7 _ [910005]) (WP (λl=>if l=20 then 910005 else l)))
  .refine p6 ?_;refine g8<|g8<|m8 ?_;have h:=xL hx14 h;exact eJ h (Wk.trans (n7 _ [910005]) W)
theorem tI{a0}:PO Tryz.prog 166 [b8.Pv a0] (jD a0) λr=>b8.Pv r:=by
 refine pO Tryz.func166 λr h _ _=>?_;unfold jD at h;refine S4 2 J<|S3 3 J<|kK (x':=.agg [.I a0.Serial,.I a0.Slot,.I a0.Prog,.bool a0.Started,.bool false,.bool a0.Stuck,.nl]) (cl':=true) J J (.inl J) bD<|yN<|S3 1 J<|kK (x':=.agg [.I a0.Serial,.I a0.Slot,.I a0.Prog,.bool a0.Started,.bool false,.bool a0.Stuck,.nl]) (cl':=true) J J (.inl J) u9<|yN<|c5 ?_;cases h;exact⟨J,[_],⟨oL J J J gr u9 nl J,tr⟩,J,io⟩
theorem eZ{a0 a1}:PO Tryz.prog 154 [a8.Pv a0,.I a1,.fn (.func 166) []] (C7 a0 a1) λr=>a8.Pv r:=by
 refine pO Tryz.func154 λr h _ _=>?_;refine S4 2 J<|S3 2 J<|cA h R4 J J λv1 _ h=>S2 1 J<|S3 2 J<|y6 h λv2 hv2 h=>Jv J (gW J B1 J hv2) J J<|S2 2 J<|dr [] u4 (by kernel_rfl) (by kernel_rfl)<|S7 7 J<|y6 h λv3 hv3 h=>d0 J (aQ (f:=b8.Pv) hv3 J J J J B7 u9 J) J<|d0 J (IH (f:=b8.Pv) (cs:=b8.Pc v3) hv3 J J J gr u9 nl J) J<|y6 h λv4 hv4 h=>eE J (w8 J tI J hv4) J<|d0 J (aQ (f:=b8.Pv) hv3 J J J J B7 u9 J) J<|HY (f:=b8.Pv) (v:=v4) hv3 J J (.inr J) u9<|K2<|S4 2 J<|c5 ?_;cases h;exact⟨J,[_],⟨oL J J J A0 w7 nl J,tr⟩,J,io⟩
theorem vz{a0 a1}:PO Tryz.prog 315 [k9.Pv a0,.rptr [.I a1]] (gI a0 a1) λr=>.bool r:=by
 refine pO Tryz.func315 λr h _ _=>?_;unfold gI at h;refine S4 2 J<|S3 3 J<|n0 J (λhg=>oF J pM J)<|n0 J (λhg=>oS (ct hg) J J K1 J)<|n0 J (λhg=>V2 J K1 J)<|n0 J (λhg=>D2 (ct hg) (ct hg) J)<|y0 J (D5 J J J (λq=>kl q))<|S2 1 J<|c5 ?_;cases h;exact f1
theorem ia{a0 a1}:PO Tryz.prog 264 [.L k9.Pv a0,.fn (.func 315) [.rptr [.I a1]]] (T6 a0 a1) λr=>.L iF r:=by
 refine pO Tryz.func264 λr h _ _=>?_;refine S4 1 J<|S4 1 J ?_;refine jq h (λj15=>St.of [(5,.sl 910005)] [(910005,⟨List.map iF j15,(List.map iF j15).length,true,1,true⟩)]) (λj15 h=>?_) λκ14 h=>?_
 .refine S4 2 J ?_;refine c5 ?_;cases h;exact f1
 .refine S3 1 J ?_;refine nL J Q5<|S2 1 J<|l4<|lq h (λq=>St.of [(1,.fn (.func 315) [.rptr [.I a1]]),(5,.sl 910005),(8,.L k9.Pv a0),(9,.I (a0.length:Int)),(10,.I q.1)] [(910005,⟨List.map iF q.2,(List.map iF q.2).length,true,1,true⟩)]) (Wk.trans (G4 (t:=5) (l:=920005) (z:=1) J J) (WP (λl=>if l=910005 then 920005 else l))) λq20 x19 h hx14=>?_;obtain⟨s17,s18⟩:=q20;refine S4 1 J<|l5 ?_;refine cN h (λhc h=>?_) λhc h=>?_
  .refine c8 ?_;refine jq h (λj25=>St.of [(1,.fn (.func 315) [.rptr [.I a1]]),(5,.sl 21),(8,.L k9.Pv a0),(9,.I (a0.length:Int)),(10,.I s17)] [(21,⟨List.map iF j25,(List.map iF j25).length,true,1,true⟩)]) (λj25 h=>?_) λκ24 h=>?_
   .refine S6 2 J ?_;exact eL h (Wk.trans (n7 _ [21]) (WP (λl=>if l=910005 then 21 else l)))
   .refine l4 ?_;refine S3 1 J<|iL h J J Q5 U5 λv26 _ h=>S2 4 J<|S3 2 J<|cA h vz J J λv27 _ h=>yN ?_;refine cN h (λhc h=>?_) λhc h=>?_
    .refine S5 2 J ?_;refine y0 J (I3 (f:=iF) (l:=[s17]) J m7 o7 C0 J J nl J J)<|y6 h λv28 hv21 h=>J5 J (I6 (f:=iF) hv21 J J J J J J (.inl ⟨_,J,J⟩) m7 o7 Q1 C0 J (λ_=>J)) J J J<|S2 1 J ?_;exact eJ h (Wk.trans (n7 _ [21]) W)
    .refine c8 ?_;exact eJ h (Wk.trans (n7 _ [910005]) (WP (λl=>if l=21 then 910005 else l)))
  .refine p6 ?_;refine g8<|g8<|m8 ?_;have h:=xL hx14 h;exact eJ h (Wk.trans (n7 _ [910005]) W)
theorem Al{a0 a1}:PO Tryz.prog 268 [.L k9.Pv a0,.I a1] (dZ a0 a1) λr=>.I r:=by
 refine pO Tryz.func268 λr h _ _=>?_;unfold dZ at h;refine S4 2 J<|S3 2 J<|y6 h λv1 hv1 h=>Ju J (w8 J ia J hv1) J<|nL J m7<|S2 1 J<|c5 ?_;cases h;exact f1
theorem qu{a0 a1}:PO Tryz.prog 269 [b8.Pv a0,.rptr [.I a1]] (ck a0 a1) λr=>.bool r:=by
 refine pO Tryz.func269 λr h _ _=>?_;unfold ck at h;refine S4 2 J<|S4 5 J<|c5 ?_;cases h;exact f1
theorem Z2{a0 a1}:PO Tryz.prog 60 [.L b8.Pv a0,.fn (.func 269) [.rptr [.I a1]]] (C4 a0 a1) λr=>.L b8.Pv r:=by
 refine pO Tryz.func60 λr h _ _=>?_;refine S4 1 J<|S4 1 J ?_;refine jq h (λj15=>St.of [(5,.sl 910005)] [(910005,⟨List.map b8.Pv j15,(List.map b8.Pv j15).length,true,7,true⟩)]) (λj15 h=>?_) λκ14 h=>?_
 .refine S4 2 J ?_;refine c5 ?_;cases h;exact f1
 .refine S3 1 J ?_;refine nL J B7<|S2 1 J<|l4<|lq h (λq=>St.of [(1,.fn (.func 269) [.rptr [.I a1]]),(5,.sl 910005),(8,.L b8.Pv a0),(9,.I (a0.length:Int)),(10,.I q.1)] [(910005,⟨List.map b8.Pv q.2,(List.map b8.Pv q.2).length,true,7,true⟩)]) (Wk.trans (G4 (t:=5) (l:=920005) (z:=7) J J) (WP (λl=>if l=910005 then 920005 else l))) λq20 x19 h hx14=>?_;obtain⟨s17,s18⟩:=q20;refine S4 1 J<|l5 ?_;refine cN h (λhc h=>?_) λhc h=>?_
  .refine c8 ?_;refine jq h (λj25=>St.of [(1,.fn (.func 269) [.rptr [.I a1]]),(5,.sl 20),(8,.L b8.Pv a0),(9,.I (a0.length:Int)),(10,.I s17)] [(20,⟨List.map b8.Pv j25,(List.map b8.Pv j25).length,true,7,true⟩)]) (λj25 h=>?_) λκ24 h=>?_
   .refine S6 2 J ?_;exact eL h (Wk.trans (n7 _ [20]) (WP (λl=>if l=910005 then 20 else l)))
   .refine l4 ?_;refine sR<|iL h J J B7 u9 λv26 _ h=>S2 3 J<|S3 2 J<|cA h qu J J λv27 _ h=>yN ?_;refine cN h (λhc h=>?_) λhc h=>?_
    .refine S5 2 J ?_;refine y0 J (I3 (f:=b8.Pv) (l:=[v26]) J B7 u9 al J J nl J J)<|y6 h λv28 hv21 h=>J5 J (I6 (f:=b8.Pv) hv21 J J J J J J (.inl ⟨_,J,J⟩) B7 u9 mr al J (λ_=>J)) J J J<|S2 1 J ?_;exact eJ h (Wk.trans (n7 _ [20]) W)
    .refine c8 ?_;exact eJ h (Wk.trans (n7 _ [910005]) (WP (λl=>if l=20 then 910005 else l)))
  .refine p6 ?_;refine g8<|g8<|m8 ?_;have h:=xL hx14 h;exact eJ h (Wk.trans (n7 _ [910005]) W)
theorem I7{a0}:OC Tryz.prog 180 [.L iF a0] (y7 a0) λr=>⟨List.map iF r,0,true,1,true⟩:=by
 refine Sw Tryz.func180 λr h _ _=>?_;unfold y7 at h;refine S4 1 J<|l5<|S3 1 J<|uy J m7 λb hb=>yN ?_;refine G6 b J (λhc=>?_) (λhc=>?_)
 .obtain rfl:a0 = []:=by simpa using hb hc
  refine S4 1 J<|bM (G4 (t:=2) (l:=920000) (z:=1) J J)<|c5 ?_;cases h;exact⟨J,_,_,J,J,J,J⟩
 .refine c8 ?_;refine sR<|y0 J (lL J m7 o7)<|S1 1 J<|y1 J (yw (f:=iF) h J J (.inl ⟨_,J,J⟩) m7 o7 Q1 C0 J (λ_=>J)) J<|S2 1 J<|c5 ?_;exact⟨J,_,_,J,J,J,J⟩
theorem kB{a0 a1}:PO Tryz.prog 167 [a8.Pv a0,.I a1] (O6 a0 a1) λr=>a8.Pv r:=by
 refine pO Tryz.func167 λr h _ _=>?_;refine S4 3 J<|S3 2 J<|cA h R4 J J λv1 _ h=>S2 1 J<|l5<|S3 3 J<|n0 J (λhg=>oF J Ld J)<|n0 J (λhg=>oS (ct hg) J J SJ J)<|n0 J (λhg=>mI J)<|y6 h λv2 hv2 h=>n0 J (λhg=>P4 (f:=b8.Pv) (cs:=b8.Pc v2) (aj hv2 hg) (ct hg) (ct hg) B7 u9 J J)<|n0 J (λhg=>aC (ct hg) JA J)<|n0 J (λhg=>V2 (ct hg) vC J)<|y0 J (O8 J J J (λq=>oG q))<|S1 1 J<|n0 J (λhg=>oF J xq J)<|n0 J (λhg=>oS (ct hg) J J BW J)<|n0 J (λhg=>oS J J J K1 J)<|y6 h λv3 hv3 h=>n0 J (λhg=>R8 J Al (X5 (ct hg) (X5 (ct hg) J)) (aj hv3 hg))<|n0 J (λhg=>D2 (ct hg) J J)<|y0 J (O8 J J J (λq=>oG q))<|yN ?_;refine cN h (λhc h=>?_) λhc h=>?_
 .refine S4 2 J ?_;refine c5 ?_;cases h;exact⟨J,[_],⟨oL J J J A0 w7 nl J,tr⟩,J,io⟩
 .refine c8 ?_;refine S3 3 J<|iL h J J B7 u9 λv4 _ h=>S2 3 J<|S3 3 J<|y6 h λv5 hv5 h=>Ju J (w8 J Z2 J hv5) J<|S2 2 J<|dr [] u4 (by kernel_rfl) (by kernel_rfl)<|S7 2 J<|y6 h λv6 hv6 h=>Xz J (gW J I7 J hv6) J J J<|S7 2 J<|y6 h λv7 hv7 h=>Xz J (gW J I7 J hv7) J J J<|S7 1 J<|D1 (x':=.agg [.L b8.Pv v5,.sl 41,.L iF a0.Gens,.I a0.Last,.I a0.Places,.I a0.Serial,.L iF a0.Roots,.L k9.Pv a0.b7,.L k7.Pv a0.Pairs,.L g7.Pv a0.Tasks,.L (Ls j5.Pv) a0.Progs]) (cl':=false) J J (.inl J) bD<|S7 1 J<|D1 (x':=.agg [.L b8.Pv v5,.sl 41,.sl 44,.I a0.Last,.I a0.Places,.I a0.Serial,.L iF a0.Roots,.L k9.Pv a0.b7,.L k7.Pv a0.Pairs,.L g7.Pv a0.Tasks,.L (Ls j5.Pv) a0.Progs]) (cl':=false) J J (.inl J) bD<|K2<|l5<|dr [] u4 (by kernel_rfl) (by kernel_rfl)<|S7 3 J<|y6 h λv8 hv8 h=>d0 J (aQ (f:=iF) hv8 J J J J m7 o7 J) J<|d0 J (EL (f:=iF) hv8 J J J K1 J) J<|S8 3 J ?_;refine cN h (λhc h=>?_) λhc h=>?_
  .refine S3 3 J ?_;obtain⟨v9,hv9,h⟩:=sp h;refine y0 J (aQ (f:=iF) hv9 J J J J m7 o7 J)<|nV (f:=iF) (v:=(-1)) hv9 J J (.inl J) o7<|yN<|S4 2 J<|c5 ?_;cases h;exact⟨J,[_],⟨oL J J J A0 w7 nl J,tr⟩,J,io⟩
  .refine c8 ?_;refine S3 3 J<|y6 h λv10 hv10 h=>y0 J (aQ (f:=iF) hv10 J J J J m7 o7 J)<|nV (f:=iF) (v:=0) hv10 J J (.inl J) o7<|yN<|S3 3 J<|y0 J (aQ (f:=iF) hv8 J J J J m7 o7 J)<|y0 J (EL (f:=iF) hv8 J J J K1 J)<|S1 1 J<|y0 J (aQ (f:=iF) hv8 J J J J m7 o7 J)<|nV (f:=iF) (v:=w9 (v8+1)) hv8 J J (.inl J) o7<|yN<|S4 2 J<|c5 ?_;cases h;exact⟨J,[_],⟨oL J J J A0 w7 nl J,tr⟩,J,io⟩
theorem nK{a0 a1}:PO Tryz.prog 87 [a8.Pv a0,.L iF a1] (eW a0 a1) λr=>a8.Pv r:=by
 refine pO Tryz.func87 λr h _ _=>?_;refine S4 3 J<|S3 3 J<|cF h qX J J λv1 _ h=>S2 6 J<|S4 3 J<|S3 2 J<|y6 h λv2 hv2 h=>Ju J (w8 J X6 J hv2) J<|S2 1 J<|S3 3 J<|y0 J (I3 (f:=(Ls g7.Pv)) (l:=[a0.Tasks,v2]) J mB uC SU J J nl J J)<|cF h cR J J λv3 _ h=>S2 2 J<|S3 3 J<|y6 h λv4 hv4 h=>Ju J (w8 J aA J hv4) J<|S2 2 J ?_;refine jq h (λj14=>St.of [(2,.ptr 2 0 0),(4,.ptr 4 0 0)] [(4,vR (.agg [.nl,.nl,.nl,.I 0,.I 0,.I 0,.nl,.nl,.nl,.nl,.nl]) 11),(2,vR (a8.Pv j14) 11)]) (λj14 h=>?_) λκ13 h=>?_
 .refine S4 2 J ?_;refine c5 ?_;cases h;exact⟨J,[_],⟨oL J J J A0 w7 nl J,tr⟩,J,io⟩
 .refine S3 1 J ?_;refine nL J m7<|S2 1 J<|l4<|lq h (λq=>St.of [(2,.ptr 2 0 0),(4,.ptr 4 0 0),(33,.L iF a1),(34,.I (a1.length:Int)),(35,.I q.1)] [(4,vR (.agg [.nl,.nl,.nl,.I 0,.I 0,.I 0,.nl,.nl,.nl,.nl,.nl]) 11),(2,vR (a8.Pv q.2) 11)]) W λq19 x18 h hx14=>?_;obtain⟨s16,s17⟩:=q19;refine S4 1 J<|l5 ?_;refine cN h (λhc h=>?_) λhc h=>?_
  .refine c8 ?_;refine l5<|l4<|sR<|iL h J J m7 o7 λv20 _ h=>S2 2 J<|S3 2 J<|cF h eZ J J λv21 _ h=>S2 1 J<|S5 2 J<|cF h kB J J λv22 _ h=>S2 1 J<|S6 2 J ?_;exact eL h W
  .refine p6 ?_;refine g8<|g8<|m8 ?_;have h:=xL hx14 h;exact eJ h W
theorem rE{a0 a1}:PO Tryz.prog 158 [b8.Pv a0,.rptr (a8.Pc a1)] (aP a0 a1) λr=>.bool r:=by
 refine pO Tryz.func158 λr h _ _=>?_;unfold aP at h;refine S4 2 J<|S3 3 J<|n0 J (λhg=>oF J JB J)<|n0 J (λhg=>oS (ct hg) J J vC J)<|n0 J (λhg=>fK (ct hg) J)<|y0 J (D5 J J J (λq=>kl q))<|S1 1 J<|n0 J (λhg=>EM J A0 w7 nl J)<|n0 J (λhg=>oF J AT J)<|n0 J (λhg=>oS (ct hg) J J K1 J)<|y6 h λv1 hv1 h=>n0 J (λhg=>R8 J pc (X5 (ct hg) (X5 (ct hg) J)) (aj hv1 hg))<|n0 J (λhg=>D2 (ct hg) J J)<|y0 J (D5 J J J (λq=>kl q))<|S2 1 J<|c5 ?_;cases h;exact f1
theorem N3{a0 a1}:PO Tryz.prog 157 [.L b8.Pv a0,.fn (.func 158) [.rptr (a8.Pc a1)]] (x4 a0 a1) λr=>.I r:=by
 refine pO Tryz.func157 λr h _ _=>?_;refine S4 1 J ?_;refine jq h (λ_=>St.of [] []) (λq7 h=>?_) λκ6 h=>?_
 .refine S4 1 J ?_;refine c5 ?_;cases h;exact f1
 .refine S3 1 J ?_;refine nL J B7<|S2 1 J<|l4<|lq h (λs9=>St.of [(0,.L b8.Pv a0),(1,.fn (.func 158) [.rptr (a8.Pc a1)]),(7,.I (a0.length:Int)),(8,.I s9)] []) W λs9 x10 h hx9=>S4 1 J<|l5 ?_;refine cN h (λhc h=>?_) λhc h=>?_
  .refine c8 ?_;refine l5<|l4<|S4 2 J<|S3 3 J<|iL h J J B7 u9 λv11 _ h=>S1 1 J<|cA h rE J J λv12 _ h=>yN ?_;refine cN h (λhc h=>?_) λhc h=>?_
   .refine S4 2 J ?_;refine c5 ?_;have h:=xL hx9 h;cases h;exact f1
   .refine c8 ?_;refine S6 2 J ?_;exact eL h W
  .refine p6 ?_;refine g8<|g8<|m8 ?_;have h:=xL hx9 h;exact eJ h W
theorem M9{a0}:PO Tryz.prog 86 [a8.Pv a0] (H4 a0) λr=>a8.Pv r:=by
 refine pO Tryz.func86 λr h _ _=>?_;refine S4 2 J<|l4<|lq h (λs2=>St.of [(1,.ptr 1 0 0),(2,.ptr 2 0 0)] [(2,vR (.agg [.nl,.nl,.nl,.I 0,.I 0,.I 0,.nl,.nl,.nl,.nl,.nl]) 11),(1,vR (a8.Pv s2) 11)]) W λs2 x3 h hx3=>l4<|S3 3 J<|cA h N3 J J λv4 _ h=>S2 1 J<|l5<|S4 2 J ?_;refine cN h (λhc h=>?_) λhc h=>?_
 .refine S4 2 J ?_;refine c5 ?_;have h:=xL hx3 h;cases h;exact⟨J,[_],⟨oL J J J A0 w7 nl J,tr⟩,J,io⟩
 .refine c8 ?_;refine S3 3 J<|iL h J J B7 u9 λv5 _ h=>S2 3 J<|S3 1 J<|cA h lH J J λv6 _ h=>yN ?_;refine cN h (λhc h=>?_) λhc h=>?_
  .refine S5 3 J ?_;refine cF h lI J J λv7 _ h=>S2 1 J ?_;exact eL h W
  .refine S5 3 J ?_;refine y0 J (I3 (f:=iF) (l:=[v5.Serial]) J m7 o7 C0 J J nl J J)<|cF h nK J J λv8 _ h=>S2 1 J ?_;exact eL h W
theorem eV{a0}:PO Tryz.prog 24 [a8.Pv a0] (ai a0) λr=>.L iF r:=by
 refine pO Tryz.func24 λr h _ _=>?_;refine S4 2 J<|S3 2 J<|cF h M0 J J λv1 _ h=>cF h cm J J λv2 _ h=>S2 1 J<|c5 ?_;cases h;exact f1
theorem rA{a0}:PO Tryz.prog 51 [a8.Pv a0] (dq a0) λr=>.tup [a8.Pv r.1,g9.Pv r.2]:=by
 refine pO Tryz.func51 λr h _ _=>?_;refine S4 3 J<|S3 1 J<|cF h va J J λv1 _ h=>S2 2 J<|S3 3 J<|y6 h λv2 hv2 h=>Ju J (w8 J X7 J hv2) J<|S2 1 J<|S3 1 J<|cF h aO J J λv3 _ h=>cF h cm J J λv4 _ h=>S2 1 J ?_;refine jq h (λj13=>St.of [(1,.ptr 1 0 0),(2,.ptr 2 0 0),(3,.ptr 3 0 0),(5,.L b8.Pv v2),(6,.L iF v4)] [(3,vR (.agg [.I 0,.I 0]) 2),(2,vR (.agg [.nl,.nl,.nl,.I 0,.I 0,.I 0,.nl,.nl,.nl,.nl,.nl]) 11),(1,vR (a8.Pv j13) 11)]) (λj13 h=>?_) λκ12 h=>?_
 .refine l5 ?_;refine S3 1 J<|nL J m7<|S2 1 J ?_;refine cN h (λhc h=>?_) λhc h=>?_
  .refine S3 2 J ?_;refine nL J m7<|y0 J (.neg _ _ _ _ J)<|y0 J (p7 (cs:=[.I (w9 (0-(v4.length:Int))),.I 0]) J Y3 Q6 J J J)<|S2 2 J<|c5 ?_;cases h;exact⟨J,[_,_],⟨oL J J J A0 w7 nl J,⟨oL J J J G7 A9 nl J,tr⟩⟩,J,io⟩
  .refine c8 ?_;refine dr [] u4 (by kernel_rfl) (by kernel_rfl)<|S7 2 J<|y6 h λv14 hv11 h=>eE J (w8 J cm J hv11) J<|y6 h λv15 hv12 h=>eE J (w8 J nK J hv12) J<|y6 h λv16 hv13 h=>eE J (w8 J M9 J hv13) J<|S7 1 J<|D1 (x':=a8.Pv v16) (cl':=true) J J (.inr J) w7<|K2<|dr [3,6] u4 (by kernel_rfl) (by kernel_rfl)<|S7 2 J<|y6 h λv17 hv14 h=>eE J (w8 J eV J hv14) J<|d7 J (λ_ hN=>cG (f:=iF) J m7) J<|S7 1 J<|y6 h λv18 hv15 h=>eE J (w8 J eV J hv15) J<|d7 J (λ_ hN=>cG (f:=iF) J m7) J<|S7 1 J<|d7 J (λ_ hN=>p7 (cs:=[.I (w9 ((v17.length:Int)-(v18.length:Int))),.I 0]) J Y3 Q6 J J J) J<|D1 (x':=a8.Pv v16) (cl':=true) J J (.inr J) w7<|D1 (x':=.agg [.I (w9 ((v17.length:Int)-(v18.length:Int))),.I 0]) (cl':=true) J J (.inl J) A9<|K2<|c5 ?_;cases h;exact⟨J,[_,_],⟨oL J J J A0 w7 nl J,⟨oL J J J G7 A9 nl J,tr⟩⟩,J,io⟩
 .refine S3 1 J ?_;refine nL J m7<|S2 1 J<|l4<|lq h (λq=>St.of [(1,.ptr 1 0 0),(2,.ptr 2 0 0),(3,.ptr 3 0 0),(5,.L b8.Pv v2),(6,.L iF v4),(19,.L iF v4),(20,.I (v4.length:Int)),(21,.I q.1)] [(3,vR (.agg [.I 0,.I 0]) 2),(2,vR (.agg [.nl,.nl,.nl,.I 0,.I 0,.I 0,.nl,.nl,.nl,.nl,.nl]) 11),(1,vR (a8.Pv q.2) 11)]) W λq23 x22 h hx18=>?_;obtain⟨s20,s21⟩:=q23;refine S4 1 J<|l5 ?_;refine cN h (λhc h=>?_) λhc h=>?_
  .refine c8 ?_;refine l5<|l4<|sR<|iL h J J m7 o7 λv24 _ h=>S2 2 J<|S5 2 J<|cF h lI J J λv25 _ h=>S2 1 J<|S6 2 J ?_;exact eL h W
  .refine p6 ?_;refine g8<|g8<|m8 ?_;have h:=xL hx18 h;exact eJ h W
theorem kQ{a0 a1}:PO Tryz.prog 168 [.L (Ls j5.Pv) a0,.I a1] (dy a0 a1) λr=>.L j5.Pv r:=by
 refine pO Tryz.func168 λr h _ _=>?_;refine S4 1 J<|l5<|S3 3 J<|n0 J (λhg=>mI J)<|n0 J (λhg=>om (d:=.L (Ls j5.Pv) a0) J)<|n0 J (λhg=>cG (f:=(Ls j5.Pv)) (ct hg) mA)<|n0 J (λhg=>D2 (ct hg) (ct hg) J)<|y0 J (O8 J J J (λq=>oG q))<|yN ?_;refine cN h (λhc h=>?_) λhc h=>?_
 .refine S4 1 J ?_;refine c5 ?_;cases h;exact f1
 .refine c8 ?_;refine S3 2 J<|iL h J J mA wL λv1 _ h=>S2 2 J<|c5 ?_;cases h;exact f1
theorem qH{a0 a1}:PO Tryz.prog 88 [.L (Ls j5.Pv) a0,g7.Pv a1] (bF a0 a1) λr=>.I r:=by
 refine pO Tryz.func88 λr h _ _=>?_;refine S4 2 J<|S3 3 J<|cF h kQ J J λv1 _ h=>nL J gu<|S2 2 J<|c5 ?_;cases h;exact f1
theorem iy{a0 a1 a2}:PO Tryz.prog 169 [a8.Pv a0,.I a1,.I a2] (V1 a0 a1 a2) λr=>a8.Pv r:=by
 refine pO Tryz.func169 λr h _ _=>?_;refine S4 2 J<|S3 2 J<|cF h gC J J λv1 _ h=>S2 1 J<|S3 2 J<|y6 h λv2 hv2 h=>Jv J (gW J I7 J hv2) J J<|S2 2 J<|S3 4 J<|y6 h λv3 hv3 h=>y0 J (aQ (f:=iF) hv3 J J J J m7 o7 J)<|nV (f:=iF) (v:=a2) hv3 J J (.inl J) o7<|yN<|S4 2 J<|c5 ?_;cases h;exact⟨J,[_],⟨oL J J J A0 w7 nl J,tr⟩,J,io⟩
theorem R1{a0}:PO Tryz.prog 328 [k8.Pv a0] (L5 a0) λr=>.I r:=by
 refine pO Tryz.func328 λr h _ _=>?_;unfold L5 at h;refine S4 2 J<|S3 2 J<|nL J I9<|S2 1 J<|c5 ?_;cases h;exact f1
theorem Z5{a0 a1 a2}:PO Tryz.prog 329 [.L g7.Pv a0,.I a1,.I a2] (G8 a0 a1 a2) λr=>.lst true (List.map g7.Pv r):=by
 refine pO Tryz.func329 λr h _ _=>?_;unfold G8 at h;refine S4 1 J<|S3 4 J<|y6 h λv1 hv1 h=>y0 J (Nh (f:=g7.Pv) hv1 J ⟨_,J⟩ ⟨_,J⟩ ⟨_,J⟩ J J I9 C8 (λ_=>J))<|S2 1 J<|c5 ?_;cases h;exact f1
theorem kW{a0 a1}:PO Tryz.prog 316 [k8.Pv a0,.I a1] (bo a0 a1) λr=>.tup [k8.Pv r.1,.L g7.Pv r.2]:=by
 refine pO Tryz.func316 λr h _ _=>?_;refine S4 3 J<|S3 2 J<|cA h R1 J J λv1 hv1 h=>y0 J (Su J J J)<|y0 J (Ni J J J)<|S2 1 J<|S3 3 J<|cF h Z5 J J λv2 _ h=>S2 1 J<|dr [] u4 (by kernel_rfl) (by kernel_rfl)<|S7 4 J<|d2 J (R8 J R1 J hv1) J<|y6 h λv3 hv3 h=>eE J (w8 J Z5 J hv3) J<|S7 1 J<|D1 (x':=.agg [.L g7.Pv v3,.I a0.Cap]) (cl':=true) J J (.inr J) uC<|K2<|S4 4 J<|c5 ?_;cases h;exact⟨J,[_,_],⟨oL J J J jl cI nl J,⟨J,tr⟩⟩,J,io⟩
theorem nh{a0}:PO Tryz.prog 270 [k8.Pv a0] (cP a0) λr=>.tup [k8.Pv r.1,g7.Pv r.2.1,.I r.2.2]:=by
 refine pO Tryz.func270 λr h _ _=>?_;refine S4 4 J<|S3 1 J<|cF h kW J J λv1 _ h=>S2 6 J<|l5<|S3 1 J<|nL J I9<|S2 1 J ?_;refine cN h (λhc h=>?_) λhc h=>?_
 .refine S4 1 J ?_;refine dr [1,1007] u4 (by kernel_rfl) (by kernel_rfl)<|S7 1 J<|d7 J (λ_ hN=>mZ (cs:=[.I 0,.I 0,.I 0]) hN J J J J bU C8 nl J) J<|D1 (x':=k8.Pv a0) (cl':=true) J J (.inr J) cI<|D1 (x':=.agg [.I 0,.I 0,.I 0]) (cl':=true) J J (.inl J) C8<|S8 1 J<|c5 ?_;cases h;exact⟨J,[_,_,_],⟨oL J J J jl cI nl J,⟨oL J J J bU C8 nl J,⟨J,tr⟩⟩⟩,J,io⟩
 .refine c8 ?_;refine dr [2,3] u4 (by kernel_rfl) (by kernel_rfl)<|S7 2 J<|y6 h λv2 hv2 h=>d7 J (λ_ hN=>P4 (f:=g7.Pv) (cs:=g7.Pc v2) hv2 J J I9 C8 J J) J<|d7 J (λ_ hN=>EM J bU C8 nl J) J<|D1 (x':=k8.Pv v1.1) (cl':=true) J J (.inr J) cI<|D1 (x':=g7.Pv v2) (cl':=true) J J (.inl J) C8<|S8 1 J<|c5 ?_;cases h;exact⟨J,[_,_,_],⟨oL J J J jl cI nl J,⟨oL J J J bU C8 nl J,⟨J,tr⟩⟩⟩,J,io⟩
theorem iY{a0}:PO Tryz.prog 170 [k8.Pv a0] (ba a0) λr=>.tup [k8.Pv r.1,g7.Pv r.2.1,.I r.2.2]:=by
 refine pO Tryz.func170 λr h _ _=>?_;refine S4 4 J<|S3 1 J<|cF h nh J J λv1 _ h=>S2 6 J<|c5 ?_;cases h;exact⟨J,[_,_,_],⟨oL J J J jl cI nl J,⟨oL J J J bU C8 nl J,⟨J,tr⟩⟩⟩,J,io⟩
theorem db{a0 a1}:PO Tryz.prog 91 [a8.Pv a0,.I a1] (T2 a0 a1) λr=>.I r:=by
 refine pO Tryz.func91 λr h _ _=>?_;refine S4 2 J<|l5<|S4 2 J ?_;refine cN h (λhc h=>?_) λhc h=>?_
 .refine S4 1 J ?_;refine c5 ?_;cases h;exact f1
 .refine c8 ?_;refine S3 3 J<|iL h J J m7 o7 λv1 _ h=>S2 2 J<|c5 ?_;cases h;exact f1
theorem dt{a0 a1}:PO Tryz.prog 172 [a8.Pv a0,.I a1] (O0 a0 a1) λr=>.tup [b8.Pv r.1,.I r.2]:=by
 refine pO Tryz.func172 λr h _ _=>?_;refine S4 3 J<|l5<|S3 2 J<|cA h db J J λv1 hv1 h=>S2 1 J ?_;refine cN h (λhc h=>?_) λhc h=>?_
 .refine sR ?_;refine y0 J (p7 (cs:=[.I 0,.I 0,.I 0,.bool false,.bool false,.bool false,.nl]) J HE al J J J)<|kK (x':=.agg [.I 0,.I 0,.I 0,.bool false,.bool false,.bool false,.nl]) (cl':=true) J J (.inl J) u9<|S2 1 J<|c5 ?_;cases h;exact⟨J,[_,_],⟨oL J J J gr u9 nl J,⟨J,tr⟩⟩,J,io⟩
 .refine c8 ?_;refine dr [] u4 (by kernel_rfl) (by kernel_rfl)<|S7 5 J<|d2 J (R8 J db J hv1) J<|y6 h λv2 hv2 h=>d2 J (R8 J R4 J hv2) J<|y6 h λv3 hv3 h=>d0 J (P4 (f:=b8.Pv) (cs:=b8.Pc v3) hv3 J J B7 u9 J J) J<|S7 1 J<|D1 (x':=b8.Pv v3) (cl':=true) J J (.inr J) u9<|S8 1 J<|c5 ?_;cases h;exact⟨J,[_,_],⟨oL J J J gr u9 nl J,⟨J,tr⟩⟩,J,io⟩
theorem Ai{a0 a1}:PO Tryz.prog 271 [.L iF a0,.I a1] (gH a0 a1) λr=>.bool r:=by
 refine pO Tryz.func271 λr h _ _=>?_;unfold gH at h;refine S4 1 J<|S3 3 J<|n0 J (λhg=>mI J)<|n0 J (λhg=>om (d:=.L iF a0) J)<|n0 J (λhg=>cG (f:=iF) (ct hg) m7)<|n0 J (λhg=>D2 (ct hg) (ct hg) J)<|y0 J (D5 J J J (λq=>kl q))<|S2 1 J<|c5 ?_;cases h;exact f1
theorem vT{a0 a1 a2}:PO Tryz.prog 173 [.L iF a0,.I a1,.I a2] (mf a0 a1 a2) λr=>.tup [.L iF r.1,.I r.2]:=by
 refine pO Tryz.func173 λr h _ _=>?_;refine S4 2 J<|l5<|S3 2 J<|cA h Ai J J λv1 _ h=>S2 1 J ?_;refine cN h (λhc h=>?_) λhc h=>?_
 .refine S4 3 J ?_;refine c5 ?_;cases h;exact f2
 .refine c8 ?_;refine S3 1 J<|nL J m7<|y6 h λv2 hv2 h=>y1 J (AJ (f:=iF) hv2 J J J m7 o7 C0 Q1 J J J) J<|S2 1 J<|S3 2 J<|y6 h λv3 hv3 h=>Xa (f:=iF) hv3 J J J (.inl ⟨_,J,J⟩) m7 o7 (λ_=>J) (by decide)<|yN<|S3 3 J<|y6 h λv4 hv4 h=>y0 J (aQ (f:=iF) hv4 J J J J m7 o7 J)<|nV (f:=iF) (v:=a2) hv4 J J (.inl J) o7<|yN<|S4 3 J<|c5 ?_;cases h;exact f2
theorem tK{a0 a1}:PO Tryz.prog 174 [b8.Pv a0,.rptr [.L iF a1]] (fg a0 a1) λr=>b8.Pv r:=by
 refine pO Tryz.func174 λr h _ _=>?_;unfold fg at h;refine S4 2 J<|S4 3 J<|S4 2 J<|c5 ?_;cases h;exact⟨J,[_],⟨oL J J J gr u9 nl J,tr⟩,J,io⟩
theorem fa{a0 a1 a2}:PO Tryz.prog 154 [a8.Pv a0,.I a1,.fn (.func 174) [.rptr [.L iF a2]]] (O5 a0 a1 a2) λr=>a8.Pv r:=by
 refine pO Tryz.func154 λr h _ _=>?_;refine S4 2 J<|S3 2 J<|cA h R4 J J λv1 _ h=>S2 1 J<|S3 2 J<|y6 h λv2 hv2 h=>Jv J (gW J B1 J hv2) J J<|S2 2 J<|dr [] u4 (by kernel_rfl) (by kernel_rfl)<|S7 7 J<|y6 h λv3 hv3 h=>d0 J (aQ (f:=b8.Pv) hv3 J J J J B7 u9 J) J<|d0 J (IH (f:=b8.Pv) (cs:=b8.Pc v3) hv3 J J J gr u9 nl J) J<|y6 h λv4 hv4 h=>eE J (w8 J tK J hv4) J<|d0 J (aQ (f:=b8.Pv) hv3 J J J J B7 u9 J) J<|HY (f:=b8.Pv) (v:=v4) hv3 J J (.inr J) u9<|K2<|S4 2 J<|c5 ?_;cases h;exact⟨J,[_],⟨oL J J J A0 w7 nl J,tr⟩,J,io⟩
theorem wz{a0 a1 a2}:PO Tryz.prog 92 [a8.Pv a0,.I a1,j5.Pv a2] (iR a0 a1 a2) λr=>.tup [a8.Pv r.1,.I r.2]:=by
 refine pO Tryz.func92 λr h _ _=>?_;refine S4 4 J<|S3 3 J<|cF h dt J J λv1 _ h=>S2 6 J<|l5<|S4 2 J ?_;refine cN h (λhc h=>?_) λhc h=>?_
 .refine S4 4 J ?_;refine c5 ?_;cases h;exact⟨J,[_,_],⟨oL J J J A0 w7 nl J,⟨J,tr⟩⟩,J,io⟩
 .refine c8 ?_;refine S3 5 J<|cF h vT J J λv2 _ h=>S2 6 J<|l5<|S4 2 J ?_;refine cN h (λhc h=>?_) λhc h=>?_
  .refine S4 4 J ?_;refine c5 ?_;cases h;exact⟨J,[_,_],⟨oL J J J A0 w7 nl J,⟨J,tr⟩⟩,J,io⟩
  .refine c8 ?_;refine S3 2 J<|cF h gC J J λv3 _ h=>S2 1 J<|S3 4 J<|y6 h λv4 hv4 h=>Ju J (w8 J fa J hv4) J<|S2 2 J<|c5 ?_;cases h;exact⟨J,[_,_],⟨oL J J J A0 w7 nl J,⟨J,tr⟩⟩,J,io⟩
theorem fY{a0 a1 a2}:PO Tryz.prog 90 [a8.Pv a0,.I a1,j5.Pv a2,.fn (.func 92) []] (J7 a0 a1 a2) λr=>.tup [a8.Pv r.1,g9.Pv r.2]:=by
 refine pO Tryz.func90 λr h _ _=>?_;refine S4 4 J<|S3 4 J<|cF h wz J J λv1 _ h=>S2 6 J<|l5<|S4 2 J ?_;refine cN h (λhc h=>?_) λhc h=>?_
 .refine S3 2 J ?_;refine y0 J (p7 (cs:=[.I 0,.I v1.2]) J Y3 Q6 J J J)<|S2 2 J<|c5 ?_;cases h;exact⟨J,[_,_],⟨oL J J J A0 w7 nl J,⟨oL J J J G7 A9 nl J,tr⟩⟩,J,io⟩
 .refine c8 ?_;refine S3 1 J<|cF h M9 J J λv2 _ h=>S1 1 J<|y0 J (p7 (cs:=[.I a1,.I 0]) J Y3 Q6 J J J)<|S2 2 J<|c5 ?_;cases h;exact⟨J,[_,_],⟨oL J J J A0 w7 nl J,⟨oL J J J G7 A9 nl J,tr⟩⟩,J,io⟩
end Go.Proofs.YtmgbbnfgfmfgaaaGreat.Ok
