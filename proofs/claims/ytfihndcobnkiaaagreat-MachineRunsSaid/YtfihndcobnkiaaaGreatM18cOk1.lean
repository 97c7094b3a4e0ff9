/-
 The functions of the program do as the plain functions do.
-/
import Derived.Test.YtfihndcobnkiaaaGreatM18cPwC
import Derived.Test.YtfihndcobnkiaaaGreatM18cPwD
import Derived.Test.YtfihndcobnkiaaaGreatSrt
import Derived.Test.YtfihndcobnkiaaaGreatM18cSh
import Derived.Test.YtfihndcobnkiaaaGreatProg
set_option linter.unusedVariables false
set_option linter.unusedSimpArgs false
set_option linter.unusedSectionVars false
namespace Go.Proofs.YtfihndcobnkiaaaGreat.Ok
open Go Go.Pw Go.Sh Go.Proofs
set_option maxRecDepth 100000
set_option maxHeartbeats 4000000
abbrev _root_.Go.Sh.code_Op.Pc(x:code_Op):List PV:=[.I x.Kind,.I x.A,.I x.B,.I x.C]
abbrev _root_.Go.Sh.code_Op.Pv(x:code_Op):PV:=.agg x.Pc
abbrev _root_.Go.Sh.l4.Pc(x:l4):List PV:=[.I x.Serial,.I x.Strong,.I x.Weak,.I x.Prog,.bool x.Started,.L iF x.Fields]
abbrev _root_.Go.Sh.l4.Pv(x:l4):PV:=.agg x.Pc
abbrev _root_.Go.Sh.b8.Pc(x:b8):List PV:=[.I x.State,.I x.Gen,.I x.Val.Serial,.I x.Val.Strong,.I x.Val.Weak,.I x.Val.Prog,.bool x.Val.Started,.L iF x.Val.Fields]
abbrev _root_.Go.Sh.b8.Pv(x:b8):PV:=.agg x.Pc
abbrev _root_.Go.Sh.c9.Pc(x:c9):List PV:=[.I x.Target,.bool x.Intact,.I x.Call]
abbrev _root_.Go.Sh.c9.Pv(x:c9):PV:=.agg x.Pc
abbrev _root_.Go.Sh.c5.Pc(x:c5):List PV:=[.I x.State,.I x.Key,.I x.Val]
abbrev _root_.Go.Sh.c5.Pv(x:c5):PV:=.agg x.Pc
abbrev _root_.Go.Sh.j2.Pc(x:j2):List PV:=[.I x.Kind,.I x.At,.I x.Prog]
abbrev _root_.Go.Sh.j2.Pv(x:j2):PV:=.agg x.Pc
abbrev _root_.Go.Sh.g6.Pc(x:g6):List PV:=[.L b8.Pv x.a7,.I x.Last]
abbrev _root_.Go.Sh.g6.Pv(x:g6):PV:=.agg x.Pc
abbrev _root_.Go.Sh.a8.Pc(x:a8):List PV:=[.L b8.Pv x.S.a7,.I x.S.Last,.I x.Serial]
abbrev _root_.Go.Sh.a8.Pv(x:a8):PV:=.agg x.Pc
abbrev _root_.Go.Sh.g9.Pc(x:g9):List PV:=[.L j2.Pv x.L,.I x.Cap]
abbrev _root_.Go.Sh.g9.Pv(x:g9):PV:=.agg x.Pc
abbrev _root_.Go.Sh.b9.Pc(x:b9):List PV:=[.L b8.Pv x.S.S.a7,.I x.S.S.Last,.I x.S.Serial,.L iF x.Roots,.L c9.Pv x.a7,.L c5.Pv x.T,.L j2.Pv x.Q.L,.I x.Q.Cap]
abbrev _root_.Go.Sh.b9.Pv(x:b9):PV:=.agg x.Pc
abbrev _root_.Go.Sh.j1.Pc(x:j1):List PV:=[fvE x.part,.I x.least,.I x.most,.I x.e]
abbrev _root_.Go.Sh.j1.Pv(x:j1):PV:=.agg x.Pc
abbrev _root_.Go.Sh.o8.Pc(x:o8):List PV:=[.L b8.Pv x.x.S.S.a7,.I x.x.S.S.Last,.I x.x.S.Serial,.L iF x.x.Roots,.L c9.Pv x.x.a7,.L c5.Pv x.x.T,.L j2.Pv x.x.Q.L,.I x.x.Q.Cap,.I x.o.Kind,.I x.o.A,.I x.o.B,.I x.o.C]
abbrev _root_.Go.Sh.o8.Pv(x:o8):PV:=.agg x.Pc
abbrev _root_.Go.Sh.F8.Pc(x:F8):List PV:=[.I x.r,.I x.h]
abbrev _root_.Go.Sh.F8.Pv(x:F8):PV:=.agg x.Pc
abbrev _root_.Go.Sh.E5.Pc(x:E5):List PV:=[.I x.h,.I x.k,.I x.v]
abbrev _root_.Go.Sh.E5.Pv(x:E5):PV:=.agg x.Pc
abbrev _root_.Go.Sh.F7.Pc(x:F7):List PV:=[.L c5.Pv x.t]
abbrev _root_.Go.Sh.F7.Pv(x:F7):PV:=.agg x.Pc
abbrev _root_.Go.Sh.A8.Pc(x:A8):List PV:=[fvE x.kept]
abbrev _root_.Go.Sh.A8.Pv(x:A8):PV:=.agg x.Pc
abbrev _root_.Go.Sh.l7.Pc(x:l7):List PV:=[.I x.Key,.I x.Val]
abbrev _root_.Go.Sh.l7.Pv(x:l7):PV:=.agg x.Pc
abbrev _root_.Go.Sh.A0.Pc(x:A0):List PV:=[.I x.Serial,.I x.Strong,.I x.Weak,.I x.Prog,.bool x.Started,.L iF x.Fields]
abbrev _root_.Go.Sh.A0.Pv(x:A0):PV:=.agg x.Pc
abbrev _root_.Go.Sh.l6.Pc(x:l6):List PV:=[.I x.State,.I x.Gen,.I x.Val.Serial,.I x.Val.Strong,.I x.Val.Weak,.I x.Val.Prog,.bool x.Val.Started,.L iF x.Val.Fields]
abbrev _root_.Go.Sh.l6.Pv(x:l6):PV:=.agg x.Pc
abbrev _root_.Go.Sh.k8.Pc(x:k8):List PV:=[.I x.Target,.bool x.Intact,.I x.Call]
abbrev _root_.Go.Sh.k8.Pv(x:k8):PV:=.agg x.Pc
abbrev _root_.Go.Sh.j4.Pc(x:j4):List PV:=[.I x.State,.I x.Key,.I x.Val]
abbrev _root_.Go.Sh.j4.Pv(x:j4):PV:=.agg x.Pc
abbrev _root_.Go.Sh.p6.Pc(x:p6):List PV:=[.I x.Kind,.I x.At,.I x.Prog]
abbrev _root_.Go.Sh.p6.Pv(x:p6):PV:=.agg x.Pc
abbrev _root_.Go.Sh.r7.Pc(x:r7):List PV:=[.I x.State,.I x.Gen,.I x.Val]
abbrev _root_.Go.Sh.r7.Pv(x:r7):PV:=.agg x.Pc
abbrev _root_.Go.Sh.s6.Pc(x:s6):List PV:=[.L r7.Pv x.a7,.I x.Last]
abbrev _root_.Go.Sh.s6.Pv(x:s6):PV:=.agg x.Pc
abbrev _root_.Go.Sh.k9.Pc(x:k9):List PV:=[.L l6.Pv x.a7,.I x.Last,.I x.Serial]
abbrev _root_.Go.Sh.k9.Pv(x:k9):PV:=.agg x.Pc
abbrev _root_.Go.Sh.r9.Pc(x:r9):List PV:=[.L p6.Pv x.L,.I x.Cap]
abbrev _root_.Go.Sh.r9.Pv(x:r9):PV:=.agg x.Pc
abbrev _root_.Go.Sh.g5.Pc(x:g5):List PV:=[.L l6.Pv x.S.a7,.I x.S.Last,.I x.S.Serial,.L iF x.Roots,.L k8.Pv x.a7,.L j4.Pv x.T,.L p6.Pv x.Q.L,.I x.Q.Cap]
abbrev _root_.Go.Sh.g5.Pv(x:g5):PV:=.agg x.Pc
abbrev _root_.Go.Sh.C0.Pc(x:C0):List PV:=[.I x.Kind,.I x.A,.I x.B,.I x.C]
abbrev _root_.Go.Sh.C0.Pv(x:C0):PV:=.agg x.Pc
abbrev _root_.Go.Sh.W2.Pc(x:W2):List PV:=[.I x.Key,.I x.Val]
abbrev _root_.Go.Sh.W2.Pv(x:W2):PV:=.agg x.Pc
namespace Ty
theorem a3:G7 Tryz.prog 3=some false:=by kernel_rfl
theorem a4:G7 Tryz.prog 4=some false:=by kernel_rfl
theorem a22:G7 Tryz.prog 22=some false:=by kernel_rfl
theorem a24:G7 Tryz.prog 24=some true:=by kernel_rfl
theorem a26:G7 Tryz.prog 26=some true:=by kernel_rfl
theorem a27:G7 Tryz.prog 27=some false:=by kernel_rfl
theorem a28:G7 Tryz.prog 28=some false:=by kernel_rfl
theorem a29:G7 Tryz.prog 29=some false:=by kernel_rfl
theorem a30:G7 Tryz.prog 30=some false:=by kernel_rfl
theorem a32:G7 Tryz.prog 32=some true:=by kernel_rfl
theorem X6:G7 Tryz.prog 34=some true:=by kernel_rfl
theorem a39:G7 Tryz.prog 39=some false:=by kernel_rfl
theorem a42:G7 Tryz.prog 42=some false:=by kernel_rfl
theorem a44:G7 Tryz.prog 44=some true:=by kernel_rfl
theorem a45:G7 Tryz.prog 45=some false:=by kernel_rfl
theorem a46:G7 Tryz.prog 46=some false:=by kernel_rfl
theorem a47:G7 Tryz.prog 47=some false:=by kernel_rfl
theorem a49:G7 Tryz.prog 49=some true:=by kernel_rfl
theorem a51:G7 Tryz.prog 51=some true:=by kernel_rfl
theorem a55:G7 Tryz.prog 55=some true:=by kernel_rfl
theorem a78:G7 Tryz.prog 78=some true:=by kernel_rfl
theorem c06:G7 Tryz.prog 116=some true:=by kernel_rfl
theorem c9u:G7 Tryz.prog 138=some false:=by kernel_rfl
theorem b2a:G7 Tryz.prog 140=some true:=by kernel_rfl
theorem b4K:G7 Tryz.prog 156=some true:=by kernel_rfl
theorem c9v:G7 Tryz.prog 181=some true:=by kernel_rfl
theorem c5O:G7 Tryz.prog 184=some true:=by kernel_rfl
theorem c9x:G7 Tryz.prog 359=some true:=by kernel_rfl
theorem b3:H3 Tryz.prog 3=some 8:=by kernel_rfl
theorem b55:H3 Tryz.prog 55=some 32:=by kernel_rfl
theorem b84:H3 Tryz.prog 84=some 24:=by kernel_rfl
theorem c3I:H3 Tryz.prog 134=some 80:=by kernel_rfl
theorem c7V:H3 Tryz.prog 143=some 80:=by kernel_rfl
theorem c3J:H3 Tryz.prog 178=some 24:=by kernel_rfl
theorem c5X:H3 Tryz.prog 180=some 24:=by kernel_rfl
theorem c7W:H3 Tryz.prog 181=some 24:=by kernel_rfl
theorem c5Y:H3 Tryz.prog 183=some 24:=by kernel_rfl
theorem c9A:H3 Tryz.prog 184=some 24:=by kernel_rfl
theorem c5Z:H3 Tryz.prog 202=some 24:=by kernel_rfl
theorem c7X:H3 Tryz.prog 212=some 16:=by kernel_rfl
theorem e22:x8 Tryz.prog 22=some 143:=by kernel_rfl
theorem A5:x8 Tryz.prog 27=some 3:=by kernel_rfl
theorem e28:x8 Tryz.prog 28=some 84:=by kernel_rfl
theorem e29:x8 Tryz.prog 29=some 181:=by kernel_rfl
theorem e30:x8 Tryz.prog 30=some 184:=by kernel_rfl
theorem e42:x8 Tryz.prog 42=some 134:=by kernel_rfl
theorem e45:x8 Tryz.prog 45=some 178:=by kernel_rfl
theorem e46:x8 Tryz.prog 46=some 180:=by kernel_rfl
theorem e47:x8 Tryz.prog 47=some 183:=by kernel_rfl
theorem e61:x8 Tryz.prog 61=some 36:=by kernel_rfl
theorem e68:x8 Tryz.prog 68=some 55:=by kernel_rfl
theorem a43:x8 Tryz.prog 138=some 202:=by kernel_rfl
theorem c59:x8 Tryz.prog 147=some 37:=by kernel_rfl
theorem b0b:x8 Tryz.prog 150=some 156:=by kernel_rfl
theorem b7R:x8 Tryz.prog 213=some 212:=by kernel_rfl
theorem c6a:x8 Tryz.prog 282=some 286:=by kernel_rfl
theorem c74:E4 Tryz.prog 24 0=some (0,22):=by kernel_rfl
theorem c1A:E4 Tryz.prog 24 1=some (1,3):=by kernel_rfl
theorem c1B:E4 Tryz.prog 26 0=some (0,24):=by kernel_rfl
theorem c5f:E4 Tryz.prog 26 1=some (2,3):=by kernel_rfl
theorem c1C:E4 Tryz.prog 32 0=some (0,30):=by kernel_rfl
theorem c75:E4 Tryz.prog 32 1=some (1,3):=by kernel_rfl
theorem c76:E4 Tryz.prog 34 0=some (0,26):=by kernel_rfl
theorem b6u:E4 Tryz.prog 34 1=some (3,27):=by kernel_rfl
theorem b6v:E4 Tryz.prog 34 2=some (4,28):=by kernel_rfl
theorem c5g:E4 Tryz.prog 34 3=some (5,29):=by kernel_rfl
theorem b6w:E4 Tryz.prog 34 4=some (6,32):=by kernel_rfl
theorem b01:E4 Tryz.prog 44 0=some (0,42):=by kernel_rfl
theorem c5h:E4 Tryz.prog 44 2=some (2,3):=by kernel_rfl
theorem c1D:E4 Tryz.prog 49 0=some (0,47):=by kernel_rfl
theorem c5i:E4 Tryz.prog 51 1=some (3,27):=by kernel_rfl
theorem c5j:E4 Tryz.prog 51 2=some (4,45):=by kernel_rfl
theorem c5k:E4 Tryz.prog 51 3=some (5,46):=by kernel_rfl
theorem c1E:E4 Tryz.prog 51 4=some (6,49):=by kernel_rfl
theorem c77:E4 Tryz.prog 55 0=some (0,3):=by kernel_rfl
theorem c78:E4 Tryz.prog 55 2=some (2,3):=by kernel_rfl
theorem c5l:E4 Tryz.prog 78 0=some (0,3):=by kernel_rfl
theorem c5m:E4 Tryz.prog 78 1=some (1,3):=by kernel_rfl
theorem c1F:E4 Tryz.prog 78 2=some (2,3):=by kernel_rfl
theorem c1G:E4 Tryz.prog 78 3=some (3,3):=by kernel_rfl
theorem c1H:E4 Tryz.prog 78 4=some (4,4):=by kernel_rfl
theorem c5n:E4 Tryz.prog 78 5=some (5,27):=by kernel_rfl
theorem c1I:E4 Tryz.prog 84 0=some (0,3):=by kernel_rfl
theorem c5o:E4 Tryz.prog 84 1=some (1,4):=by kernel_rfl
theorem c79:E4 Tryz.prog 84 2=some (2,3):=by kernel_rfl
theorem c1s:E4 Tryz.prog 116 0=some (0,3):=by kernel_rfl
theorem c1t:E4 Tryz.prog 116 1=some (1,3):=by kernel_rfl
theorem b7V:E4 Tryz.prog 116 2=some (2,3):=by kernel_rfl
theorem c6d:E4 Tryz.prog 116 3=some (3,3):=by kernel_rfl
theorem b7W:E4 Tryz.prog 116 4=some (4,4):=by kernel_rfl
theorem b7X:E4 Tryz.prog 116 5=some (5,27):=by kernel_rfl
theorem c1u:E4 Tryz.prog 134 1=some (1,3):=by kernel_rfl
theorem b4W:E4 Tryz.prog 134 2=some (2,78):=by kernel_rfl
theorem c6e:E4 Tryz.prog 140 0=some (0,138):=by kernel_rfl
theorem b2n:E4 Tryz.prog 143 0=some (0,3):=by kernel_rfl
theorem c6f:E4 Tryz.prog 143 1=some (1,3):=by kernel_rfl
theorem b4X:E4 Tryz.prog 143 2=some (2,116):=by kernel_rfl
theorem c6g:E4 Tryz.prog 156 2=some (2,3):=by kernel_rfl
theorem c6h:E4 Tryz.prog 178 0=some (0,3):=by kernel_rfl
theorem c6i:E4 Tryz.prog 178 1=some (1,4):=by kernel_rfl
theorem c6j:E4 Tryz.prog 180 1=some (1,3):=by kernel_rfl
theorem c6k:E4 Tryz.prog 181 0=some (0,3):=by kernel_rfl
theorem c1v:E4 Tryz.prog 181 1=some (1,3):=by kernel_rfl
theorem c6l:E4 Tryz.prog 183 1=some (1,3):=by kernel_rfl
theorem c1w:E4 Tryz.prog 184 1=some (1,3):=by kernel_rfl
theorem c1x:E4 Tryz.prog 184 2=some (2,3):=by kernel_rfl
theorem c1y:E4 Tryz.prog 202 0=some (0,3):=by kernel_rfl
theorem c1z:E4 Tryz.prog 212 1=some (1,3):=by kernel_rfl
theorem k84:A2 Tryz.prog 84:=kC Tryz.func84 J
theorem k85:A2 Tryz.prog 85:=kC Tryz.func85 J
theorem c9X:A2 Tryz.prog 163:=kC Tryz.func163 J
theorem c9Y:A2 Tryz.prog 164:=kC Tryz.func164 J
theorem c9Z:A2 Tryz.prog 174:=kC Tryz.func174 J
theorem c8f:A2 Tryz.prog 199:=kC Tryz.func199 J
theorem c90:A2 Tryz.prog 260:=kC Tryz.func260 J
theorem c91:A2 Tryz.prog 267:=kC Tryz.func267 J
theorem c8g:A2 Tryz.prog 298:=kC Tryz.func298 J
theorem c8h:A2 Tryz.prog 303:=kC Tryz.func303 J
theorem c92:A2 Tryz.prog 306:=kC Tryz.func306 J
theorem c8i:A2 Tryz.prog 316:=kC Tryz.func316 J
theorem c8j:A2 Tryz.prog 323:=kC Tryz.func323 J
theorem c93:A2 Tryz.prog 327:=kC Tryz.func327 J
theorem c94:A2 Tryz.prog 332:=kC Tryz.func332 J
theorem b2E:a8x Tryz.prog 92=some (3,90):=by kernel_rfl
theorem c2h:a8x Tryz.prog 145=some (3,3):=by kernel_rfl
theorem a4x:a8x Tryz.prog 152=some (3,150):=by kernel_rfl
theorem c5A:a8x Tryz.prog 216=some (184,4):=by kernel_rfl
theorem b9v:a8x Tryz.prog 314=some (3,4):=by kernel_rfl
theorem p24:A9 Tryz.prog 24=some (λi=>(#[(0,1),(1,1)]:Array (Nat × Nat))[i]?):=by kernel_rfl
theorem p26:A9 Tryz.prog 26=some (λi=>(#[(0,2),(2,1)]:Array (Nat × Nat))[i]?):=by kernel_rfl
theorem p32:A9 Tryz.prog 32=some (λi=>(#[(0,1),(1,1)]:Array (Nat × Nat))[i]?):=by kernel_rfl
theorem p34:A9 Tryz.prog 34=some (λi=>(#[(0,3),(3,1),(4,1),(5,1),(6,2)]:Array (Nat × Nat))[i]?):=by kernel_rfl
theorem p36:A9 Tryz.prog 36=some (λi=>(#[(0,1),(1,1),(2,1),(3,1)]:Array (Nat × Nat))[i]?):=by kernel_rfl
theorem p44:A9 Tryz.prog 44=some (λi=>(#[(0,1),(1,1),(2,1)]:Array (Nat × Nat))[i]?):=by kernel_rfl
theorem p49:A9 Tryz.prog 49=some (λi=>(#[(0,1),(1,1)]:Array (Nat × Nat))[i]?):=by kernel_rfl
theorem p51:A9 Tryz.prog 51=some (λi=>(#[(0,3),(3,1),(4,1),(5,1),(6,2)]:Array (Nat × Nat))[i]?):=by kernel_rfl
theorem p78:A9 Tryz.prog 78=some (λi=>(#[(0,1),(1,1),(2,1),(3,1),(4,1),(5,1)]:Array (Nat × Nat))[i]?):=by kernel_rfl
theorem p84:A9 Tryz.prog 84=some (λi=>(#[(0,1),(1,1),(2,1)]:Array (Nat × Nat))[i]?):=by kernel_rfl
theorem p96:A9 Tryz.prog 96=some (λi=>(#[(0,8),(8,4)]:Array (Nat × Nat))[i]?):=by kernel_rfl
theorem c97:A9 Tryz.prog 116=some (λi=>(#[(0,1),(1,1),(2,1),(3,1),(4,1),(5,1)]:Array (Nat × Nat))[i]?):=by kernel_rfl
theorem c8z:A9 Tryz.prog 134=some (λi=>(#[(0,1),(1,1),(2,6)]:Array (Nat × Nat))[i]?):=by kernel_rfl
theorem c4w:A9 Tryz.prog 140=some (λi=>(#[(0,1),(1,1)]:Array (Nat × Nat))[i]?):=by kernel_rfl
theorem c4x:A9 Tryz.prog 143=some (λi=>(#[(0,1),(1,1),(2,6)]:Array (Nat × Nat))[i]?):=by kernel_rfl
theorem b2M:A9 Tryz.prog 156=some (λi=>(#[(0,1),(1,1),(2,1),(3,1)]:Array (Nat × Nat))[i]?):=by kernel_rfl
theorem c8A:A9 Tryz.prog 178=some (λi=>(#[(0,1),(1,1),(2,1)]:Array (Nat × Nat))[i]?):=by kernel_rfl
theorem c63:A9 Tryz.prog 180=some (λi=>(#[(0,1),(1,1),(2,1)]:Array (Nat × Nat))[i]?):=by kernel_rfl
theorem c4y:A9 Tryz.prog 181=some (λi=>(#[(0,1),(1,1),(2,1)]:Array (Nat × Nat))[i]?):=by kernel_rfl
theorem c8B:A9 Tryz.prog 183=some (λi=>(#[(0,1),(1,1),(2,1)]:Array (Nat × Nat))[i]?):=by kernel_rfl
theorem c64:A9 Tryz.prog 184=some (λi=>(#[(0,1),(1,1),(2,1)]:Array (Nat × Nat))[i]?):=by kernel_rfl
theorem c2F:A9 Tryz.prog 202=some (λi=>(#[(0,1),(1,1),(2,1)]:Array (Nat × Nat))[i]?):=by kernel_rfl
theorem c8C:A9 Tryz.prog 212=some (λi=>(#[(0,1),(1,1)]:Array (Nat × Nat))[i]?):=by kernel_rfl
theorem c98:A9 Tryz.prog 227=some (λi=>(#[(0,1)]:Array (Nat × Nat))[i]?):=by kernel_rfl
theorem c4z:A9 Tryz.prog 286=some (λi=>(#[(0,1)]:Array (Nat × Nat))[i]?):=by kernel_rfl
theorem c99:A9 Tryz.prog 301=some (λi=>(#[(0,1),(1,1),(2,1)]:Array (Nat × Nat))[i]?):=by kernel_rfl
theorem d0a:A9 Tryz.prog 310=some (λi=>(#[(0,1)]:Array (Nat × Nat))[i]?):=by kernel_rfl
theorem d0b:A9 Tryz.prog 343=some (λi=>(#[(0,1),(1,1)]:Array (Nat × Nat))[i]?):=by kernel_rfl
theorem c8D:A9 Tryz.prog 359=some (λi=>some (i*1,1)):=by kernel_rfl
theorem d0f:Z2 Tryz.prog 178=some [1,0,1]:=by kernel_rfl
theorem d0g:Z2 Tryz.prog 180=some [1,1,1]:=by kernel_rfl
theorem c8H:Z2 Tryz.prog 181=some [1,1,1]:=by kernel_rfl
theorem d0h:Z2 Tryz.prog 183=some [1,1,1]:=by kernel_rfl
theorem c8I:Z2 Tryz.prog 184=some [1,1,1]:=by kernel_rfl
theorem d0i:Z2 Tryz.prog 359=some [1,1,1,1]:=by kernel_rfl
theorem s3:o9 Tryz.prog 3=some 1:=by kernel_rfl
theorem s4:o9 Tryz.prog 4=some 1:=by kernel_rfl
theorem s24:o9 Tryz.prog 24=some 2:=by kernel_rfl
theorem s26:o9 Tryz.prog 26=some 3:=by kernel_rfl
theorem s27:o9 Tryz.prog 27=some 1:=by kernel_rfl
theorem s30:o9 Tryz.prog 30=some 1:=by kernel_rfl
theorem s32:o9 Tryz.prog 32=some 2:=by kernel_rfl
theorem P8:o9 Tryz.prog 34=some 8:=by kernel_rfl
theorem s36:o9 Tryz.prog 36=some 4:=by kernel_rfl
theorem s37:o9 Tryz.prog 37=some 1:=by kernel_rfl
theorem s44:o9 Tryz.prog 44=some 3:=by kernel_rfl
theorem s49:o9 Tryz.prog 49=some 2:=by kernel_rfl
theorem Z6:o9 Tryz.prog 51=some 8:=by kernel_rfl
theorem s55:o9 Tryz.prog 55=some 4:=by kernel_rfl
theorem s78:o9 Tryz.prog 78=some 6:=by kernel_rfl
theorem s84:o9 Tryz.prog 84=some 3:=by kernel_rfl
theorem b7l:o9 Tryz.prog 116=some 6:=by kernel_rfl
theorem a19:o9 Tryz.prog 134=some 8:=by kernel_rfl
theorem d0s:o9 Tryz.prog 138=some 1:=by kernel_rfl
theorem a9M:o9 Tryz.prog 140=some 2:=by kernel_rfl
theorem a4K:o9 Tryz.prog 143=some 8:=by kernel_rfl
theorem a4b:o9 Tryz.prog 156=some 4:=by kernel_rfl
theorem a4c:o9 Tryz.prog 178=some 3:=by kernel_rfl
theorem a8v:o9 Tryz.prog 180=some 3:=by kernel_rfl
theorem a8w:o9 Tryz.prog 181=some 3:=by kernel_rfl
theorem b3k:o9 Tryz.prog 183=some 3:=by kernel_rfl
theorem b32:o9 Tryz.prog 184=some 3:=by kernel_rfl
theorem a6U:o9 Tryz.prog 202=some 3:=by kernel_rfl
theorem c27:o9 Tryz.prog 212=some 2:=by kernel_rfl
theorem c8T:o9 Tryz.prog 286=some 1:=by kernel_rfl
theorem d0t:o9 Tryz.prog 359=some 4:=by kernel_rfl
theorem u3:Tryz.prog.underlying 3=some (.int .i64):=by kernel_rfl
theorem u4:Tryz.prog.underlying 4=some (.bool):=by kernel_rfl
theorem z3:x4 Tryz.prog 3=some ((.I 0)):=by kernel_rfl
theorem z4:x4 Tryz.prog 4=some ((.bool false)):=by kernel_rfl
theorem z24:x4 Tryz.prog 24=some ((.agg #[(.slice none 0 0),(.I 0)])):=by kernel_rfl
theorem z26:x4 Tryz.prog 26=some ((.agg #[(.slice none 0 0),(.I 0),(.I 0)])):=by kernel_rfl
theorem z32:x4 Tryz.prog 32=some ((.agg #[(.slice none 0 0),(.I 0)])):=by kernel_rfl
theorem z34:x4 Tryz.prog 34=some ((.agg #[(.slice none 0 0),(.I 0),(.I 0),(.slice none 0 0),(.slice none 0 0),(.slice none 0 0),(.slice none 0 0),(.I 0)])):=by kernel_rfl
theorem z36:x4 Tryz.prog 36=some ((.agg #[(.I 0),(.I 0),(.I 0),(.I 0)])):=by kernel_rfl
theorem z37:x4 Tryz.prog 37=some (.nilFunc):=by kernel_rfl
theorem z44:x4 Tryz.prog 44=some ((.agg #[(.slice none 0 0),(.I 0),(.I 0)])):=by kernel_rfl
theorem z49:x4 Tryz.prog 49=some ((.agg #[(.slice none 0 0),(.I 0)])):=by kernel_rfl
theorem z51:x4 Tryz.prog 51=some ((.agg #[(.slice none 0 0),(.I 0),(.I 0),(.slice none 0 0),(.slice none 0 0),(.slice none 0 0),(.slice none 0 0),(.I 0)])):=by kernel_rfl
theorem z55:x4 Tryz.prog 55=some ((.agg #[(.I 0),(.I 0),(.I 0),(.I 0)])):=by kernel_rfl
theorem z78:x4 Tryz.prog 78=some ((.agg #[(.I 0),(.I 0),(.I 0),(.I 0),(.bool false),(.slice none 0 0)])):=by kernel_rfl
theorem z84:x4 Tryz.prog 84=some ((.agg #[(.I 0),(.bool false),(.I 0)])):=by kernel_rfl
theorem z90:x4 Tryz.prog 90=some (.nilFunc):=by kernel_rfl
theorem z96:x4 Tryz.prog 96=some ((.agg #[(.slice none 0 0),(.I 0),(.I 0),(.slice none 0 0),(.slice none 0 0),(.slice none 0 0),(.slice none 0 0),(.I 0),(.I 0),(.I 0),(.I 0),(.I 0)])):=by kernel_rfl
theorem d0u:x4 Tryz.prog 116=some ((.agg #[(.I 0),(.I 0),(.I 0),(.I 0),(.bool false),(.slice none 0 0)])):=by kernel_rfl
theorem b7G:x4 Tryz.prog 134=some ((.agg #[(.I 0),(.I 0),(.I 0),(.I 0),(.I 0),(.I 0),(.bool false),(.slice none 0 0)])):=by kernel_rfl
theorem c45:x4 Tryz.prog 140=some ((.agg #[(.slice none 0 0),(.I 0)])):=by kernel_rfl
theorem c0Y:x4 Tryz.prog 143=some ((.agg #[(.I 0),(.I 0),(.I 0),(.I 0),(.I 0),(.I 0),(.bool false),(.slice none 0 0)])):=by kernel_rfl
theorem d0v:x4 Tryz.prog 150=some ((.slice none 0 0)):=by kernel_rfl
theorem a3y:x4 Tryz.prog 156=some ((.agg #[.nilFunc,(.I 0),(.I 0),(.I 0)])):=by kernel_rfl
theorem b6c:x4 Tryz.prog 178=some ((.agg #[(.I 0),(.bool false),(.I 0)])):=by kernel_rfl
theorem b88:x4 Tryz.prog 180=some ((.agg #[(.I 0),(.I 0),(.I 0)])):=by kernel_rfl
theorem c0Z:x4 Tryz.prog 181=some ((.agg #[(.I 0),(.I 0),(.I 0)])):=by kernel_rfl
theorem b89:x4 Tryz.prog 183=some ((.agg #[(.I 0),(.I 0),(.I 0)])):=by kernel_rfl
theorem c3u:x4 Tryz.prog 184=some ((.agg #[(.I 0),(.I 0),(.I 0)])):=by kernel_rfl
theorem b6d:x4 Tryz.prog 202=some ((.agg #[(.I 0),(.I 0),(.I 0)])):=by kernel_rfl
theorem c00:x4 Tryz.prog 212=some ((.agg #[(.I 0),(.I 0)])):=by kernel_rfl
theorem d0w:x4 Tryz.prog 227=some ((.agg #[.nilFunc])):=by kernel_rfl
theorem c3v:x4 Tryz.prog 286=some ((.agg #[.nilFunc])):=by kernel_rfl
theorem d0x:x4 Tryz.prog 301=some ((.agg #[(.I 0),(.I 0),(.I 0)])):=by kernel_rfl
theorem d0y:x4 Tryz.prog 310=some ((.agg #[(.slice none 0 0)])):=by kernel_rfl
theorem d0z:x4 Tryz.prog 343=some ((.agg #[(.I 0),(.I 0)])):=by kernel_rfl
theorem c87:x4 Tryz.prog 359=some ((.agg #[(.I 0),(.I 0),(.I 0),(.I 0)])):=by kernel_rfl
theorem U9:Tryz.prog.follows .mixedOrders=true:=by kernel_rfl
end Ty
def tb:TB:=⟨[((24,0),(0,22)),((24,1),(1,3)),((26,0),(0,24)),((26,1),(2,3)),((32,0),(0,30)),((32,1),(1,3)),((34,0),(0,26)),((34,1),(3,27)),((34,2),(4,28)),((34,3),(5,29)),((34,4),(6,32)),((36,0),(0,3)),((36,1),(1,3)),((36,2),(2,3)),((36,3),(3,3)),((44,0),(0,42)),((44,1),(1,3)),((44,2),(2,3)),((49,0),(0,47)),((49,1),(1,3)),((51,0),(0,44)),((51,1),(3,27)),((51,2),(4,45)),((51,3),(5,46)),((51,4),(6,49)),((55,0),(0,3)),((55,1),(1,3)),((55,2),(2,3)),((55,3),(3,3)),((78,0),(0,3)),((78,1),(1,3)),((78,2),(2,3)),((78,3),(3,3)),((78,4),(4,4)),((78,5),(5,27)),((84,0),(0,3)),((84,1),(1,4)),((84,2),(2,3)),((96,0),(0,34)),((96,1),(8,36)),((116,0),(0,3)),((116,1),(1,3)),((116,2),(2,3)),((116,3),(3,3)),((116,4),(4,4)),((116,5),(5,27)),((134,0),(0,3)),((134,1),(1,3)),((134,2),(2,78)),((140,0),(0,138)),((140,1),(1,3)),((143,0),(0,3)),((143,1),(1,3)),((143,2),(2,116)),((156,0),(0,154)),((156,1),(1,3)),((156,3),(3,39)),((178,0),(0,3)),((178,1),(1,4)),((178,2),(2,3)),((180,0),(0,3)),((180,2),(2,3)),((181,0),(0,3)),((181,1),(1,3)),((181,2),(2,3)),((183,0),(0,3)),((184,0),(0,3)),((184,1),(1,3)),((202,0),(0,3)),((202,1),(1,3)),((202,2),(2,3)),((212,0),(0,3)),((227,0),(0,225)),((286,0),(0,284)),((301,0),(0,3)),((301,1),(1,3)),((301,2),(2,3)),((310,0),(0,29)),((343,0),(0,3)),((343,1),(1,3))],[(3,false),(4,false),(22,false),(24,true),(26,true),(27,false),(28,false),(29,false),(30,false),(32,true),(34,true),(36,true),(37,false),(39,false),(42,false),(44,true),(45,false),(46,false),(47,false),(49,true),(51,true),(55,true),(78,true),(84,true),(96,true),(116,true),(138,false),(140,true),(143,true),(145,false),(154,false),(156,true),(178,true),(180,true),(181,true),(183,true),(184,true),(202,true),(212,true),(213,false),(215,false),(216,false),(225,false),(227,true),(284,false),(286,true)],[(3,1),(4,1),(22,1),(24,2),(26,3),(27,1),(28,1),(29,1),(32,2),(34,8),(36,4),(39,1),(44,3),(45,1),(46,1),(49,2),(51,8),(55,4),(78,6),(84,3),(96,12),(116,6),(140,2),(143,8),(145,1),(156,4),(178,3),(180,3),(181,3),(183,3),(184,3),(202,3),(212,2),(213,1),(216,1),(227,1),(286,1),(359,4)],[(3,.I 0),(4,.bool false),(24,.agg [.lst true (List.map b8.Pv []),.I 0]),(26,.agg [.lst true (List.map b8.Pv []),.I 0,.I 0]),(27,.lst true (List.map iF [])),(29,.lst true (List.map c5.Pv [])),(32,.agg [.lst true (List.map j2.Pv []),.I 0]),(34,.agg [.lst true (List.map b8.Pv []),.I 0,.I 0,.lst true (List.map iF []),.lst true (List.map c9.Pv []),.lst true (List.map c5.Pv []),.lst true (List.map j2.Pv []),.I 0]),(36,.agg [.I 0,.I 0,.I 0,.I 0]),(39,.I 0),(44,.agg [.lst true (List.map l6.Pv []),.I 0,.I 0]),(49,.agg [.lst true (List.map p6.Pv []),.I 0]),(51,.agg [.lst true (List.map l6.Pv []),.I 0,.I 0,.lst true (List.map iF []),.lst true (List.map k8.Pv []),.lst true (List.map j4.Pv []),.lst true (List.map p6.Pv []),.I 0]),(55,.agg [.I 0,.I 0,.I 0,.I 0]),(78,.agg [.I 0,.I 0,.I 0,.I 0,.bool false,.lst true (List.map iF [])]),(84,.agg [.I 0,.bool false,.I 0]),(116,.agg [.I 0,.I 0,.I 0,.I 0,.bool false,.lst true (List.map iF [])]),(140,.agg [.lst true (List.map r7.Pv []),.I 0]),(143,.agg [.I 0,.I 0,.I 0,.I 0,.I 0,.I 0,.bool false,.lst true (List.map iF [])]),(145,.abs b7M),(156,.agg [.nilfn,.I 0,.I 0,.I 0]),(178,.agg [.I 0,.bool false,.I 0]),(181,.agg [.I 0,.I 0,.I 0]),(184,.agg [.I 0,.I 0,.I 0]),(202,.agg [.I 0,.I 0,.I 0]),(212,.agg [.I 0,.I 0]),(213,.lst true (List.map l7.Pv [])),(216,.abs b7M),(227,.agg [.nilfn]),(286,.agg [.nilfn]),(359,.agg [.I 0,.I 0,.I 0,.I 0])]⟩
theorem Tb:TB.Ok Tryz.prog tb:=⟨by kernel_rfl,by kernel_rfl,by kernel_rfl,by kernel_rfl⟩
section
variable{X:Ctx}{ops:Array Oper}{K:Ctx→St→Prop}{i n:Nat}{l l':List Oper}{env env':Nat→PV}{σ σ':Nat→Option Row}{Q:PX→Ctx→St→Prop}{y:Code}{KD:St→Prop}{bar:List Nat}
theorem S1(n:Nat)(h:run tb n l env σ=some (l',env',σ'))(k:Sq X ops (i+n) l' K ⟨env',σ'⟩)(hb:TB.Ok X.P tb:=by exact Tb):Sq X ops i l K ⟨env,σ⟩:=seg hb n h k
theorem S2(n:Nat)(h:run tb n l env σ=some ([],env',σ'))(k:K X ⟨env',σ'⟩)(hb:TB.Ok X.P tb:=by exact Tb):Sq X ops i l K ⟨env,σ⟩:=seg hb n h (yN k)
theorem S3{id:Nat}(n:Nat)(h:run tb n l env σ=some (l',env',σ'))(k:Sq X l.toArray (0+n) l' (λX' s=>P7 X' y Q s) ⟨env',σ'⟩)(hd:a1W X.N l.toArray=true:=by kernel_rfl)(hb:TB.Ok X.P tb:=by exact Tb):P7 X (.seq (.region id l.toArray false) y) Q ⟨env,σ⟩:=sr hd (seg hb n h k)
theorem S4{id:Nat}(n:Nat)(h:run tb n l env σ=some ([],env',σ'))(k:P7 X y Q ⟨env',σ'⟩)(hd:a1W X.N l.toArray=true:=by kernel_rfl)(hb:TB.Ok X.P tb:=by exact Tb):P7 X (.seq (.region id l.toArray false) y) Q ⟨env,σ⟩:=sr hd (seg hb n h (yN k))
theorem S5{id:Nat}(n:Nat)(h:run tb n l env σ=some (l',env',σ'))(k:Sq X l.toArray (0+n) l' (Q .normal) ⟨env',σ'⟩)(hd:a1W X.N l.toArray=true:=by kernel_rfl)(hb:TB.Ok X.P tb:=by exact Tb):P7 X (.region id l.toArray false) Q ⟨env,σ⟩:=sr1 hd (seg hb n h k)
theorem S6{id:Nat}(n:Nat)(h:run tb n l env σ=some ([],env',σ'))(k:Q .normal X ⟨env',σ'⟩)(hd:a1W X.N l.toArray=true:=by kernel_rfl)(hb:TB.Ok X.P tb:=by exact Tb):P7 X (.region id l.toArray false) Q ⟨env,σ⟩:=sr1 hd (seg hb n h (yN k))
theorem S7(n:Nat)(h:c4J tb bar n i l env σ=some (l',env',σ'))(k:Ex X.P ops bar true (i+n) l' ⟨env',σ'⟩ KD)(hb:TB.Ok X.P tb:=by exact Tb):Ex X.P ops bar true i l ⟨env,σ⟩ KD:=dG hb n h k
theorem S8(n:Nat)(h:c4J tb bar n i l env σ=some ([],env',σ'))(k:KD ⟨env',σ'⟩)(hb:TB.Ok X.P tb:=by exact Tb):Ex X.P ops bar true i l ⟨env,σ⟩ KD:=dG hb n h k
end
theorem c7s:b4J Tryz.prog (Tryz.sortF_ren.f 6):=c0M Tryz.sortF
theorem a57{a0 a1}:PO Tryz.prog 133 [.I a0,.I a1] (R3 a0 a1) λr=>g6.Pv r:=by
 refine pO Tryz.func133 λr h _ _=>?_
 refine S4 1 J<|c7<|S3 3 J<|g7 J (λhg=>mI J)<|g7 J (λhg=>n9 (ct hg) J J)<|y0 J (u9 J J J (λq=>R8 q))<|S1 1 J<|g7 J (λhg=>mI J)<|g7 J (λhg=>n9 (ct hg) J J)<|y0 J (u9 J J J (λq=>R8 q))<|S1 1 J<|g7 J (λhg=>mI J)<|g7 J (λhg=>n9 (ct hg) J J)<|y0 J (u9 J J J (λq=>R8 q))<|yN ?_
 refine cN h (λhc h=>?_) λhc h=>?_
 ·refine sR ?_
  refine y0 J (m9 (cs:=[.nl,.I 0]) J Ty.p24 Ty.z24 J J J)<|a3Y (x':=.agg [.nl,.I 0]) (cl':=true) J J (.inl J) Ty.s24<|yN<|b7 ?_
  cases h
  exact⟨J,[_],⟨oL J J J Ty.a24 Ty.s24 nl J,tr⟩,J,io⟩
 ·refine c4 ?_
  refine S3 1 J<|r8 h λv1 hv1 h=>y1 J (b1x (f:=b8.Pv) hv1 J J J Ty.e22 Ty.a4K Ty.c0Y Ty.c7V J J J) J<|S1 1 J<|y0 J (m9 (cs:=[.sl 21,.I a1]) J Ty.p24 Ty.z24 J J J)<|S2 1 J<|b7 ?_
  cases h
  exact⟨J,[_],⟨oL J J J Ty.a24 Ty.s24 nl J,tr⟩,J,io⟩

theorem b5T{a0 a1}:PO Tryz.prog 60 [.I a0,.I a1] (a2O a0 a1) λr=>a8.Pv r:=by
 refine pO Tryz.func60 λr h _ _=>?_
 refine S4 1 J<|S3 2 J<|cF h a57 J J λv1 _ h=>y0 J (m9 (cs:=[.L b8.Pv v1.a7,.I v1.Last,.I 0]) J Ty.p26 Ty.z26 J J J)<|S2 1 J<|b7 ?_
 cases h
 exact⟨J,[_],⟨oL J J J Ty.a26 Ty.s26 nl J,tr⟩,J,io⟩

theorem b7B{a0}:PO Tryz.prog 61 [.I a0] (b7A a0) λr=>.L c9.Pv r:=by
 refine pO Tryz.func61 λr h _ _=>?_
 refine S4 1 J<|c7<|S3 3 J<|g7 J (λhg=>mI J)<|g7 J (λhg=>n9 (ct hg) J J)<|y0 J (u9 J J J (λq=>R8 q))<|yN ?_
 refine cN h (λhc h=>?_) λhc h=>?_
 ·refine S4 1 J ?_
  refine b7 ?_
  cases h
  exact f1
 ·refine c4 ?_
  refine S3 1 J<|r8 h λv1 hv1 h=>y1 J (b1x (f:=c9.Pv) hv1 J J J Ty.e28 Ty.s84 Ty.z84 Ty.b84 J J J) J<|S2 1 J ?_
  refine jq h (λj9=>St.of [(3,.sl 12)] [(12,⟨List.map c9.Pv j9,0,true,3,true⟩)]) (λj9 h=>?_) λκ8 h=>?_
  ·refine S4 2 J ?_
   refine b7 ?_
   cases h
   exact f1
  ·refine S3 1 J ?_
   refine y0 J (b6S (f:=c9.Pv) J J J Ty.e28)<|S2 1 J<|g8<|lq h (λq=>St.of [(3,.sl 12),(14,.I (v1.length:Int)),(15,.I q.1)] [(12,⟨List.map c9.Pv q.2,0,true,3,true⟩)]) W λq14 x13 h hx9=>?_
   obtain⟨s11,s12⟩:=q14
   refine S4 1 J<|c7 ?_
   refine cN h (λhc h=>?_) λhc h=>?_
   ·refine c4 ?_
    refine c7<|g8<|S4 2 J<|S5 2 J<|r8 h λv15 hv10 h=>y0 J (Z0 (f:=c9.Pv) hv10 J J J J Ty.e28 Ty.s84 J)<|S1 1 J<|a3s (f:=c9.Pv) (v:=(⟨v15.Target,v15.Intact,(-1)⟩:c9)) hv10 J J (.inl J) Ty.s3<|yN<|S6 2 J ?_
    exact eL h W
   ·refine n7 ?_
    refine c8<|c8<|j5 ?_
    have h:=xL hx9 h
    exact eJ h W

theorem b6D{a0}:PO Tryz.prog 62 [.I a0] (a80 a0) λr=>.L c5.Pv r:=by
 refine pO Tryz.func62 λr h _ _=>?_
 refine S4 1 J<|c7<|S3 3 J<|g7 J (λhg=>mI J)<|g7 J (λhg=>n9 (ct hg) J J)<|y0 J (u9 J J J (λq=>R8 q))<|yN ?_
 refine cN h (λhc h=>?_) λhc h=>?_
 ·refine S4 1 J ?_
  refine b7 ?_
  cases h
  exact f1
 ·refine c4 ?_
  refine S3 1 J<|r8 h λv1 hv1 h=>y1 J (b1x (f:=c5.Pv) hv1 J J J Ty.e29 Ty.a8w Ty.c0Z Ty.c7W J J J) J<|S2 1 J<|b7 ?_
  cases h
  exact f1

theorem a5r{a0}:PO Tryz.prog 134 [.I a0] (Z4 a0) λr=>g9.Pv r:=by
 refine pO Tryz.func134 λr h _ _=>?_
 unfold Z4 at h
 refine S4 1 J<|S3 1 J<|y0 J (m9 (cs:=[.nl,.I a0]) J Ty.p32 Ty.z32 J J J)<|a3Y (x':=.agg [.nl,.I a0]) (cl':=true) J J (.inl J) Ty.s32<|yN<|b7 ?_
 cases h
 exact⟨J,[_],⟨oL J J J Ty.a32 Ty.s32 nl J,tr⟩,J,io⟩

theorem b1k:PO Tryz.prog 63 [] (a9R) λr=>g9.Pv r:=by
 refine pO Tryz.func63 λr h _ _=>?_
 refine S4 1 J<|sR<|cF h a5r J J λv1 _ h=>S2 1 J<|b7 ?_
 cases h
 exact⟨J,[_],⟨oL J J J Ty.a32 Ty.s32 nl J,tr⟩,J,io⟩

theorem b07{a0 a1 a2}:PO Tryz.prog 22 [.I a0,.I a1,.I a2] (a1Y a0 a1 a2) λr=>b9.Pv r:=by
 refine pO Tryz.func22 λr h _ _=>?_
 refine S4 1 J<|c7<|S3 3 J<|g7 J (λhg=>mI J)<|g7 J (λhg=>n9 (ct hg) J J)<|y0 J (u9 J J J (λq=>R8 q))<|S1 1 J<|g7 J (λhg=>mI J)<|g7 J (λhg=>n9 (ct hg) J J)<|y0 J (u9 J J J (λq=>R8 q))<|S1 1 J<|g7 J (λhg=>mI J)<|g7 J (λhg=>n9 (ct hg) J J)<|y0 J (u9 J J J (λq=>R8 q))<|S1 1 J<|g7 J (λhg=>mI J)<|g7 J (λhg=>n9 (ct hg) J J)<|y0 J (u9 J J J (λq=>R8 q))<|S1 1 J<|g7 J (λhg=>mI J)<|g7 J (λhg=>n9 (ct hg) J J)<|y0 J (u9 J J J (λq=>R8 q))<|yN ?_
 refine cN h (λhc h=>?_) λhc h=>?_
 ·refine sR ?_
  refine y0 J (m9 (cs:=[.nl,.I 0,.I 0,.nl,.nl,.nl,.nl,.I 0]) J Ty.p34 Ty.z34 J J J)<|a3Y (x':=.agg [.nl,.I 0,.I 0,.nl,.nl,.nl,.nl,.I 0]) (cl':=true) J J (.inl J) Ty.P8<|yN<|b7 ?_
  cases h
  exact⟨J,[_],⟨oL J J J Ty.X6 Ty.P8 nl J,tr⟩,J,io⟩
 ·refine c4 ?_
  refine dr [] Ty.U9 (by kernel_rfl) (by kernel_rfl)<|S7 2 J<|r8 h λv1 hv1 h=>d2f J (y4 J b5T J hv1) J<|r8 h λv2 hv2 h=>d1 J (b1x (f:=iF) hv2 J J J Ty.A5 Ty.s3 Ty.z3 Ty.b3 J J J) J J J<|r8 h λv3 hv3 h=>d2f J (y4 J b7B J hv3) J<|S7 1 J<|r8 h λv4 hv4 h=>d2f J (y4 J b6D J hv4) J<|r8 h λv5 hv5 h=>d2f J (y4 J b1k J hv5) J<|d7 J (λ_ hN=>m9 (cs:=[.L b8.Pv v1.S.a7,.I v1.S.Last,.I v1.Serial,.sl 33,.L c9.Pv v3,.L c5.Pv v4,.L j2.Pv v5.L,.I v5.Cap]) J Ty.p34 Ty.z34 J J J) J<|G9 (x':=.agg [.L b8.Pv v1.S.a7,.I v1.S.Last,.I v1.Serial,.sl 33,.L c9.Pv v3,.L c5.Pv v4,.L j2.Pv v5.L,.I v5.Cap]) (cl':=false) J J (.inr J) Ty.P8<|N6<|b7 ?_
  cases h
  exact⟨J,[_],⟨oL J J J Ty.X6 Ty.P8 nl J,tr⟩,J,io⟩

theorem x6:PO Tryz.prog 177 [.fn (.func 178) []] (U1) λr=>j1.Pv r:=by
 refine pO Tryz.func177 λr h _ _=>?_
 unfold U1 at h
 refine S4 1 J<|S3 1 J<|y0 J (m9 (cs:=[.fn (.func 178) [],.I 0,.I 5,.I 6]) J Ty.b2M Ty.a3y J J J)<|L4 (a2x 4 (d':=.agg [fvE (some 178),.I 0,.I 5,.I 6]) J)<|S2 1 J<|b7 ?_
 cases h
 exact⟨J,[_],⟨oL J J J Ty.b4K Ty.a4b nl J,tr⟩,J,io⟩

theorem U5:PO Tryz.prog 180 [.fn (.func 181) []] (N2) λr=>j1.Pv r:=by
 refine pO Tryz.func180 λr h _ _=>?_
 unfold N2 at h
 refine S4 1 J<|S3 1 J<|y0 J (m9 (cs:=[.fn (.func 181) [],.I (-1),.I 5,.I 13]) J Ty.b2M Ty.a3y J J J)<|L4 (a2x 4 (d':=.agg [fvE (some 181),.I (-1),.I 5,.I 13]) J)<|S2 1 J<|b7 ?_
 cases h
 exact⟨J,[_],⟨oL J J J Ty.b4K Ty.a4b nl J,tr⟩,J,io⟩

theorem C5{a0}:PO Tryz.prog 176 [.L j1.Pv a0] (G8 a0) λr=>.L j1.Pv r:=by
 refine pO Tryz.func176 λr h _ _=>?_
 unfold G8 at h
 refine S4 1 J<|S4 2 J<|b7 ?_
 cases h
 exact f1

theorem I1:PO Tryz.prog 177 [.fn (.func 179) []] (U2) λr=>j1.Pv r:=by
 refine pO Tryz.func177 λr h _ _=>?_
 unfold U2 at h
 refine S4 1 J<|S3 1 J<|y0 J (m9 (cs:=[.fn (.func 179) [],.I 0,.I 5,.I 6]) J Ty.b2M Ty.a3y J J J)<|L4 (a2x 4 (d':=.agg [fvE (some 179),.I 0,.I 5,.I 6]) J)<|S2 1 J<|b7 ?_
 cases h
 exact⟨J,[_],⟨oL J J J Ty.b4K Ty.a4b nl J,tr⟩,J,io⟩

theorem a3v:PO Tryz.prog 182 [.fn (.func 181) []] (Q5) λr=>j1.Pv r:=by
 refine pO Tryz.func182 λr h _ _=>?_
 unfold Q5 at h
 refine S4 1 J<|S3 1 J<|y0 J (m9 (cs:=[.fn (.func 181) [],.I 0,.I 3,.I 5]) J Ty.b2M Ty.a3y J J J)<|L4 (a2x 4 (d':=.agg [fvE (some 181),.I 0,.I 3,.I 5]) J)<|S2 1 J<|b7 ?_
 cases h
 exact⟨J,[_],⟨oL J J J Ty.b4K Ty.a4b nl J,tr⟩,J,io⟩

theorem a3u:PO Tryz.prog 182 [.fn (.func 179) []] (Q4) λr=>j1.Pv r:=by
 refine pO Tryz.func182 λr h _ _=>?_
 unfold Q4 at h
 refine S4 1 J<|S3 1 J<|y0 J (m9 (cs:=[.fn (.func 179) [],.I 0,.I 3,.I 5]) J Ty.b2M Ty.a3y J J J)<|L4 (a2x 4 (d':=.agg [fvE (some 179),.I 0,.I 3,.I 5]) J)<|S2 1 J<|b7 ?_
 cases h
 exact⟨J,[_],⟨oL J J J Ty.b4K Ty.a4b nl J,tr⟩,J,io⟩

theorem a1l:PO Tryz.prog 183 [.fn (.func 181) []] (L2) λr=>j1.Pv r:=by
 refine pO Tryz.func183 λr h _ _=>?_
 unfold L2 at h
 refine S4 1 J<|S3 1 J<|y0 J (m9 (cs:=[.fn (.func 181) [],.I (-1),.I 5,.I 6]) J Ty.b2M Ty.a3y J J J)<|L4 (a2x 4 (d':=.agg [fvE (some 181),.I (-1),.I 5,.I 6]) J)<|S2 1 J<|b7 ?_
 cases h
 exact⟨J,[_],⟨oL J J J Ty.b4K Ty.a4b nl J,tr⟩,J,io⟩

theorem a33:PO Tryz.prog 184 [.fn (.func 178) []] (T9) λr=>j1.Pv r:=by
 refine pO Tryz.func184 λr h _ _=>?_
 unfold T9 at h
 refine S4 1 J<|S3 1 J<|y0 J (m9 (cs:=[.fn (.func 178) [],.I 0,.I 5,.I 7]) J Ty.b2M Ty.a3y J J J)<|L4 (a2x 4 (d':=.agg [fvE (some 178),.I 0,.I 5,.I 7]) J)<|S2 1 J<|b7 ?_
 cases h
 exact⟨J,[_],⟨oL J J J Ty.b4K Ty.a4b nl J,tr⟩,J,io⟩

theorem O6:PO Tryz.prog 183 [.fn (.func 179) []] (L1) λr=>j1.Pv r:=by
 refine pO Tryz.func183 λr h _ _=>?_
 unfold L1 at h
 refine S4 1 J<|S3 1 J<|y0 J (m9 (cs:=[.fn (.func 179) [],.I (-1),.I 5,.I 6]) J Ty.b2M Ty.a3y J J J)<|L4 (a2x 4 (d':=.agg [fvE (some 179),.I (-1),.I 5,.I 6]) J)<|S2 1 J<|b7 ?_
 cases h
 exact⟨J,[_],⟨oL J J J Ty.b4K Ty.a4b nl J,tr⟩,J,io⟩

theorem a35:PO Tryz.prog 184 [.fn (.func 179) []] (U0) λr=>j1.Pv r:=by
 refine pO Tryz.func184 λr h _ _=>?_
 unfold U0 at h
 refine S4 1 J<|S3 1 J<|y0 J (m9 (cs:=[.fn (.func 179) [],.I 0,.I 5,.I 7]) J Ty.b2M Ty.a3y J J J)<|L4 (a2x 4 (d':=.agg [fvE (some 179),.I 0,.I 5,.I 7]) J)<|S2 1 J<|b7 ?_
 cases h
 exact⟨J,[_],⟨oL J J J Ty.b4K Ty.a4b nl J,tr⟩,J,io⟩

theorem b1u:PO Tryz.prog 95 [] (a41) λr=>.abs (a2r (List.map (ent iF (Ls j1.Pv)) r)):=by
 refine pO Tryz.func95 λr h _ _=>?_
 refine S4 1 J<|sR<|b4H (KT:=Int) (VT:=List j1) (EK:=iF) (E:=(Ls j1.Pv)) 5000001 J J<|cF h x6 J J λv1 hv1 h=>y0 J (m9 (cs:=[.fn (.func 179) [],.I 0,.I 4,.I 1]) J Ty.b2M Ty.a3y J J J)<|L4 (a2x 3 (d':=.agg [fvE (some 179),.I 0,.I 4,.I 1]) J)<|cF h U5 J J λv2 hv2 h=>y0 J (M2 (f:=j1.Pv) (l:=[v1,(⟨(some 179),0,4,1⟩:j1),v2]) J Ty.b0b Ty.a4b Ty.a3y J J nl J J)<|cF h C5 J J λv3 _ h=>Z7 (es:=[]) (k:=1) (v:=v3) (E:=(Ls j1.Pv)) (EK:=iF) (.inr J) J J J J J J Ty.a4x (A3 Ty.u3)<|yc J (y4 J x6 J hv1)<|cF h I1 J J λv4 hv4 h=>y0 J (M2 (f:=j1.Pv) (l:=[v1,v4]) J Ty.b0b Ty.a4b Ty.a3y J J nl J J)<|cF h C5 J J λv5 hv5 h=>Z7 (es:=(o0 [] 1 v3)) (k:=2) (v:=v5) (E:=(Ls j1.Pv)) (EK:=iF) (.inr J) J J J J J J Ty.a4x (A3 Ty.u3)<|yc J (y4 J x6 J hv1)<|y0 J (M2 (f:=j1.Pv) (l:=[v1]) J Ty.b0b Ty.a4b Ty.a3y J J nl J J)<|cF h C5 J J λv6 _ h=>Z7 (es:=(o0 (o0 [] 1 v3) 2 v5)) (k:=3) (v:=v6) (E:=(Ls j1.Pv)) (EK:=iF) (.inr J) J J J J J J Ty.a4x (A3 Ty.u3)<|yc J (y4 J x6 J hv1)<|yc J (y4 J I1 J hv4)<|cF h a3v J J λv7 _ h=>y0 J (M2 (f:=j1.Pv) (l:=[v1,v4,v7]) J Ty.b0b Ty.a4b Ty.a3y J J nl J J)<|cF h C5 J J λv8 _ h=>Z7 (es:=(o0 (o0 (o0 [] 1 v3) 2 v5) 3 v6)) (k:=4) (v:=v8) (E:=(Ls j1.Pv)) (EK:=iF) (.inr J) J J J J J J Ty.a4x (A3 Ty.u3)<|yc J (y4 J x6 J hv1)<|cF h a3u J J λv9 _ h=>cF h a1l J J λv10 _ h=>y0 J (M2 (f:=j1.Pv) (l:=[v1,v9,v10]) J Ty.b0b Ty.a4b Ty.a3y J J nl J J)<|cF h C5 J J λv11 _ h=>?_
 refine Z7 (es:=(o0 (o0 (o0 (o0 [] 1 v3) 2 v5) 3 v6) 4 v8)) (k:=5) (v:=v11) (E:=(Ls j1.Pv)) (EK:=iF) (.inr J) J J J J J J Ty.a4x (A3 Ty.u3)<|cF h a33 J J λv12 _ h=>cF h O6 J J λv13 hv13 h=>yc J (y4 J U5 J hv2)<|y0 J (M2 (f:=j1.Pv) (l:=[v12,v13,v2]) J Ty.b0b Ty.a4b Ty.a3y J J nl J J)<|cF h C5 J J λv14 _ h=>Z7 (es:=(o0 (o0 (o0 (o0 (o0 [] 1 v3) 2 v5) 3 v6) 4 v8) 5 v11)) (k:=6) (v:=v14) (E:=(Ls j1.Pv)) (EK:=iF) (.inr J) J J J J J J Ty.a4x (A3 Ty.u3)<|yc J (y4 J x6 J hv1)<|cF h a35 J J λv15 _ h=>y0 J (M2 (f:=j1.Pv) (l:=[v1,v15]) J Ty.b0b Ty.a4b Ty.a3y J J nl J J)<|cF h C5 J J λv16 _ h=>Z7 (es:=(o0 (o0 (o0 (o0 (o0 (o0 [] 1 v3) 2 v5) 3 v6) 4 v8) 5 v11) 6 v14)) (k:=7) (v:=v16) (E:=(Ls j1.Pv)) (EK:=iF) (.inr J) J J J J J J Ty.a4x (A3 Ty.u3)<|yc J (y4 J x6 J hv1)<|yc J (y4 J O6 J hv13)<|y0 J (M2 (f:=j1.Pv) (l:=[v1,v13]) J Ty.b0b Ty.a4b Ty.a3y J J nl J J)<|cF h C5 J J λv17 _ h=>Z7 (es:=(o0 (o0 (o0 (o0 (o0 (o0 (o0 [] 1 v3) 2 v5) 3 v6) 4 v8) 5 v11) 6 v14) 7 v16)) (k:=8) (v:=v17) (E:=(Ls j1.Pv)) (EK:=iF) (.inr J) J J J J J J Ty.a4x (A3 Ty.u3)<|yc J (y4 J x6 J hv1)<|yc J (y4 J I1 J hv4)<|y0 J (M2 (f:=j1.Pv) (l:=[v1,v4]) J Ty.b0b Ty.a4b Ty.a3y J J nl J J)<|yc J (y4 J C5 J hv5)<|Z7 (es:=(o0 (o0 (o0 (o0 (o0 (o0 (o0 (o0 [] 1 v3) 2 v5) 3 v6) 4 v8) 5 v11) 6 v14) 7 v16) 8 v17)) (k:=9) (v:=v5) (E:=(Ls j1.Pv)) (EK:=iF) (.inr J) J J J J J J Ty.a4x (A3 Ty.u3)<|yc J (y4 J x6 J hv1)<|yc J (y4 J I1 J hv4)<|y0 J (M2 (f:=j1.Pv) (l:=[v1,v4]) J Ty.b0b Ty.a4b Ty.a3y J J nl J J)<|yc J (y4 J C5 J hv5)<|Z7 (es:=(o0 (o0 (o0 (o0 (o0 (o0 (o0 (o0 (o0 [] 1 v3) 2 v5) 3 v6) 4 v8) 5 v11) 6 v14) 7 v16) 8 v17) 9 v5)) (k:=10) (v:=v5) (E:=(Ls j1.Pv)) (EK:=iF) (.inr J) J J J J J J Ty.a4x (A3 Ty.u3)<|cF h C5 J J λv18 _ h=>Z7 (es:=(o0 (o0 (o0 (o0 (o0 (o0 (o0 (o0 (o0 (o0 [] 1 v3) 2 v5) 3 v6) 4 v8) 5 v11) 6 v14) 7 v16) 8 v17) 9 v5) 10 v5)) (k:=11) (v:=v18) (E:=(Ls j1.Pv)) (EK:=iF) (.inr J) J J J J J J Ty.a4x (A3 Ty.u3)<|y0 J (m9 (cs:=[.fn (.func 178) [],.I 0,.I 200,.I 12]) J Ty.b2M Ty.a3y J J J) ?_
 refine L4 (a2x 46 (d':=.agg [fvE (some 178),.I 0,.I 200,.I 12]) J)<|y0 J (M2 (f:=j1.Pv) (l:=[(⟨(some 178),0,200,12⟩:j1)]) J Ty.b0b Ty.a4b Ty.a3y J J nl J J)<|cF h C5 J J λv19 _ h=>Z7 (es:=(o0 (o0 (o0 (o0 (o0 (o0 (o0 (o0 (o0 (o0 (o0 [] 1 v3) 2 v5) 3 v6) 4 v8) 5 v11) 6 v14) 7 v16) 8 v17) 9 v5) 10 v5) 11 v18)) (k:=12) (v:=v19) (E:=(Ls j1.Pv)) (EK:=iF) (.inr J) J J J J J J Ty.a4x (A3 Ty.u3)<|S2 2 J<|a2u (c3o 0 5000001 J J)<|b7 ?_
 cases h
 exact f1

theorem a7O{a0}:PO Tryz.prog 178 [code_Op.Pv a0] (a8d a0) λr=>.I r:=by
 refine pO Tryz.func178 λr h _ _=>?_
 unfold a8d at h
 refine S4 2 J<|S4 3 J<|b7 ?_
 cases h
 exact f1

theorem a7P{a0}:PO Tryz.prog 179 [code_Op.Pv a0] (a8e a0) λr=>.I r:=by
 refine pO Tryz.func179 λr h _ _=>?_
 unfold a8e at h
 refine S4 2 J<|S4 3 J<|b7 ?_
 cases h
 exact f1

theorem a7Q{a0}:PO Tryz.prog 181 [code_Op.Pv a0] (a8f a0) λr=>.I r:=by
 refine pO Tryz.func181 λr h _ _=>?_
 unfold a8f at h
 refine S4 2 J<|S4 3 J<|b7 ?_
 cases h
 exact f1

theorem b71{f:Fv}{a0:code_Op}{r:Int}(h:a8V f a0=some r):∃n,f=some n∧A2 Tryz.prog n∧O4 Tryz.prog n [code_Op.Pv a0] (.I r):=by
 unfold a8V at h
 by_cases e178:f=some 178
 ·rw[if_pos e178] at h;exact⟨178,e178,(@a7O a0).1,(@a7O a0).2 _ h⟩
 rw[if_neg e178] at h
 by_cases e179:f=some 179
 ·rw[if_pos e179] at h;exact⟨179,e179,(@a7P a0).1,(@a7P a0).2 _ h⟩
 rw[if_neg e179] at h
 by_cases e181:f=some 181
 ·rw[if_pos e181] at h;exact⟨181,e181,(@a7Q a0).1,(@a7Q a0).2 _ h⟩
 rw[if_neg e181] at h
 cases h

theorem b3P{a0}:PO Tryz.prog 39 [code_Op.Pv a0] (a2T a0) λr=>.I r:=by
 refine pO Tryz.func39 λr h _ _=>?_
 unfold a2T at h
 refine S4 2 J<|dr [] Ty.U9 (by kernel_rfl) (by kernel_rfl)<|r8 h λv1 hv1 h=>d2f J (y4 J b1u J hv1) J<|S7 2 J<|d4 J (c2p (es:=v1) (k:=a0.Kind) (E:=(Ls j1.Pv)) (EK:=iF) (d:=.tup [.L j1.Pv ((z7 v1 a0.Kind).getD ([]:List j1)),.bool ((z7 v1 a0.Kind).isSome)]) J J Ty.a4x (A3 Ty.u3) Ty.d0v J (lk2 _ _ ([]:List j1))) J<|S8 5 J<|c7<|S4 2 J ?_
 refine cN h (λhc h=>?_) λhc h=>?_
 ·refine S4 1 J ?_
  refine b7 ?_
  cases h
  exact f1
 ·refine c4 ?_
  refine jq h (λ_=>St.of [] []) (λq9 h=>?_) λκ8 h=>?_
  ·refine S4 1 J ?_
   refine b7 ?_
   cases h
   exact f1
  ·refine S3 1 J ?_
   refine nL J Ty.b0b<|S2 1 J<|g8<|lq h (λs11=>St.of [(1,.ptr 1 0 0),(17,.L j1.Pv ((z7 v1 a0.Kind).getD ([]:List j1))),(18,.I (((z7 v1 a0.Kind).getD ([]:List j1)).length:Int)),(19,.I s11)] [(1,vR (code_Op.Pv a0) 4)]) W λs11 x12 h hx13=>S4 1 J<|c7 ?_
   refine cN h (λhc h=>?_) λhc h=>?_
   ·refine c4 ?_
    refine c7<|g8<|sR<|iL h J J Ty.b0b Ty.a4b λv13 _ h=>S2 3 J<|S3 3 J ?_
    obtain⟨v14,hv15,h⟩:=a6f h
    obtain⟨n15,he16,hk17,hp18⟩:=b71 hv15
    refine L4 (b9Y 24 J he16)<|y0 J (b2I J hk17 J hp18)<|S2 1 J<|S3 5 J<|g7 J (λhg=>mI J)<|g7 J (λhg=>oF J Ty.c6g J)<|g7 J (λhg=>oS (ct hg) J J Ty.a3 J)<|g7 J (λhg=>n9 (ct hg) (ct hg) J)<|y0 J (u9 J J J (λq=>R8 q))<|yN ?_
    refine cN h (λhc h=>?_) λhc h=>?_
    ·refine S4 3 J ?_
     refine b7 ?_
     have h:=xL hx13 h
     cases h
     exact f1
    ·refine c4 ?_
     refine S6 2 J ?_
     exact eL h W
   ·refine n7 ?_
    refine c8<|c8<|j5 ?_
    have h:=xL hx13 h
    exact eJ h W

theorem b0p:PO Tryz.prog 40 [] (a1R) λr=>.abs (a2r (List.map (ent iF fvE) r)):=by
 refine pO Tryz.func40 λr h _ _=>?_
 unfold a1R at h
 refine S4 1 J<|sR<|b4H (KT:=Int) (VT:=Fv) (EK:=iF) (E:=fvE) 5000001 J J<|a4f (es:=[]) (k:=1) (v:=(some 96)) (E:=fvE) (EK:=iF) (.inr J) J J J J J J Ty.b2E (A3 Ty.u3)<|a4f (es:=(o0 [] 1 (some 96))) (k:=2) (v:=(some 97)) (E:=fvE) (EK:=iF) (.inr J) J J J J J J Ty.b2E (A3 Ty.u3)<|a4f (es:=(o0 (o0 [] 1 (some 96)) 2 (some 97))) (k:=3) (v:=(some 98)) (E:=fvE) (EK:=iF) (.inr J) J J J J J J Ty.b2E (A3 Ty.u3)<|a4f (es:=(o0 (o0 (o0 [] 1 (some 96)) 2 (some 97)) 3 (some 98))) (k:=4) (v:=(some 99)) (E:=fvE) (EK:=iF) (.inr J) J J J J J J Ty.b2E (A3 Ty.u3)<|a4f (es:=(o0 (o0 (o0 (o0 [] 1 (some 96)) 2 (some 97)) 3 (some 98)) 4 (some 99))) (k:=5) (v:=(some 100)) (E:=fvE) (EK:=iF) (.inr J) J J J J J J Ty.b2E (A3 Ty.u3)<|a4f (es:=(o0 (o0 (o0 (o0 (o0 [] 1 (some 96)) 2 (some 97)) 3 (some 98)) 4 (some 99)) 5 (some 100))) (k:=6) (v:=(some 101)) (E:=fvE) (EK:=iF) (.inr J) J J J J J J Ty.b2E (A3 Ty.u3)<|a4f (es:=(o0 (o0 (o0 (o0 (o0 (o0 [] 1 (some 96)) 2 (some 97)) 3 (some 98)) 4 (some 99)) 5 (some 100)) 6 (some 101))) (k:=7) (v:=(some 102)) (E:=fvE) (EK:=iF) (.inr J) J J J J J J Ty.b2E (A3 Ty.u3)<|a4f (es:=(o0 (o0 (o0 (o0 (o0 (o0 (o0 [] 1 (some 96)) 2 (some 97)) 3 (some 98)) 4 (some 99)) 5 (some 100)) 6 (some 101)) 7 (some 102))) (k:=8) (v:=(some 103)) (E:=fvE) (EK:=iF) (.inr J) J J J J J J Ty.b2E (A3 Ty.u3)<|a4f (es:=(o0 (o0 (o0 (o0 (o0 (o0 (o0 (o0 [] 1 (some 96)) 2 (some 97)) 3 (some 98)) 4 (some 99)) 5 (some 100)) 6 (some 101)) 7 (some 102)) 8 (some 103))) (k:=9) (v:=(some 104)) (E:=fvE) (EK:=iF) (.inr J) J J J J J J Ty.b2E (A3 Ty.u3)<|a4f (es:=(o0 (o0 (o0 (o0 (o0 (o0 (o0 (o0 (o0 [] 1 (some 96)) 2 (some 97)) 3 (some 98)) 4 (some 99)) 5 (some 100)) 6 (some 101)) 7 (some 102)) 8 (some 103)) 9 (some 104))) (k:=10) (v:=(some 105)) (E:=fvE) (EK:=iF) (.inr J) J J J J J J Ty.b2E (A3 Ty.u3)<|S2 2 J<|a2u (c3o 0 5000001 J J)<|b7 ?_
 cases h
 exact f1

theorem b8X{a0}:PO Tryz.prog 254 [.I a0] (b52 a0) λr=>.tup [.L iF r.1,.I r.2]:=by
 refine pO Tryz.func254 λr h _ _=>?_
 refine S4 2 J<|c7<|S3 3 J<|g7 J (λhg=>mI J)<|g7 J (λhg=>n9 (ct hg) J J)<|y0 J (u9 J J J (λq=>R8 q))<|yN ?_
 refine cN h (λhc h=>?_) λhc h=>?_
 ·refine S4 2 J ?_
  refine b7 ?_
  cases h
  exact f2
 ·refine c4 ?_
  refine S3 1 J<|r8 h λv1 hv1 h=>y1 J (b1x (f:=iF) hv1 J J J Ty.A5 Ty.s3 Ty.z3 Ty.b3 J J J) J<|S2 2 J<|b7 ?_
  cases h
  exact f2

theorem a2d{a0}:PO Tryz.prog 255 [.I a0] (G5 a0) λr=>.bool r:=by
 refine pO Tryz.func255 λr h _ _=>?_
 unfold G5 at h
 refine S4 1 J<|S3 3 J<|g7 J (λhg=>mI J)<|g7 J (λhg=>n9 (ct hg) J J)<|y0 J (p5 J J J (λq=>Q1 q))<|S2 1 J<|b7 ?_
 cases h
 exact f1

theorem a5C{a0}:PO Tryz.prog 304 [g6.Pv a0] (K7 a0) λr=>.fn (.func 327) [.rptr (g6.Pc r)]:=by
 refine pO Tryz.func304 λr h _ _=>?_
 unfold K7 at h
 refine S4 2 J<|S4 2 J<|b7 ?_
 cases h
 exact f1

theorem I9{a0}:PON Tryz.prog 328 [.L b8.Pv a0] (u6 a0) λr=>⟨List.map b8.Pv r,0,true,8,true⟩:=by
 refine pON Tryz.func328 λr h _ _=>?_
 unfold u6 at h
 refine S4 1 J<|c7<|S3 1 J<|b6b J Ty.e22 λb hb=>yN ?_
 refine G1 b J (λhc=>?_) (λhc=>?_)
 ·obtain rfl:a0 = []:=by simpa using hb hc
  refine S4 1 J<|a2u (F2 (t:=2) (l:=920000) (z:=8) J J)<|b7 ?_
  cases h
  exact⟨J,_,_,J,J,J,J⟩
 ·refine c4 ?_
  refine sR<|y0 J (B3 J Ty.e22 Ty.a4K)<|S1 1 J<|y1 J (a5T (f:=b8.Pv) h J J (.inl ⟨_,J,J⟩) Ty.e22 Ty.a4K Ty.c7V Ty.c0Y J (λ_=>J)) J<|S2 1 J<|b7 ?_
  exact⟨J,_,_,J,J,J,J⟩

theorem G3{a0 a1 a2}:PO Tryz.prog 305 [g6.Pv a0,.I a1,b8.Pv a2] (B1 a0 a1 a2) λr=>g6.Pv r:=by
 refine pO Tryz.func305 λr h _ _=>?_
 unfold B1 at h
 refine S4 3 J<|S3 2 J<|r8 h λv1 hv1 h=>ycN J (b4u J I9 J hv1) J J<|S2 2 J<|S3 4 J<|r8 h λv2 hv2 h=>y0 J (Z0 (f:=b8.Pv) hv2 J J J J Ty.e22 Ty.a4K J)<|a3s (f:=b8.Pv) (v:=a2) hv2 J J (.inr J) Ty.a4K<|yN<|S4 2 J<|b7 ?_
 cases h
 exact⟨J,[_],⟨oL J J J Ty.a24 Ty.s24 nl J,tr⟩,J,io⟩

theorem a2Z{a0 a1}:PO Tryz.prog 83 [.I a0,.I a1] (V4 a0 a1) λr=>.I r:=by
 refine pO Tryz.func83 λr h _ _=>?_
 refine S4 1 J<|c7<|S3 3 J<|g7 J (λhg=>mI J)<|g7 J (λhg=>n9 (ct hg) J J)<|y0 J (u9 J J J (λq=>R8 q))<|S1 1 J<|g7 J (λhg=>mI J)<|g7 J (λhg=>n9 (ct hg) J J)<|y0 J (u9 J J J (λq=>R8 q))<|S1 1 J<|g7 J (λhg=>mI J)<|g7 J (λhg=>n9 (ct hg) J J)<|y0 J (u9 J J J (λq=>R8 q))<|yN ?_
 refine cN h (λhc h=>?_) λhc h=>?_
 ·refine S4 1 J ?_
  refine b7 ?_
  cases h
  exact f1
 ·refine c4 ?_
  refine S4 7 J<|b7 ?_
  cases h
  exact f1

theorem a5B{a0 a1}:PO Tryz.prog 256 [g6.Pv a0,l4.Pv a1] (G6 a0 a1) λr=>.tup [g6.Pv r.1,.I r.2.1,.I r.2.2]:=by
 refine pO Tryz.func256 λr h _ _=>?_
 refine S4 5 J ?_
 refine jq h (λ_=>St.of [(2,.ptr 2005 0 0),(4,.ptr 2003 0 0),(5,.ptr 2002 0 0),(6,.ptr 2001 0 0)] [(2001,vR (.I 0) 1),(2002,vR (.I 0) 1),(2003,vR (.agg [.nl,.I 0]) 2),(2005,vR (g6.Pv a0) 2)]) (λq10 h=>?_) λκ9 h=>?_
 ·refine S4 4 J ?_
  refine b7 ?_
  cases h
  exact⟨J,[_,_,_],⟨oL J J J Ty.a24 Ty.s24 nl J,⟨oS J J J Ty.a3 J,⟨oS J J J Ty.a39 J,tr⟩⟩⟩,J,io⟩
 ·refine S3 1 J ?_
  refine cF h a5C J J λv11 _ h=>yN<|g8<|a2u (WPE (λl=>if l=2006 then 6 else if l=2007 then 5 else if l=2008 then 4 else if l=2009 then 3 else if l=2010 then 2 else l) [(2,.ptr 2010 0 0),(3,.ptr 2009 0 0),(4,.ptr 2008 0 0),(5,.ptr 2007 0 0),(6,.ptr 2006 0 0),(10,.fn (.func 327) [.rptr (g6.Pc v11)])] [(2006,vR (.I 0) 1),(2007,vR (.I 0) 1),(2008,vR (.agg [.nl,.I 0]) 2),(2009,vR (l4.Pv a1) 6),(2010,vR (g6.Pv a0) 2)]) ?_
  refine a0b (fn:=Tryz.f327) (N1:=23) J Tryz.func327 J J nl J Ty.c93 J J (λl19 e20 o21 hR22=>?_)
  refine S3 2 J<|nL J Ty.e22<|S2 1 J<|g8<|lq h (λs13=>St.of [(1000002,.ptr 2010 0 0),(1000003,.ptr 2009 0 0),(1000004,.ptr 2008 0 0),(1000005,.ptr 2007 0 0),(1000006,.ptr 2006 0 0),(1000010,.fn (.func 327) [.rptr (g6.Pc v11)]),(0,.fn (.yield l19) []),(6,.L b8.Pv v11.a7),(7,.I (v11.a7.length:Int)),(8,.I s13)] [(2006,vR (.I 0) 1),(2007,vR (.I 0) 1),(2008,vR (.agg [.nl,.I 0]) 2),(2009,vR (l4.Pv a1) 6),(2010,vR (g6.Pv a0) 2)]) W λs13 x14 h hx25=>S4 1 J<|c7 ?_
  refine cN h (λhc h=>?_) λhc h=>?_
  ·refine c4 ?_
   refine c7<|g8<|S3 1 J<|iL h J J Ty.e22 Ty.a4K λv15 _ h=>S2 4 J<|S3 4 J<|g7 J (λhg=>om (d:=.fn (.yield l19) []) J)<|g7 J (λhg=>mI J) ?_
   rcases Bool.eq_false_or_eq_true ((v15.State==0)==true) with hg27 | hg27
   ·have h:=ifT h hg27
    refine L4 (WE [(1000002,.ptr 2010 0 0),(1000003,.ptr 2009 0 0),(1000004,.ptr 2008 0 0),(1000005,.ptr 2007 0 0),(1000006,.ptr 2006 0 0),(1000010,.fn (.func 327) [.rptr (g6.Pc v11)]),(0,.fn (.yield l19) []),(6,.L b8.Pv v11.a7),(7,.I (v11.a7.length:Int)),(8,.I s13),(16,.bool (v15.State==0)),(17,.fn (.yield l19) []),(18,.I s13)] [(2006,vR (.I 0) 1),(2007,vR (.I 0) 1),(2008,vR (.agg [.nl,.I 0]) 2),(2009,vR (l4.Pv a1) 6),(2010,vR (g6.Pv a0) 2)]) ?_
    refine a3Z hR22 (congrArg some hg27) J J J J J (λe28 o29 o30=>?_)
    refine S6 1 J ?_
    refine⟨J,?_⟩
    refine g8<|S3 3 J<|iL h J J Ty.e22 Ty.a4K λv16 _ h=>S2 3 J<|S3 4 J<|y0 J (m9 (cs:=[.I 1,.I v16.Gen,.I a1.Serial,.I a1.Strong,.I a1.Weak,.I a1.Prog,.bool a1.Started,.L iF a1.Fields]) J Ty.c4x Ty.c0Y J J J)<|cF h G3 J J λv17 _ h=>S1 2 J<|cA h a2Z J J λv18 _ h=>S2 3 J<|b7 ?_
    refine⟨J,?_⟩
    refine L4 (WE [(1000002,.ptr 2010 0 0),(1000003,.ptr 2009 0 0),(1000004,.ptr 2008 0 0),(1000005,.ptr 2007 0 0),(1000006,.ptr 2006 0 0),(1000010,.fn (.func 327) [.rptr (g6.Pc v11)]),(0,.fn (.yield l19) []),(6,.L b8.Pv v11.a7),(7,.I (v11.a7.length:Int)),(8,.I s13),(16,.bool (v15.State==0)),(19,.bool false)] [(2006,vR (.I 0) 1),(2007,vR (.I v18) 1),(2008,vR (g6.Pv v17) 2),(2009,vR (l4.Pv a1) 6),(2010,vR (g6.Pv a0) 2)])<|y0 (congrArg some hg27) (a01 J J)<|y0 J (a7g J J hg27)<|yN ?_
    refine G1 true J (λ_=>?_) (λq=>nomatch q)
    refine b7 ?_
    refine .inr ⟨.ret,J,c31 ?_⟩
    have h:=xL hx25 h
    cases h
    exact⟨J,[_,_,_],⟨oL J J J Ty.a24 Ty.s24 nl J,⟨oS J J J Ty.a3 J,⟨oS J J J Ty.a39 J,tr⟩⟩⟩,J,io⟩
   ·have h:=ifF h hg27
    refine a1d (congrArg some hg27)<|a1d (congrArg some hg27)<|y0 J (a7f J J hg27)<|yN ?_
    refine G1 false J (λq=>nomatch q) (λ_=>?_)
    refine c4<|S6 2 J ?_
    exact eL h W
  ·refine n7 ?_
   refine c8<|c8<|j5 ?_
   refine .inl ⟨J,?_⟩
   have h:=xL hx25 h
   exact eJ h (WP (λl=>if l=2005 then 2010 else if l=2003 then 2008 else if l=2002 then 2007 else if l=2001 then 2006 else l))

theorem b35{a0 a1 a2}:PO Tryz.prog 185 [a8.Pv a0,.I a1,.I a2] (N5 a0 a1 a2) λr=>.tup [a8.Pv r.1,.I r.2.1,.I r.2.2]:=by
 refine pO Tryz.func185 λr h _ _=>?_
 refine S4 4 J<|S3 1 J<|cF h b8X J J λv1 _ h=>S2 5 J<|c7<|S4 2 J ?_
 refine cN h (λhc h=>?_) λhc h=>?_
 ·refine S4 5 J ?_
  refine b7 ?_
  cases h
  exact⟨J,[_,_,_],⟨oL J J J Ty.a26 Ty.s26 nl J,⟨J,⟨J,tr⟩⟩⟩,J,io⟩
 ·refine c4 ?_
  refine c7<|S3 1 J<|cA h a2d J J λv2 _ h=>S2 1 J ?_
  refine cN h (λhc h=>?_) λhc h=>?_
  ·refine S4 4 J ?_
   refine b7 ?_
   cases h
   exact⟨J,[_,_,_],⟨oL J J J Ty.a26 Ty.s26 nl J,⟨J,⟨J,tr⟩⟩⟩,J,io⟩
  ·refine c4 ?_
   refine S3 7 J<|y0 J (m9 (cs:=[.I (w7 (a0.Serial+1)),.I 0,.I 0,.I a2,.bool false,.L iF v1.1]) J Ty.c97 Ty.d0u J J J)<|cF h a5B J J λv3 _ h=>S2 8 J<|c7<|S4 2 J ?_
   refine cN h (λhc h=>?_) λhc h=>?_
   ·refine S4 5 J ?_
    refine b7 ?_
    cases h
    exact⟨J,[_,_,_],⟨oL J J J Ty.a26 Ty.s26 nl J,⟨J,⟨J,tr⟩⟩⟩,J,io⟩
   ·refine c4 ?_
    refine S3 4 J<|y0 J (m9 (cs:=[.L b8.Pv v3.1.a7,.I v3.1.Last,.I (w7 (a0.Serial+1))]) J Ty.p26 Ty.z26 J J J)<|S2 4 J<|b7 ?_
    cases h
    exact⟨J,[_,_,_],⟨oL J J J Ty.a26 Ty.s26 nl J,⟨J,⟨J,tr⟩⟩⟩,J,io⟩

theorem a5P{a0}:PO Tryz.prog 300 [.I a0] (a0P a0) λr=>.tup [.I r.1,.I r.2.1,.bool r.2.2]:=by
 refine pO Tryz.func300 λr h _ _=>?_
 refine S4 3 J<|c7<|S4 2 J ?_
 refine cN h (λhc h=>?_) λhc h=>?_
 ·refine S4 3 J ?_
  refine b7 ?_
  cases h
  exact f3
 ·refine c4 ?_
  refine S3 2 J<|r8 h λv1 hv1 h=>y0 J (a5U J J hv1)<|r8 h λv2 hv2 h=>y0 J (a5U J J hv2)<|S1 2 J<|r8 h λv3 hv3 h=>y0 J (a5U J J hv3)<|S2 2 J<|c7<|S3 3 J<|g7 J (λhg=>mI J)<|g7 J (λhg=>n9 (ct hg) J J)<|y0 J (u9 J J J (λq=>R8 q))<|yN ?_
  refine cN h (λhc h=>?_) λhc h=>?_
  ·refine S4 3 J ?_
   refine b7 ?_
   cases h
   exact f3
  ·refine c4 ?_
   refine S4 5 J<|b7 ?_
   cases h
   exact f3

theorem a6m{a0}:PO Tryz.prog 246 [.I a0] (a1X a0) λr=>.I r:=by
 refine pO Tryz.func246 λr h _ _=>?_
 refine S4 1 J<|S3 1 J<|cA h a5P J J λv1 _ h=>S2 7 J<|S4 2 J<|b7 ?_
 cases h
 exact f1

theorem a7V{a0}:PO Tryz.prog 247 [.I a0] (a2X a0) λr=>.I r:=by
 refine pO Tryz.func247 λr h _ _=>?_
 refine S4 1 J<|S3 1 J<|cA h a5P J J λv1 _ h=>S2 7 J<|S4 2 J<|b7 ?_
 cases h
 exact f1

theorem E0{a0 a1}:PO Tryz.prog 168 [g6.Pv a0,.I a1] (p8 a0 a1) λr=>.tup [.I r.1,.I r.2]:=by
 refine pO Tryz.func168 λr h _ _=>?_
 refine S4 3 J<|c7<|S4 2 J ?_
 refine cN h (λhc h=>?_) λhc h=>?_
 ·refine S4 2 J ?_
  refine b7 ?_
  cases h
  exact f2
 ·refine c4 ?_
  refine S3 1 J<|cA h a6m J J λv1 _ h=>S2 1 J<|c7<|S3 3 J<|g7 J (λhg=>mI J)<|g7 J (λhg=>oF J Ty.c74 J)<|g7 J (λhg=>oS (ct hg) J J Ty.a22 J)<|g7 J (λhg=>L5 (f:=b8.Pv) (ct hg) Ty.e22)<|g7 J (λhg=>n9 (ct hg) (ct hg) J)<|y0 J (u9 J J J (λq=>R8 q))<|yN ?_
  refine cN h (λhc h=>?_) λhc h=>?_
  ·refine S4 2 J ?_
   refine b7 ?_
   cases h
   exact f2
  ·refine c4 ?_
   refine S3 3 J<|iL h J J Ty.e22 Ty.a4K λv2 _ h=>S2 3 J<|c7<|dr [] Ty.U9 (by kernel_rfl) (by kernel_rfl)<|S7 3 J<|r8 h λv3 hv3 h=>d2 J (C6 J a7V J hv3) J<|S7 2 J<|D0 J (λhg _ hN=>oF J Ty.b2n J) J<|K3 J (λhg=>oS (ct hg) J J Ty.a3 J) J<|D0 J (λhg _ hN=>n9 (ct hg) J J) J<|D0 J (λhg _ hN=>om (d:=.bool (v2.State != 1)) (ct hg)) J<|D0 (D6 J J J) (λhg _ hN=>oF J Ty.b2n J) J<|K3 (D6 J J J) (λhg=>oS (ct hg) J J Ty.a3 J) J<|D0 (D6 J J J) (λhg _ hN=>n9 (ct hg) J J) J<|D0 J (λhg _ hN=>p5 (ct hg) J J (λq=>b1s hg (Q1 q))) J<|d7 J (λ_ hN=>u9 J J J (λq=>R8 q)) J<|N6 ?_
   refine cN h (λhc h=>?_) λhc h=>?_
   ·refine S4 2 J ?_
    refine b7 ?_
    cases h
    exact f2
   ·refine c4 ?_
    refine S4 3 J<|b7 ?_
    cases h
    exact f2

theorem a1k{a0 a1}:PO Tryz.prog 132 [g6.Pv a0,.I a1] (C1 a0 a1) λr=>.tup [l4.Pv r.1,.I r.2]:=by
 refine pO Tryz.func132 λr h _ _=>?_
 refine S4 3 J<|S4 1 J<|S3 2 J<|cA h E0 J J λv1 _ h=>S2 5 J<|c7<|S4 2 J ?_
 refine cN h (λhc h=>?_) λhc h=>?_
 ·refine S3 2 J ?_
  refine a3Y (x':=.agg [.I 0,.I 0,.I 0,.I 0,.bool false,.nl]) (cl':=true) J J (.inl J) Ty.b7l<|S2 1 J<|b7 ?_
  cases h
  exact⟨J,[_,_],⟨oL J J J Ty.c06 Ty.b7l nl J,⟨J,tr⟩⟩,J,io⟩
 ·refine c4 ?_
  refine c7<|S3 3 J<|iL h J J Ty.e22 Ty.a4K λv2 hv2 h=>S2 3 J ?_
  refine cN h (λhc h=>?_) λhc h=>?_
  ·refine S3 1 J ?_
   refine a3Y (x':=.agg [.I 0,.I 0,.I 0,.I 0,.bool false,.nl]) (cl':=true) J J (.inl J) Ty.b7l<|S2 1 J<|b7 ?_
   cases h
   exact⟨J,[_,_],⟨oL J J J Ty.c06 Ty.b7l nl J,⟨J,tr⟩⟩,J,io⟩
  ·refine c4 ?_
   refine S3 3 J<|y0 J (y5 (f:=b8.Pv) (cs:=b8.Pc v2) hv2 J J Ty.e22 Ty.a4K J J)<|S2 4 J<|b7 ?_
   cases h
   exact⟨J,[_,_],⟨oL J J J Ty.c06 Ty.b7l nl J,⟨J,tr⟩⟩,J,io⟩

theorem A7{a0 a1}:PO Tryz.prog 58 [a8.Pv a0,.I a1] (u5 a0 a1) λr=>.tup [l4.Pv r.1,.I r.2]:=by
 refine pO Tryz.func58 λr h _ _=>?_
 refine S4 3 J<|S3 3 J<|cF h a1k J J λv1 _ h=>S2 4 J<|b7 ?_
 cases h
 exact⟨J,[_,_],⟨oL J J J Ty.c06 Ty.b7l nl J,⟨J,tr⟩⟩,J,io⟩

theorem a0S{a0 a1}:PO Tryz.prog 162 [b9.Pv a0,.I a1] (V7 a0 a1) λr=>.bool r:=by
 refine pO Tryz.func162 λr h _ _=>?_
 refine S4 2 J<|S3 3 J<|cF h A7 J J λv1 _ h=>S2 6 J<|S4 3 J<|b7 ?_
 cases h
 exact f1

theorem L6{a0 a1}:PO Tryz.prog 158 [b9.Pv a0,.I a1] (F4 a0 a1) λr=>.bool r:=by
 refine pO Tryz.func158 λr h _ _=>?_
 unfold F4 at h
 refine S4 2 J<|S3 3 J<|g7 J (λhg=>oL J J J Ty.X6 Ty.P8 nl J)<|g7 J (λhg=>mI J)<|r8 h λv1 hv1 h=>g7 J (λhg=>C6 J a0S (B8 (ct hg) (B8 (ct hg) J)) (F3 hv1 hg))<|y0 J (u9 J J J (λq=>R8 q))<|S2 1 J<|b7 ?_
 cases h
 exact f1

theorem V3{a0}:PO Tryz.prog 250 [.I a0] (E3 a0) λr=>.bool r:=by
 refine pO Tryz.func250 λr h _ _=>?_
 unfold E3 at h
 refine S4 1 J<|S4 3 J<|b7 ?_
 cases h
 exact f1

theorem a8N{a0}:PO Tryz.prog 313 [.I a0] (a2U a0) λr=>.tup [.I r.1,.I r.2]:=by
 refine pO Tryz.func313 λr h _ _=>?_
 refine S4 2 J<|c7<|S3 1 J<|cA h V3 J J λv1 _ h=>yN ?_
 refine cN h (λhc h=>?_) λhc h=>?_
 ·refine S4 2 J ?_
  refine b7 ?_
  cases h
  exact f2
 ·refine c4 ?_
  refine S3 1 J<|y0 J (c8y J J J)<|S2 3 J<|b7 ?_
  cases h
  exact f2

theorem b4P{a0}:PO Tryz.prog 272 [.I a0] (a61 a0) λr=>.I r:=by
 refine pO Tryz.func272 λr h _ _=>?_
 refine S4 1 J<|S3 1 J<|cA h a8N J J λv1 _ h=>S2 5 J<|S4 2 J<|b7 ?_
 cases h
 exact f1

theorem a58{a0 a1 a2}:PO Tryz.prog 269 [g6.Pv a0,.I a1,l4.Pv a2] (H9 a0 a1 a2) λr=>.tup [g6.Pv r.1,.I r.2]:=by
 refine pO Tryz.func269 λr h _ _=>?_
 refine S4 4 J<|S3 2 J<|cA h E0 J J λv1 _ h=>S2 5 J<|c7<|S4 2 J ?_
 refine cN h (λhc h=>?_) λhc h=>?_
 ·refine S4 4 J ?_
  refine b7 ?_
  cases h
  exact⟨J,[_,_],⟨oL J J J Ty.a24 Ty.s24 nl J,⟨J,tr⟩⟩,J,io⟩
 ·refine c4 ?_
  refine S3 3 J<|iL h J J Ty.e22 Ty.a4K λv2 _ h=>S2 3 J<|S4 3 J<|S3 3 J<|cF h G3 J J λv3 _ h=>S2 2 J<|b7 ?_
  cases h
  exact⟨J,[_,_],⟨oL J J J Ty.a24 Ty.s24 nl J,⟨J,tr⟩⟩,J,io⟩

theorem Y6{a0 a1 a2}:PO Tryz.prog 194 [a8.Pv a0,.I a1,l4.Pv a2] (I0 a0 a1 a2) λr=>.tup [a8.Pv r.1,.I r.2]:=by
 refine pO Tryz.func194 λr h _ _=>?_
 refine S4 4 J<|S4 1 J<|S3 4 J<|cF h a58 J J λv1 _ h=>S2 6 J<|S4 4 J<|b7 ?_
 cases h
 exact⟨J,[_,_],⟨oL J J J Ty.a26 Ty.s26 nl J,⟨J,tr⟩⟩,J,io⟩

theorem a23{a0 a1}:PO Tryz.prog 271 [b9.Pv a0,.I a1,.fn (.func 272) []] (O8 a0 a1) λr=>b9.Pv r:=by
 refine pO Tryz.func271 λr h _ _=>?_
 refine S4 2 J<|S3 3 J<|cF h A7 J J λv1 _ h=>S2 6 J<|c7<|S4 2 J ?_
 refine cN h (λhc h=>?_) λhc h=>?_
 ·refine S3 3 J ?_
  refine cA h b4P J J λv2 _ h=>S2 2 J<|S5 4 J<|cF h Y6 J J λv3 _ h=>S2 5 J<|S4 2 J<|b7 ?_
  cases h
  exact⟨J,[_],⟨oL J J J Ty.X6 Ty.P8 nl J,tr⟩,J,io⟩
 ·refine c4 ?_
  refine S4 2 J<|b7 ?_
  cases h
  exact⟨J,[_],⟨oL J J J Ty.X6 Ty.P8 nl J,tr⟩,J,io⟩

theorem a0R{a0 a1}:PO Tryz.prog 196 [b9.Pv a0,.I a1] (V5 a0 a1) λr=>b9.Pv r:=by
 refine pO Tryz.func196 λr h _ _=>?_
 refine S4 2 J<|S3 2 J<|cF h a23 J J λv1 _ h=>S2 1 J<|b7 ?_
 cases h
 exact⟨J,[_],⟨oL J J J Ty.X6 Ty.P8 nl J,tr⟩,J,io⟩

theorem a0h{a0}:PON Tryz.prog 155 [.L iF a0] (F0 a0) λr=>⟨List.map iF r,0,true,1,true⟩:=by
 refine pON Tryz.func155 λr h _ _=>?_
 unfold F0 at h
 refine S4 1 J<|c7<|S3 1 J<|b6b J Ty.A5 λb hb=>yN ?_
 refine G1 b J (λhc=>?_) (λhc=>?_)
 ·obtain rfl:a0 = []:=by simpa using hb hc
  refine S4 1 J<|a2u (F2 (t:=2) (l:=920000) (z:=1) J J)<|b7 ?_
  cases h
  exact⟨J,_,_,J,J,J,J⟩
 ·refine c4 ?_
  refine sR<|y0 J (B3 J Ty.A5 Ty.s3)<|S1 1 J<|y1 J (a5T (f:=iF) h J J (.inl ⟨_,J,J⟩) Ty.A5 Ty.s3 Ty.b3 Ty.z3 J (λ_=>J)) J<|S2 1 J<|b7 ?_
  exact⟨J,_,_,J,J,J,J⟩

theorem a54{a0 a1}:PO Tryz.prog 306 [F8.Pv a0,b9.Pv a1] (Q8 a0 a1) λr=>b9.Pv r:=by
 refine pO Tryz.func306 λr h _ _=>?_
 unfold Q8 at h
 refine S4 3 J<|S3 2 J<|r8 h λv1 hv1 h=>ycN J (b4u J a0h J hv1) J J<|S2 2 J<|S3 6 J<|r8 h λv2 hv2 h=>y0 J (Z0 (f:=iF) hv2 J J J J Ty.A5 Ty.s3 J)<|a3s (f:=iF) (v:=a0.h) hv2 J J (.inl J) Ty.s3<|yN<|S4 2 J<|b7 ?_
 cases h
 exact⟨J,[_],⟨oL J J J Ty.X6 Ty.P8 nl J,tr⟩,J,io⟩

theorem a7E{a0}:PO Tryz.prog 318 [.I a0] (a1m a0) λr=>.tup [.I r.1,.I r.2]:=by
 refine pO Tryz.func318 λr h _ _=>?_
 refine S4 2 J<|c7<|S3 1 J<|cA h V3 J J λv1 _ h=>yN ?_
 refine cN h (λhc h=>?_) λhc h=>?_
 ·refine S4 2 J ?_
  refine b7 ?_
  cases h
  exact f2
 ·refine c4 ?_
  refine c7<|S4 2 J ?_
  refine cN h (λhc h=>?_) λhc h=>?_
  ·refine S4 2 J ?_
   refine b7 ?_
   cases h
   exact f2
  ·refine c4 ?_
   refine S4 4 J<|b7 ?_
   cases h
   exact f2

theorem b4O{a0}:PO Tryz.prog 279 [.I a0] (b0a a0) λr=>.tup [.I r.1,.I r.2]:=by
 refine pO Tryz.func279 λr h _ _=>?_
 refine S4 2 J<|S3 1 J<|cA h a7E J J λv1 _ h=>S2 5 J<|S4 4 J<|b7 ?_
 cases h
 exact f2

theorem a83{a0}:PO Tryz.prog 278 [.I a0] (a0Q a0) λr=>.I r:=by
 refine pO Tryz.func278 λr h _ _=>?_
 refine S4 1 J<|S3 1 J<|cA h b4O J J λv1 _ h=>S2 5 J<|c7<|S4 2 J ?_
 refine cN h (λhc h=>?_) λhc h=>?_
 ·refine S4 2 J ?_
  refine b7 ?_
  cases h
  exact f1
 ·refine c4 ?_
  refine S4 2 J<|b7 ?_
  cases h
  exact f1

theorem a1e{a0 a1}:PO Tryz.prog 271 [b9.Pv a0,.I a1,.fn (.func 278) []] (J8 a0 a1) λr=>b9.Pv r:=by
 refine pO Tryz.func271 λr h _ _=>?_
 refine S4 2 J<|S3 3 J<|cF h A7 J J λv1 _ h=>S2 6 J<|c7<|S4 2 J ?_
 refine cN h (λhc h=>?_) λhc h=>?_
 ·refine S3 3 J ?_
  refine cA h a83 J J λv2 _ h=>S2 2 J<|S5 4 J<|cF h Y6 J J λv3 _ h=>S2 5 J<|S4 2 J<|b7 ?_
  cases h
  exact⟨J,[_],⟨oL J J J Ty.X6 Ty.P8 nl J,tr⟩,J,io⟩
 ·refine c4 ?_
  refine S4 2 J<|b7 ?_
  cases h
  exact⟨J,[_],⟨oL J J J Ty.X6 Ty.P8 nl J,tr⟩,J,io⟩

theorem a0m{a0 a1}:PO Tryz.prog 203 [b9.Pv a0,.I a1] (D7 a0 a1) λr=>b9.Pv r:=by
 refine pO Tryz.func203 λr h _ _=>?_
 refine S4 2 J<|S3 2 J<|cF h a1e J J λv1 _ h=>S2 1 J<|b7 ?_
 cases h
 exact⟨J,[_],⟨oL J J J Ty.X6 Ty.P8 nl J,tr⟩,J,io⟩

theorem a0s{a0 a1 a2 a3}:PO Tryz.prog 259 [b9.Pv a0,.I a1,.I a2,.abs (BFn 306 [F8.Pv a3])] (H2 a0 a1 a2 a3) λr=>b9.Pv r:=by
 refine pO Tryz.func259 λr h _ _=>?_
 refine S4 2 J<|S3 3 J<|cF h a0R J J λv1 _ h=>r8 h λv2 hv2 h=>b6a (xs:=[b9.Pv v1]) J J Ty.c92 J (a54.2 _ hv2)<|S1 1 J<|cF h a0m J J λv3 _ h=>S2 1 J<|b7 ?_
 cases h
 exact⟨J,[_],⟨oL J J J Ty.X6 Ty.P8 nl J,tr⟩,J,io⟩

theorem b47{a0 a1 a2}:PO Tryz.prog 257 [b9.Pv a0,.I a1,.I a2] (a7b a0 a1 a2) λr=>.tup [b9.Pv r.1,.I r.2]:=by
 refine pO Tryz.func257 λr h _ _=>?_
 refine S4 3 J<|c7<|S3 3 J<|g7 J (λhg=>mI J)<|g7 J (λhg=>oF J Ty.b6u J)<|g7 J (λhg=>oS (ct hg) J J Ty.a27 J)<|g7 J (λhg=>L5 (f:=iF) (ct hg) Ty.A5)<|g7 J (λhg=>n9 (ct hg) (ct hg) J)<|y0 J (u9 J J J (λq=>R8 q))<|yN ?_
 refine cN h (λhc h=>?_) λhc h=>?_
 ·refine S4 3 J ?_
  refine b7 ?_
  cases h
  exact⟨J,[_,_],⟨oL J J J Ty.X6 Ty.P8 nl J,⟨J,tr⟩⟩,J,io⟩
 ·refine c4 ?_
  refine c7<|S3 2 J<|cA h L6 J J λv1 _ h=>S2 1 J ?_
  refine cN h (λhc h=>?_) λhc h=>?_
  ·refine S4 3 J ?_
   refine b7 ?_
   cases h
   exact⟨J,[_,_],⟨oL J J J Ty.X6 Ty.P8 nl J,⟨J,tr⟩⟩,J,io⟩
  ·refine c4 ?_
   refine dr [] Ty.U9 (by kernel_rfl) (by kernel_rfl)<|S7 4 J<|r8 h λv2 hv2 h=>d0 J (y5 (f:=iF) (cs:=[.I v2]) hv2 J J Ty.A5 Ty.s3 J J) J<|S7 4 J<|d7 J (λ_ hN=>m9 (cs:=[.I a1,.I a2]) J Ty.d0b Ty.d0z J J J) J<|d7 J (λ_ hN=>b0t (d:=.agg [.I a1,.I a2]) J) J<|r8 h λv3 hv3 h=>d2f J (y4 J a0s J hv3) J<|G9 (x':=b9.Pv v3) (cl':=true) J J (.inr J) Ty.P8<|S8 1 J<|b7 ?_
   cases h
   exact⟨J,[_,_],⟨oL J J J Ty.X6 Ty.P8 nl J,⟨J,tr⟩⟩,J,io⟩

theorem E7{a0 a1 a2}:PO Tryz.prog 186 [o8.Pv a0,.I a1,.I a2] (z8 a0 a1 a2) λr=>.tup [b9.Pv r.1,.I r.2]:=by
 refine pO Tryz.func186 λr h _ _=>?_
 refine S4 3 J<|c7<|S4 2 J ?_
 refine cN h (λhc h=>?_) λhc h=>?_
 ·refine S4 5 J ?_
  refine b7 ?_
  cases h
  exact⟨J,[_,_],⟨oL J J J Ty.X6 Ty.P8 nl J,⟨J,tr⟩⟩,J,io⟩
 ·refine c4 ?_
  refine S3 6 J<|cF h b47 J J λv1 _ h=>S2 4 J<|b7 ?_
  cases h
  exact⟨J,[_,_],⟨oL J J J Ty.X6 Ty.P8 nl J,⟨J,tr⟩⟩,J,io⟩

theorem a0Z{a0}:PO Tryz.prog 96 [o8.Pv a0] (N8 a0) λr=>.tup [b9.Pv r.1,.I r.2]:=by
 refine pO Tryz.func96 λr h _ _=>?_
 refine S4 3 J<|S3 9 J<|cF h b35 J J λv1 _ h=>S2 8 J<|c7<|S4 2 J ?_
 refine cN h (λhc h=>?_) λhc h=>?_
 ·refine S4 5 J ?_
  refine b7 ?_
  cases h
  exact⟨J,[_,_],⟨oL J J J Ty.X6 Ty.P8 nl J,⟨J,tr⟩⟩,J,io⟩
 ·refine c4 ?_
  refine S4 4 J<|S3 2 J<|cF h E7 J J λv2 _ h=>S2 4 J<|b7 ?_
  cases h
  exact⟨J,[_,_],⟨oL J J J Ty.X6 Ty.P8 nl J,⟨J,tr⟩⟩,J,io⟩

theorem K2{a0 a1}:PO Tryz.prog 59 [b9.Pv a0,.I a1] (I3 a0 a1) λr=>.I r:=by
 refine pO Tryz.func59 λr h _ _=>?_
 refine S4 2 J<|c7<|S3 3 J<|g7 J (λhg=>mI J)<|g7 J (λhg=>oF J Ty.b6u J)<|g7 J (λhg=>oS (ct hg) J J Ty.a27 J)<|g7 J (λhg=>L5 (f:=iF) (ct hg) Ty.A5)<|g7 J (λhg=>n9 (ct hg) (ct hg) J)<|y0 J (u9 J J J (λq=>R8 q))<|yN ?_
 refine cN h (λhc h=>?_) λhc h=>?_
 ·refine S4 1 J ?_
  refine b7 ?_
  cases h
  exact f1
 ·refine c4 ?_
  refine S3 3 J<|iL h J J Ty.A5 Ty.s3 λv1 _ h=>S2 2 J<|b7 ?_
  cases h
  exact f1

theorem Y9{a0}:PO Tryz.prog 97 [o8.Pv a0] (G0 a0) λr=>.tup [b9.Pv r.1,.I r.2]:=by
 refine pO Tryz.func97 λr h _ _=>?_
 unfold G0 at h
 refine S4 3 J<|dr [] Ty.U9 (by kernel_rfl) (by kernel_rfl)<|S7 6 J<|r8 h λv1 hv1 h=>d2 J (C6 J K2 J hv1) J<|r8 h λv2 hv2 h=>d2f J (y4 J E7 J hv2) J<|S7 2 J<|G9 (x':=b9.Pv v2.1) (cl':=true) J J (.inr J) Ty.P8<|S8 1 J<|b7 ?_
 cases h
 exact⟨J,[_,_],⟨oL J J J Ty.X6 Ty.P8 nl J,⟨J,tr⟩⟩,J,io⟩

theorem a1Z{a0}:PO Tryz.prog 98 [o8.Pv a0] (U6 a0) λr=>.tup [b9.Pv r.1,.I r.2]:=by
 refine pO Tryz.func98 λr h _ _=>?_
 refine S4 3 J<|S3 1 J<|cF h E7 J J λv1 _ h=>S2 4 J<|b7 ?_
 cases h
 exact⟨J,[_,_],⟨oL J J J Ty.X6 Ty.P8 nl J,⟨J,tr⟩⟩,J,io⟩

theorem M4{a0 a1}:PO Tryz.prog 187 [b9.Pv a0,.I a1] (I7 a0 a1) λr=>.tup [.I r.1,.I r.2]:=by
 refine pO Tryz.func187 λr h _ _=>?_
 refine S4 3 J<|S3 2 J<|cA h K2 J J λv1 _ h=>S2 1 J<|c7<|S4 2 J ?_
 refine cN h (λhc h=>?_) λhc h=>?_
 ·refine S4 2 J ?_
  refine b7 ?_
  cases h
  exact f2
 ·refine c4 ?_
  refine S4 3 J<|b7 ?_
  cases h
  exact f2

theorem b3z{a0 a1}:PO Tryz.prog 307 [.L iF a0,.I a1] (a5K a0 a1) λr=>.bool r:=by
 refine pO Tryz.func307 λr h _ _=>?_
 unfold a5K at h
 refine S4 1 J<|S3 3 J<|g7 J (λhg=>mI J)<|g7 J (λhg=>om (d:=.L iF a0) J)<|g7 J (λhg=>L5 (f:=iF) (ct hg) Ty.A5)<|g7 J (λhg=>n9 (ct hg) (ct hg) J)<|y0 J (p5 J J J (λq=>Q1 q))<|S2 1 J<|b7 ?_
 cases h
 exact f1

theorem c0V{a0 a1}:PO Tryz.prog 258 [.L iF a0,.I a1] (b0W a0 a1) λr=>.tup [.I r.1,.I r.2]:=by
 refine pO Tryz.func258 λr h _ _=>?_
 refine S4 2 J<|c7<|S3 2 J<|cA h b3z J J λv1 _ h=>S2 1 J ?_
 refine cN h (λhc h=>?_) λhc h=>?_
 ·refine S4 2 J ?_
  refine b7 ?_
  cases h
  exact f2
 ·refine c4 ?_
  refine S3 2 J<|iL h J J Ty.A5 Ty.s3 λv2 _ h=>S2 3 J<|b7 ?_
  cases h
  exact f2

theorem a6X{a0 a1 a2}:PO Tryz.prog 188 [a8.Pv a0,.I a1,.I a2] (X0 a0 a1 a2) λr=>.tup [.I r.1,.I r.2]:=by
 refine pO Tryz.func188 λr h _ _=>?_
 refine S4 3 J<|S3 2 J<|cF h A7 J J λv1 _ h=>S2 6 J<|c7<|S4 2 J ?_
 refine cN h (λhc h=>?_) λhc h=>?_
 ·refine S4 3 J ?_
  refine b7 ?_
  cases h
  exact f2
 ·refine c4 ?_
  refine S3 3 J<|cA h c0V J J λv2 _ h=>S2 4 J<|b7 ?_
  cases h
  exact f2

theorem a10{a0}:PO Tryz.prog 99 [o8.Pv a0] (U7 a0) λr=>.tup [b9.Pv r.1,.I r.2]:=by
 refine pO Tryz.func99 λr h _ _=>?_
 refine S4 3 J<|S3 5 J<|cA h M4 J J λv1 _ h=>S2 5 J<|c7<|S4 2 J ?_
 refine cN h (λhc h=>?_) λhc h=>?_
 ·refine S4 5 J ?_
  refine b7 ?_
  cases h
  exact⟨J,[_,_],⟨oL J J J Ty.X6 Ty.P8 nl J,⟨J,tr⟩⟩,J,io⟩
 ·refine c4 ?_
  refine dr [] Ty.U9 (by kernel_rfl) (by kernel_rfl)<|S7 8 J<|r8 h λv2 hv2 h=>d2 J (C6 J a6X J hv2) J<|S7 2 J<|r8 h λv3 hv3 h=>d2f J (y4 J E7 J hv3) J<|S7 2 J<|G9 (x':=b9.Pv v3.1) (cl':=true) J J (.inr J) Ty.P8<|S8 1 J<|b7 ?_
  cases h
  exact⟨J,[_,_],⟨oL J J J Ty.X6 Ty.P8 nl J,⟨J,tr⟩⟩,J,io⟩

theorem b7x{a0 a1 a2}:PO Tryz.prog 329 [.L iF a0,.I a1,.I a2] (b3y a0 a1 a2) λr=>.tup [.L iF r.1,.I r.2]:=by
 refine pO Tryz.func329 λr h _ _=>?_
 refine S4 2 J<|c7<|S3 2 J<|cA h b3z J J λv1 _ h=>S2 1 J ?_
 refine cN h (λhc h=>?_) λhc h=>?_
 ·refine S4 3 J ?_
  refine b7 ?_
  cases h
  exact f2
 ·refine c4 ?_
  refine S3 1 J<|nL J Ty.A5<|r8 h λv2 hv2 h=>y1 J (b1x (f:=iF) hv2 J J J Ty.A5 Ty.s3 Ty.z3 Ty.b3 J J J) J<|S2 1 J<|S3 2 J<|r8 h λv3 hv3 h=>c82 (f:=iF) hv3 J J J (.inl ⟨_,J,J⟩) Ty.A5 Ty.s3 (λ_=>J) (by decide)<|yN<|S3 3 J<|r8 h λv4 hv4 h=>y0 J (Z0 (f:=iF) hv4 J J J J Ty.A5 Ty.s3 J)<|a3s (f:=iF) (v:=a2) hv4 J J (.inl J) Ty.s3<|yN<|S4 3 J<|b7 ?_
  cases h
  exact f2

theorem b5U{a0 a1 a2 a3}:PO Tryz.prog 308 [a8.Pv a0,.I a1,.I a2,.I a3] (a7r a0 a1 a2 a3) λr=>.tup [a8.Pv r.1,.I r.2]:=by
 refine pO Tryz.func308 λr h _ _=>?_
 refine S4 3 J<|S3 2 J<|cF h A7 J J λv1 _ h=>S2 6 J<|c7<|S4 2 J ?_
 refine cN h (λhc h=>?_) λhc h=>?_
 ·refine S4 4 J ?_
  refine b7 ?_
  cases h
  exact⟨J,[_,_],⟨oL J J J Ty.a26 Ty.s26 nl J,⟨J,tr⟩⟩,J,io⟩
 ·refine c4 ?_
  refine c7<|S3 4 J<|cF h b7x J J λv2 _ h=>S2 6 J<|S4 2 J ?_
  refine cN h (λhc h=>?_) λhc h=>?_
  ·refine S4 4 J ?_
   refine b7 ?_
   cases h
   exact⟨J,[_,_],⟨oL J J J Ty.a26 Ty.s26 nl J,⟨J,tr⟩⟩,J,io⟩
  ·refine c4 ?_
   refine S3 3 J<|cF h Y6 J J λv3 _ h=>S2 4 J<|b7 ?_
   cases h
   exact⟨J,[_,_],⟨oL J J J Ty.a26 Ty.s26 nl J,⟨J,tr⟩⟩,J,io⟩

theorem a5g{a0 a1}:PO Tryz.prog 260 [E5.Pv a0,b9.Pv a1] (Z3 a0 a1) λr=>b9.Pv r:=by
 refine pO Tryz.func260 λr h _ _=>?_
 refine S4 3 J<|S3 8 J<|cF h b5U J J λv1 _ h=>S2 5 J<|S4 2 J<|b7 ?_
 cases h
 exact⟨J,[_],⟨oL J J J Ty.X6 Ty.P8 nl J,tr⟩,J,io⟩

theorem a0a{a0 a1 a2 a3}:PO Tryz.prog 259 [b9.Pv a0,.I a1,.I a2,.abs (BFn 260 [E5.Pv a3])] (F9 a0 a1 a2 a3) λr=>b9.Pv r:=by
 refine pO Tryz.func259 λr h _ _=>?_
 refine S4 2 J<|S3 3 J<|cF h a0R J J λv1 _ h=>r8 h λv2 hv2 h=>b6a (xs:=[b9.Pv v1]) J J Ty.c90 J (a5g.2 _ hv2)<|S1 1 J<|cF h a0m J J λv3 _ h=>S2 1 J<|b7 ?_
 cases h
 exact⟨J,[_],⟨oL J J J Ty.X6 Ty.P8 nl J,tr⟩,J,io⟩

theorem b3T{a0 a1 a2 a3}:PO Tryz.prog 189 [b9.Pv a0,.I a1,.I a2,.I a3] (a1o a0 a1 a2 a3) λr=>.tup [b9.Pv r.1,.I r.2]:=by
 refine pO Tryz.func189 λr h _ _=>?_
 refine S4 3 J<|S3 4 J<|cA h a6X J J λv1 _ h=>S2 5 J<|c7<|S4 2 J ?_
 refine cN h (λhc h=>?_) λhc h=>?_
 ·refine S4 4 J ?_
  refine b7 ?_
  cases h
  exact⟨J,[_,_],⟨oL J J J Ty.X6 Ty.P8 nl J,⟨J,tr⟩⟩,J,io⟩
 ·refine c4 ?_
  refine c7<|S3 2 J<|cA h L6 J J λv2 _ h=>S2 1 J ?_
  refine cN h (λhc h=>?_) λhc h=>?_
  ·refine S4 3 J ?_
   refine b7 ?_
   cases h
   exact⟨J,[_,_],⟨oL J J J Ty.X6 Ty.P8 nl J,⟨J,tr⟩⟩,J,io⟩
  ·refine c4 ?_
   refine S3 6 J<|y0 J (m9 (cs:=[.I a1,.I a2,.I a3]) J Ty.c99 Ty.d0x J J J)<|y0 J (b0t (d:=.agg [.I a1,.I a2,.I a3]) J)<|cF h a0a J J λv3 _ h=>S2 2 J<|b7 ?_
   cases h
   exact⟨J,[_,_],⟨oL J J J Ty.X6 Ty.P8 nl J,⟨J,tr⟩⟩,J,io⟩

theorem a1j{a0}:PO Tryz.prog 100 [o8.Pv a0] (Q9 a0) λr=>.tup [b9.Pv r.1,.I r.2]:=by
 refine pO Tryz.func100 λr h _ _=>?_
 refine S4 3 J<|S3 5 J<|cA h M4 J J λv1 _ h=>S2 5 J<|c7<|S4 2 J ?_
 refine cN h (λhc h=>?_) λhc h=>?_
 ·refine S4 5 J ?_
  refine b7 ?_
  cases h
  exact⟨J,[_,_],⟨oL J J J Ty.X6 Ty.P8 nl J,⟨J,tr⟩⟩,J,io⟩
 ·refine c4 ?_
  refine dr [] Ty.U9 (by kernel_rfl) (by kernel_rfl)<|S7 11 J<|r8 h λv2 hv2 h=>d2 J (C6 J K2 J hv2) J<|r8 h λv3 hv3 h=>d2f J (y4 J b3T J hv3) J<|S7 2 J<|G9 (x':=b9.Pv v3.1) (cl':=true) J J (.inr J) Ty.P8<|S8 1 J<|b7 ?_
  cases h
  exact⟨J,[_,_],⟨oL J J J Ty.X6 Ty.P8 nl J,⟨J,tr⟩⟩,J,io⟩

theorem b3u{a0 a1}:PO Tryz.prog 253 [g9.Pv a0,.I a1] (a7s a0 a1) λr=>.fn (.func 303) [.rptr (g9.Pc r.1),.rptr [.I r.2]]:=by
 refine pO Tryz.func253 λr h _ _=>?_
 unfold a7s at h
 refine S4 3 J<|S4 2 J<|b7 ?_
 cases h
 exact f1

theorem b36{a0 a1}:PO Tryz.prog 261 [g9.Pv a0,.I a1] (a3p a0 a1) λr=>.bool r:=by
 refine pO Tryz.func261 λr h _ _=>?_
 refine S4 3 J ?_
 refine jq h (λ_=>St.of [(4,.ptr 2001 0 0)] [(2001,vR (.bool false) 1)]) (λq7 h=>?_) λκ6 h=>?_
 ·refine S4 1 J ?_
  refine b7 ?_
  cases h
  exact⟨J,[_],⟨oS J J J Ty.a4 J,tr⟩,J,io⟩
 ·refine S3 1 J ?_
  refine cF h b3u J J λv8 _ h=>yN<|g8<|a2u (WPE (λl=>if l=2003 then 4 else if l=2004 then 3 else l) [(3,.ptr 2004 0 0),(4,.ptr 2003 0 0),(7,.fn (.func 303) [.rptr (g9.Pc v8.1),.rptr [.I v8.2]])] [(2003,vR (.bool false) 1),(2004,vR (.I a1) 1)]) ?_
  refine a0b (fn:=Tryz.f303) (N1:=24) J Tryz.func303 J J nl J Ty.c8h J J (λl16 e17 o18 hR19=>?_)
  refine S3 2 J<|nL J Ty.e30<|S2 1 J<|g8<|lq h (λs10=>St.of [(1000003,.ptr 2004 0 0),(1000004,.ptr 2003 0 0),(1000007,.fn (.func 303) [.rptr (g9.Pc v8.1),.rptr [.I v8.2]]),(0,.fn (.yield l16) []),(2,.rptr [.I v8.2]),(7,.L j2.Pv v8.1.L),(8,.I (v8.1.L.length:Int)),(9,.I s10)] [(2003,vR (.bool false) 1),(2004,vR (.I a1) 1)]) W λs10 x11 h hx22=>S4 1 J<|c7 ?_
  refine cN h (λhc h=>?_) λhc h=>?_
  ·refine c4 ?_
   refine c7<|g8<|sR<|iL h J J Ty.e30 Ty.b32 λv12 _ h=>S2 3 J<|S3 5 J<|g7 J (λhg=>om (d:=.fn (.yield l16) []) J)<|g7 J (λhg=>oL J J J Ty.c5O Ty.b32 nl J) ?_
   rcases Bool.eq_false_or_eq_true ((v12.Kind==v8.2)==true) with hg24 | hg24
   ·have h:=ifT h hg24
    refine L4 (WE [(1000003,.ptr 2004 0 0),(1000004,.ptr 2003 0 0),(1000007,.fn (.func 303) [.rptr (g9.Pc v8.1),.rptr [.I v8.2]]),(0,.fn (.yield l16) []),(2,.rptr [.I v8.2]),(7,.L j2.Pv v8.1.L),(8,.I (v8.1.L.length:Int)),(9,.I s10),(17,.bool (v12.Kind==v8.2)),(18,.fn (.yield l16) []),(19,j2.Pv v12)] [(2003,vR (.bool false) 1),(2004,vR (.I a1) 1)]) ?_
    refine a3Z hR19 (congrArg some hg24) J J J J J (λe25 o26 o27=>?_)
    refine S6 2 J ?_
    refine⟨J,?_⟩
    refine g8<|S4 4 J ?_
    refine cN h (λhc h=>?_) λhc h=>?_
    ·refine S4 1 J ?_
     refine b7 ?_
     refine⟨J,?_⟩
     refine L4 (WE [(1000003,.ptr 2004 0 0),(1000004,.ptr 2003 0 0),(1000007,.fn (.func 303) [.rptr (g9.Pc v8.1),.rptr [.I v8.2]]),(0,.fn (.yield l16) []),(2,.rptr [.I v8.2]),(7,.L j2.Pv v8.1.L),(8,.I (v8.1.L.length:Int)),(9,.I s10),(17,.bool (v12.Kind==v8.2)),(20,.bool false)] [(2003,vR (.bool true) 1),(2004,vR (.I a1) 1)])<|y0 (congrArg some hg24) (a01 J J)<|y0 J (a7g J J hg24)<|yN ?_
     refine G1 true J (λ_=>?_) (λq=>nomatch q)
     refine b7 ?_
     refine .inr ⟨.ret,J,c31 ?_⟩
     have h:=xL hx22 h
     cases h
     exact⟨J,[_],⟨oS J J J Ty.a4 J,tr⟩,J,io⟩
    ·refine c4 ?_
     refine⟨J,?_⟩
     refine L4 (WE [(1000003,.ptr 2004 0 0),(1000004,.ptr 2003 0 0),(1000007,.fn (.func 303) [.rptr (g9.Pc v8.1),.rptr [.I v8.2]]),(0,.fn (.yield l16) []),(2,.rptr [.I v8.2]),(7,.L j2.Pv v8.1.L),(8,.I (v8.1.L.length:Int)),(9,.I s10),(17,.bool (v12.Kind==v8.2)),(20,.bool true)] [(2003,vR (.bool false) 1),(2004,vR (.I a1) 1)])<|y0 (congrArg some hg24) (a01 J J)<|y0 J (a7g J J hg24)<|yN ?_
     refine G1 false J (λq=>nomatch q) (λ_=>?_)
     refine c4<|S6 2 J ?_
     exact eL h W
   ·have h:=ifF h hg24
    refine a1d (congrArg some hg24)<|a1d (congrArg some hg24)<|y0 J (a7f J J hg24)<|yN ?_
    refine G1 false J (λq=>nomatch q) (λ_=>?_)
    refine c4<|S6 2 J ?_
    exact eL h W
  ·refine n7 ?_
   refine c8<|c8<|j5 ?_
   refine .inl ⟨J,?_⟩
   have h:=xL hx22 h
   exact eJ h (WP (λl=>if l=2001 then 2003 else l))

theorem b1m{a0 a1}:PO Tryz.prog 265 [.L c9.Pv a0,.I a1] (a4T a0 a1) λr=>.bool r:=by
 refine pO Tryz.func265 λr h _ _=>?_
 unfold a4T at h
 refine S4 1 J<|S3 3 J<|g7 J (λhg=>mI J)<|g7 J (λhg=>om (d:=.L c9.Pv a0) J)<|g7 J (λhg=>L5 (f:=c9.Pv) (ct hg) Ty.e28)<|g7 J (λhg=>n9 (ct hg) (ct hg) J)<|y0 J (p5 J J J (λq=>Q1 q))<|S2 1 J<|b7 ?_
 cases h
 exact f1

theorem a5X{a0}:PON Tryz.prog 309 [.L c9.Pv a0] (X5 a0) λr=>⟨List.map c9.Pv r,0,true,3,true⟩:=by
 refine pON Tryz.func309 λr h _ _=>?_
 unfold X5 at h
 refine S4 1 J<|S3 1 J<|nL J Ty.e28<|r8 h λv1 hv1 h=>y1 J (b1x (f:=c9.Pv) hv1 J J J Ty.e28 Ty.s84 Ty.z84 Ty.b84 J J J) J<|S2 1 J<|S3 2 J<|r8 h λv2 hv2 h=>c82 (f:=c9.Pv) hv2 J J J (.inl ⟨_,J,J⟩) Ty.e28 Ty.s84 (λ_=>J) (by decide)<|yN<|S4 2 J<|b7 ?_
 cases h
 exact⟨J,_,_,J,J,J,J⟩

theorem b7C{a0 a1 a2 a3}:PO Tryz.prog 262 [.L c9.Pv a0,.I a1,.I a2,.I a3] (a92 a0 a1 a2 a3) λr=>.tup [.L c9.Pv r.1,.I r.2.1,.I r.2.2]:=by
 refine pO Tryz.func262 λr h _ _=>?_
 refine S4 3 J<|c7<|S3 2 J<|cA h b1m J J λv1 _ h=>S2 1 J ?_
 refine cN h (λhc h=>?_) λhc h=>?_
 ·refine S4 4 J ?_
  refine b7 ?_
  cases h
  exact f3
 ·refine c4 ?_
  refine S3 1 J<|r8 h λv2 hv2 h=>ycN J (b4u J a5X J hv2) J J<|S2 1 J<|S3 6 J<|y0 J (m9 (cs:=[.I a2,.bool (a2 != 0),.I a3]) J Ty.p84 Ty.z84 J J J)<|r8 h λv3 hv3 h=>y0 J (Z0 (f:=c9.Pv) hv3 J J J J Ty.e28 Ty.s84 J)<|a3s (f:=c9.Pv) (v:=(⟨a2,(a2 != 0),a3⟩:c9)) hv3 J J (.inl J) Ty.s84<|yN<|dr [] Ty.U9 (by kernel_rfl) (by kernel_rfl)<|S7 3 J<|r8 h λv4 hv4 h=>d0 J (y5 (f:=c9.Pv) (cs:=c9.Pc v4) hv4 J J Ty.e28 Ty.s84 J J) J<|S8 5 J<|b7 ?_
  cases h
  exact f3

theorem a6p{a0 a1 a2}:PO Tryz.prog 264 [b9.Pv a0,.I a1,.I a2] (a0z a0 a1 a2) λr=>b9.Pv r:=by
 refine pO Tryz.func264 λr h _ _=>?_
 refine S4 2 J<|S3 4 J<|cA h E0 J J λv1 _ h=>S2 5 J<|c7<|S4 2 J ?_
 refine cN h (λhc h=>?_) λhc h=>?_
 ·refine S3 5 J ?_
  refine iL h J J Ty.e22 Ty.a4K λv2 _ h=>S2 4 J<|S4 6 J<|S5 4 J<|cF h Y6 J J λv3 _ h=>S2 5 J<|S4 2 J<|b7 ?_
  cases h
  exact⟨J,[_],⟨oL J J J Ty.X6 Ty.P8 nl J,tr⟩,J,io⟩
 ·refine c4 ?_
  refine S4 2 J<|b7 ?_
  cases h
  exact⟨J,[_],⟨oL J J J Ty.X6 Ty.P8 nl J,tr⟩,J,io⟩

theorem a1a{a0 a1}:PO Tryz.prog 277 [g6.Pv a0,.I a1] (K6 a0 a1) λr=>.tup [g6.Pv r.1,.I r.2]:=by
 refine pO Tryz.func277 λr h _ _=>?_
 refine S4 3 J<|S3 2 J<|cA h E0 J J λv1 _ h=>S2 5 J<|c7<|S4 2 J ?_
 refine cN h (λhc h=>?_) λhc h=>?_
 ·refine S4 4 J ?_
  refine b7 ?_
  cases h
  exact⟨J,[_,_],⟨oL J J J Ty.a24 Ty.s24 nl J,⟨J,tr⟩⟩,J,io⟩
 ·refine c4 ?_
  refine S3 3 J<|iL h J J Ty.e22 Ty.a4K λv2 _ h=>S2 3 J<|c7<|S4 4 J ?_
  refine cN h (λhc h=>?_) λhc h=>?_
  ·refine S3 3 J ?_
   refine y0 J (m9 (cs:=[.I 3,.I v2.Gen,.I 0,.I 0,.I 0,.I 0,.bool false,.nl]) J Ty.c4x Ty.c0Y J J J)<|cF h G3 J J λv3 _ h=>S2 2 J<|b7 ?_
   cases h
   exact⟨J,[_,_],⟨oL J J J Ty.a24 Ty.s24 nl J,⟨J,tr⟩⟩,J,io⟩
  ·refine c4 ?_
   refine S3 4 J<|y0 J (m9 (cs:=[.I 0,.I (w7 (v2.Gen+1)),.I 0,.I 0,.I 0,.I 0,.bool false,.nl]) J Ty.c4x Ty.c0Y J J J)<|cF h G3 J J λv4 _ h=>S2 2 J<|b7 ?_
   cases h
   exact⟨J,[_,_],⟨oL J J J Ty.a24 Ty.s24 nl J,⟨J,tr⟩⟩,J,io⟩

theorem b0k{a0 a1}:PO Tryz.prog 263 [b9.Pv a0,.I a1] (a1N a0 a1) λr=>b9.Pv r:=by
 refine pO Tryz.func263 λr h _ _=>?_
 refine S4 2 J<|S3 2 J<|cF h a6p J J λv1 _ h=>S2 1 J<|S3 4 J<|cA h E0 J J λv2 _ h=>S2 5 J<|c7<|S4 2 J ?_
 refine cN h (λhc h=>?_) λhc h=>?_
 ·refine S4 2 J ?_
  refine b7 ?_
  cases h
  exact⟨J,[_],⟨oL J J J Ty.X6 Ty.P8 nl J,tr⟩,J,io⟩
 ·refine c4 ?_
  refine c7<|S3 5 J<|iL h J J Ty.e22 Ty.a4K λv3 _ h=>S2 3 J<|S3 4 J<|g7 J (λhg=>oF J Ty.b4X J)<|g7 J (λhg=>oF (ct hg) Ty.b7V J)<|g7 J (λhg=>oS (ct hg) J J Ty.a3 J)<|g7 J (λhg=>n9 (ct hg) J J)<|y0 J (p5 J J J (λq=>Q1 q))<|yN ?_
  refine cN h (λhc h=>?_) λhc h=>?_
  ·refine S5 4 J ?_
   refine cF h a1a J J λv4 _ h=>S2 6 J<|S4 2 J<|b7 ?_
   cases h
   exact⟨J,[_],⟨oL J J J Ty.X6 Ty.P8 nl J,tr⟩,J,io⟩
  ·refine c4 ?_
   refine S4 2 J<|b7 ?_
   cases h
   exact⟨J,[_],⟨oL J J J Ty.X6 Ty.P8 nl J,tr⟩,J,io⟩

theorem a84{a0 a1 a2 a3}:PO Tryz.prog 190 [b9.Pv a0,.I a1,.I a2,.I a3] (Y0 a0 a1 a2 a3) λr=>.tup [b9.Pv r.1,.I r.2]:=by
 refine pO Tryz.func190 λr h _ _=>?_
 unfold Y0 at h
 refine S4 3 J<|c7<|S3 3 J<|g7 J (λhg=>mI J)<|g7 J (λhg=>oF J Ty.b6v J)<|g7 J (λhg=>oS (ct hg) J J Ty.a28 J)<|g7 J (λhg=>L5 (f:=c9.Pv) (ct hg) Ty.e28)<|g7 J (λhg=>n9 (ct hg) (ct hg) J)<|y0 J (u9 J J J (λq=>R8 q))<|S1 1 J<|g7 J (λhg=>oF J Ty.b6w J)<|g7 J (λhg=>oL (ct hg) J J Ty.a32 Ty.s32 nl J)<|g7 J (λhg=>mI J)<|r8 h λv1 hv1 h=>g7 J (λhg=>C6 J b36 (B8 (ct hg) (B8 (ct hg) J)) (F3 hv1 hg))<|y0 J (u9 J J J (λq=>R8 q))<|yN ?_
 refine cN h (λhc h=>?_) λhc h=>?_
 ·refine S4 3 J ?_
  refine b7 ?_
  cases h
  exact⟨J,[_,_],⟨oL J J J Ty.X6 Ty.P8 nl J,⟨J,tr⟩⟩,J,io⟩
 ·refine c4 ?_
  refine c7<|S3 2 J<|cA h L6 J J λv2 _ h=>S2 1 J ?_
  refine cN h (λhc h=>?_) λhc h=>?_
  ·refine S4 3 J ?_
   refine b7 ?_
   cases h
   exact⟨J,[_,_],⟨oL J J J Ty.X6 Ty.P8 nl J,⟨J,tr⟩⟩,J,io⟩
  ·refine c4 ?_
   refine S3 5 J<|cF h b7C J J λv3 _ h=>S2 7 J<|S4 3 J<|S3 2 J<|cF h a6p J J λv4 _ h=>S1 1 J<|cF h b0k J J λv5 _ h=>S2 2 J<|b7 ?_
   cases h
   exact⟨J,[_,_],⟨oL J J J Ty.X6 Ty.P8 nl J,⟨J,tr⟩⟩,J,io⟩

theorem a00{a0}:PO Tryz.prog 101 [o8.Pv a0] (N9 a0) λr=>.tup [b9.Pv r.1,.I r.2]:=by
 refine pO Tryz.func101 λr h _ _=>?_
 refine S4 3 J<|c7<|S4 4 J ?_
 refine cN h (λhc h=>?_) λhc h=>?_
 ·refine S3 8 J ?_
  refine cF h a84 J J λv1 _ h=>S2 4 J<|b7 ?_
  cases h
  exact⟨J,[_,_],⟨oL J J J Ty.X6 Ty.P8 nl J,⟨J,tr⟩⟩,J,io⟩
 ·refine c4 ?_
  refine S3 5 J<|cA h M4 J J λv2 _ h=>S2 5 J<|c7<|S4 2 J ?_
  refine cN h (λhc h=>?_) λhc h=>?_
  ·refine S4 5 J ?_
   refine b7 ?_
   cases h
   exact⟨J,[_,_],⟨oL J J J Ty.X6 Ty.P8 nl J,⟨J,tr⟩⟩,J,io⟩
  ·refine c4 ?_
   refine S3 9 J<|cF h a84 J J λv3 _ h=>S2 4 J<|b7 ?_
   cases h
   exact⟨J,[_,_],⟨oL J J J Ty.X6 Ty.P8 nl J,⟨J,tr⟩⟩,J,io⟩

theorem b58{a0 a1}:PO Tryz.prog 191 [.L c9.Pv a0,.I a1] (a4S a0 a1) λr=>.tup [.I r.1,.I r.2]:=by
 refine pO Tryz.func191 λr h _ _=>?_
 refine S4 2 J<|c7<|S3 2 J<|cA h b1m J J λv1 _ h=>S2 1 J ?_
 refine cN h (λhc h=>?_) λhc h=>?_
 ·refine S4 2 J ?_
  refine b7 ?_
  cases h
  exact f2
 ·refine c4 ?_
  refine c7<|S3 2 J<|iL h J J Ty.e28 Ty.s84 λv2 hv2 h=>S1 4 J<|g7 J (λhg=>om (d:=.L c9.Pv a0) J)<|g7 J (λhg=>mI J)<|g7 J (λhg=>y5 (f:=c9.Pv) (cs:=c9.Pc v2) hv2 (ct hg) (ct hg) Ty.e28 Ty.s84 J J)<|g7 J (λhg=>D2 (ct hg) Ty.c5o J)<|g7 J (λhg=>D4 (ct hg) Ty.a4 J)<|g7 J (λhg=>a01 (ct hg) J)<|y0 J (u9 J J J (λq=>R8 q))<|yN ?_
  refine cN h (λhc h=>?_) λhc h=>?_
  ·refine S4 2 J ?_
   refine b7 ?_
   cases h
   exact f2
  ·refine c4 ?_
   refine S3 2 J<|y0 J (y5 (f:=c9.Pv) (cs:=c9.Pc v2) hv2 J J Ty.e28 Ty.s84 J J)<|S2 4 J<|b7 ?_
   cases h
   exact f2

theorem a3c{a0}:PO Tryz.prog 102 [o8.Pv a0] (R9 a0) λr=>.tup [b9.Pv r.1,.I r.2]:=by
 refine pO Tryz.func102 λr h _ _=>?_
 unfold R9 at h
 refine S4 3 J<|dr [] Ty.U9 (by kernel_rfl) (by kernel_rfl)<|S7 7 J<|r8 h λv1 hv1 h=>d2 J (C6 J b58 J hv1) J<|S7 2 J<|r8 h λv2 hv2 h=>d2f J (y4 J E7 J hv2) J<|S7 2 J<|G9 (x':=b9.Pv v2.1) (cl':=true) J J (.inr J) Ty.P8<|S8 1 J<|b7 ?_
 cases h
 exact⟨J,[_,_],⟨oL J J J Ty.X6 Ty.P8 nl J,⟨J,tr⟩⟩,J,io⟩

theorem a81{a0 a1}:PO Tryz.prog 297 [.I a0,.I a1] (a2J a0 a1) λr=>.fn (.func 323) [.rptr [.I r.1],.rptr [.I r.2]]:=by
 refine pO Tryz.func297 λr h _ _=>?_
 unfold a2J at h
 refine S4 3 J<|S4 2 J<|b7 ?_
 cases h
 exact f1

theorem a8Y{a0 a1}:PO Tryz.prog 324 [.I a0,.I a1] (X9 a0 a1) λr=>.I r:=by
 refine pO Tryz.func324 λr h _ _=>?_
 refine S4 1 J<|c7<|S4 2 J ?_
 refine cN h (λhc h=>?_) λhc h=>?_
 ·refine S4 1 J ?_
  refine b7 ?_
  cases h
  exact f1
 ·refine c4 ?_
  refine S3 4 J<|r8 h λv1 hv1 h=>y0 J (a5U J J hv1)<|S2 1 J<|c7<|S4 2 J ?_
  refine cN h (λhc h=>?_) λhc h=>?_
  ·refine S6 4 J ?_
   refine S4 2 J<|b7 ?_
   cases h
   exact f1
  ·refine c4 ?_
   refine S4 2 J<|b7 ?_
   cases h
   exact f1

theorem a2A{a0 a1}:PO Tryz.prog 242 [.L c5.Pv a0,.I a1] (J3 a0 a1) λr=>.I r:=by
 refine pO Tryz.func242 λr h _ _=>?_
 refine S4 3 J ?_
 refine jq h (λ_=>St.of [(4,.ptr 2001 0 0)] [(2001,vR (.I 0) 1)]) (λq9 h=>?_) λκ8 h=>?_
 ·refine S4 1 J ?_
  refine b7 ?_
  cases h
  exact⟨J,[_],⟨oS J J J Ty.a3 J,tr⟩,J,io⟩
 ·refine S3 1 J ?_
  refine nL J Ty.e29<|S1 1 J<|cF h a81 J J λv10 _ h=>yN<|g8<|a2u (WPE (λl=>if l=2004 then 4 else if l=2005 then 3 else if l=2006 then 2 else l) [(2,.ptr 2006 0 0),(3,.ptr 2005 0 0),(4,.ptr 2004 0 0),(9,.fn (.func 323) [.rptr [.I v10.1],.rptr [.I v10.2]])] [(2004,vR (.I 0) 1),(2005,vR (.I a1) 1),(2006,vR (.L c5.Pv a0) 1)]) ?_
  refine a0b (fn:=Tryz.f323) (N1:=20) J Tryz.func323 J J nl J Ty.c8j J J (λl17 e18 o19 hR20=>?_)
  refine S4 2 J<|g8<|lq h (λs12=>St.of [(1000002,.ptr 2006 0 0),(1000003,.ptr 2005 0 0),(1000004,.ptr 2004 0 0),(1000009,.fn (.func 323) [.rptr [.I v10.1],.rptr [.I v10.2]]),(0,.fn (.yield l17) []),(1,.rptr [.I v10.1]),(2,.rptr [.I v10.2]),(5,.I v10.1),(6,.I s12)] [(2004,vR (.I 0) 1),(2005,vR (.I a1) 1),(2006,vR (.L c5.Pv a0) 1)]) W λs12 x13 h hx23=>S4 1 J<|c7 ?_
  refine cN h (λhc h=>?_) λhc h=>?_
  ·refine c4 ?_
   refine c7<|g8<|S4 2 J<|drY [] 8 Ty.U9 (by kernel_rfl) (by kernel_rfl) (by kernel_rfl) (by kernel_rfl) nl<|S7 3 J<|r8 h λv14 hv24 h=>d2 J (C6 J a8Y J hv24) J<|S7 3 J<|r8 h λv15 hv25 h=>d7 J (λ_ hN=>a5U J J hv25) J<|N6<|c2B (WE [(1000002,.ptr 2006 0 0),(1000003,.ptr 2005 0 0),(1000004,.ptr 2004 0 0),(1000009,.fn (.func 323) [.rptr [.I v10.1],.rptr [.I v10.2]]),(0,.fn (.yield l17) []),(1,.rptr [.I v10.1]),(2,.rptr [.I v10.2]),(5,.I v10.1),(6,.I s12),(9,.fn (.yield l17) []),(16,.I v15)] [(2004,vR (.I 0) 1),(2005,vR (.I a1) 1),(2006,vR (.L c5.Pv a0) 1)]) ?_
   refine b3F J hR20 J J J J J J (λe26 o27 o28=>?_)
   refine S6 1 J ?_
   refine⟨J,?_⟩
   refine g8<|c7<|S3 2 J<|iL h J J Ty.e29 Ty.a8w λv16 hv29 h=>S2 3 J ?_
   refine cN h (λhc h=>?_) λhc h=>?_
   ·refine n7 ?_
    refine c8<|a8J (by decide) ?_
    refine⟨J,?_⟩
    refine⟨_,b3D [(1000002,.ptr 2006 0 0),(1000003,.ptr 2005 0 0),(1000004,.ptr 2004 0 0),(1000009,.fn (.func 323) [.rptr [.I v10.1],.rptr [.I v10.2]]),(0,.fn (.yield l17) []),(1,.rptr [.I v10.1]),(2,.rptr [.I v10.2]),(5,.I v10.1),(6,.I s12),(17,.bool false)] [(2004,vR (.I 0) 1),(2005,vR (.I a1) 1),(2006,vR (.L c5.Pv a0) 1)] ⟨J,J,J,J,J,J,J,J,J,J,J,J,J,J,J,J,J,J,J,J,J,J,J,J,J,J,J,J,J,J,tr⟩ ⟨rS,rS,rS,tr⟩,?_⟩
    refine S8 1 J ?_
    refine G1 true J (λ_=>?_) (λq=>nomatch q)
    refine b7 ?_
    refine .inr ⟨.exit 0,J,c9W ?_⟩
    refine j5 ?_
    have h:=xL hx23 h
    exact eJ h (WP (λl=>if l=2001 then 2004 else l))
   ·refine c4 ?_
    refine dr [] Ty.U9 (by kernel_rfl) (by kernel_rfl)<|S7 2 J<|d0 J (y5 (f:=c5.Pv) (cs:=c5.Pc v16) hv29 J J Ty.e29 Ty.a8w J J) J<|S7 4 J<|K3 J (λhg=>oS J J J Ty.a29 J) J<|D0 J (λhg _ hN=>mI J) J<|K3 J (λhg=>y5 (f:=c5.Pv) (cs:=c5.Pc v16) hv29 (ct hg) (ct hg) Ty.e29 Ty.a8w J J) J<|D0 J (λhg _ hN=>D2 (ct hg) Ty.c1v J) J<|K3 J (λhg=>D4 (ct hg) Ty.a3 J) J<|K3 J (λhg=>oS J J J Ty.a3 J) J<|D0 J (λhg _ hN=>n9 (ct hg) (ct hg) J) J<|d7 J (λ_ hN=>p5 J J J (λq=>Q1 q)) J<|N6 ?_
    refine cN h (λhc h=>?_) λhc h=>?_
    ·refine S4 2 J ?_
     refine b7 ?_
     refine⟨J,?_⟩
     refine⟨_,b3D [(1000002,.ptr 2006 0 0),(1000003,.ptr 2005 0 0),(1000004,.ptr 2004 0 0),(1000009,.fn (.func 323) [.rptr [.I v10.1],.rptr [.I v10.2]]),(0,.fn (.yield l17) []),(1,.rptr [.I v10.1]),(2,.rptr [.I v10.2]),(5,.I v10.1),(6,.I s12),(17,.bool false)] [(2004,vR (.I v15) 1),(2005,vR (.I a1) 1),(2006,vR (.L c5.Pv a0) 1)] ⟨J,J,J,J,J,J,J,J,J,J,J,J,J,J,J,J,J,J,J,J,J,J,J,J,J,J,J,J,J,J,tr⟩ ⟨rS,rS,rS,tr⟩,?_⟩
     refine S8 1 J ?_
     refine G1 true J (λ_=>?_) (λq=>nomatch q)
     refine b7 ?_
     refine .inr ⟨.ret,J,c31 ?_⟩
     have h:=xL hx23 h
     cases h
     exact⟨J,[_],⟨oS J J J Ty.a3 J,tr⟩,J,io⟩
    ·refine c4 ?_
     refine⟨J,?_⟩
     refine⟨_,b3D [(1000002,.ptr 2006 0 0),(1000003,.ptr 2005 0 0),(1000004,.ptr 2004 0 0),(1000009,.fn (.func 323) [.rptr [.I v10.1],.rptr [.I v10.2]]),(0,.fn (.yield l17) []),(1,.rptr [.I v10.1]),(2,.rptr [.I v10.2]),(5,.I v10.1),(6,.I s12),(17,.bool true)] [(2004,vR (.I 0) 1),(2005,vR (.I a1) 1),(2006,vR (.L c5.Pv a0) 1)] ⟨J,J,J,J,J,J,J,J,J,J,J,J,J,J,J,J,J,J,J,J,J,J,J,J,J,J,J,J,J,J,tr⟩ ⟨rS,rS,rS,tr⟩,?_⟩
     refine S8 1 J ?_
     refine G1 false J (λq=>nomatch q) (λ_=>?_)
     refine c4<|S6 2 J ?_
     exact eL h W
  ·refine n7 ?_
   refine c8<|c8<|j5 ?_
   refine .inl ⟨J,?_⟩
   have h:=xL hx23 h
   exact eJ h (WP (λl=>if l=2001 then 2004 else l))

theorem a3G{a0 a1}:PO Tryz.prog 268 [.L c5.Pv a0,.I a1] (I6 a0 a1) λr=>.tup [.I r.1,.I r.2]:=by
 refine pO Tryz.func268 λr h _ _=>?_
 refine S4 2 J<|S3 2 J<|cA h a2A J J λv1 _ h=>S2 1 J<|c7<|S4 2 J ?_
 refine cN h (λhc h=>?_) λhc h=>?_
 ·refine S4 2 J ?_
  refine b7 ?_
  cases h
  exact f2
 ·refine c4 ?_
  refine S3 2 J<|iL h J J Ty.e29 Ty.a8w λv2 _ h=>S2 4 J<|b7 ?_
  cases h
  exact f2

theorem W7{a0}:PON Tryz.prog 331 [.L c5.Pv a0] (C2 a0) λr=>⟨List.map c5.Pv r,0,true,3,true⟩:=by
 refine pON Tryz.func331 λr h _ _=>?_
 unfold C2 at h
 refine S4 1 J<|c7<|S3 1 J<|b6b J Ty.e29 λb hb=>yN ?_
 refine G1 b J (λhc=>?_) (λhc=>?_)
 ·obtain rfl:a0 = []:=by simpa using hb hc
  refine S4 1 J<|a2u (F2 (t:=2) (l:=920000) (z:=3) J J)<|b7 ?_
  cases h
  exact⟨J,_,_,J,J,J,J⟩
 ·refine c4 ?_
  refine sR<|y0 J (B3 J Ty.e29 Ty.a8w)<|S1 1 J<|y1 J (a5T (f:=c5.Pv) h J J (.inl ⟨_,J,J⟩) Ty.e29 Ty.a8w Ty.c7W Ty.c0Z J (λ_=>J)) J<|S2 1 J<|b7 ?_
  exact⟨J,_,_,J,J,J,J⟩

theorem a5c{a0 a1 a2}:PO Tryz.prog 317 [.L c5.Pv a0,.I a1,c5.Pv a2] (a0y a0 a1 a2) λr=>.L c5.Pv r:=by
 refine pO Tryz.func317 λr h _ _=>?_
 unfold a0y at h
 refine S4 2 J<|S3 1 J<|r8 h λv1 hv1 h=>ycN J (b4u J W7 J hv1) J J<|S2 1 J<|S3 3 J<|r8 h λv2 hv2 h=>y0 J (Z0 (f:=c5.Pv) hv2 J J J J Ty.e29 Ty.a8w J)<|a3s (f:=c5.Pv) (v:=a2) hv2 J J (.inl J) Ty.a8w<|yN<|S4 2 J<|b7 ?_
 cases h
 exact f1

theorem a8X{a0 a1}:PO Tryz.prog 275 [.L c5.Pv a0,.I a1] (T2 a0 a1) λr=>.tup [.L c5.Pv r.1,.I r.2.1,.I r.2.2]:=by
 refine pO Tryz.func275 λr h _ _=>?_
 refine S4 3 J<|S3 2 J<|cA h a2A J J λv1 _ h=>S2 1 J<|c7<|S4 2 J ?_
 refine cN h (λhc h=>?_) λhc h=>?_
 ·refine S4 4 J ?_
  refine b7 ?_
  cases h
  exact f3
 ·refine c4 ?_
  refine dr [] Ty.U9 (by kernel_rfl) (by kernel_rfl)<|S7 2 J<|d7 J (λ_ hN=>m9 (cs:=[.I 2,.I 0,.I 0]) J Ty.c4y Ty.c0Z J J J) J<|r8 h λv2 hv2 h=>d2f J (y4 J a5c J hv2) J<|S7 2 J<|r8 h λv3 hv3 h=>d0 J (y5 (f:=c5.Pv) (cs:=c5.Pc v3) hv3 J J Ty.e29 Ty.a8w J J) J<|S8 5 J<|b7 ?_
  cases h
  exact f3

theorem b6E{a0 a1 a2}:PO Tryz.prog 310 [.L c5.Pv a0,.I a1,.I a2] (a6n a0 a1 a2) λr=>.tup [.L c5.Pv r.1,.I r.2]:=by
 refine pO Tryz.func310 λr h _ _=>?_
 refine S4 3 J<|S3 2 J<|y0 J (m9 (cs:=[.I 1,.I a1,.I a2]) J Ty.c4y Ty.c0Z J J J)<|S2 2 J<|c7<|S3 2 J<|cA h a2A J J λv1 _ h=>S2 1 J<|S4 2 J ?_
 refine cN h (λhc h=>?_) λhc h=>?_
 ·refine S3 3 J ?_
  refine cF h a5c J J λv2 _ h=>S2 2 J<|b7 ?_
  cases h
  exact⟨J,[_,_],⟨oS J J J Ty.a29 J,⟨oS J J J Ty.a39 J,tr⟩⟩,J,io⟩
 ·refine c4 ?_
  refine jq h (λ_=>St.of [(3,.ptr 2004 0 0),(6,.ptr 2003 0 0),(7,.ptr 2002 0 0)] [(2002,vR (.I 0) 1),(2003,vR (.nl) 1),(2004,vR (.L c5.Pv a0) 1)]) (λq12 h=>?_) λκ11 h=>?_
  ·refine S4 3 J ?_
   refine b7 ?_
   cases h
   exact⟨J,[_,_],⟨oS J J J Ty.a29 J,⟨oS J J J Ty.a39 J,tr⟩⟩,J,io⟩
  ·refine S3 1 J ?_
   refine nL J Ty.e29<|S1 1 J<|cF h a81 J J λv13 _ h=>yN<|g8<|a2u (WPE (λl=>if l=2005 then 8 else if l=2006 then 7 else if l=2007 then 6 else if l=2008 then 3 else l) [(3,.ptr 2008 0 0),(6,.ptr 2007 0 0),(7,.ptr 2006 0 0),(8,.ptr 2005 0 0),(26,.fn (.func 323) [.rptr [.I v13.1],.rptr [.I v13.2]])] [(2005,vR (.agg [.I 1,.I a1,.I a2]) 3),(2006,vR (.I 0) 1),(2007,vR (.nl) 1),(2008,vR (.L c5.Pv a0) 1)]) ?_
   refine a0b (fn:=Tryz.f323) (N1:=20) J Tryz.func323 J J nl J Ty.c8j J J (λl20 e21 o22 hR23=>?_)
   refine S4 2 J<|g8<|lq h (λs15=>St.of [(1000003,.ptr 2008 0 0),(1000006,.ptr 2007 0 0),(1000007,.ptr 2006 0 0),(1000008,.ptr 2005 0 0),(1000026,.fn (.func 323) [.rptr [.I v13.1],.rptr [.I v13.2]]),(0,.fn (.yield l20) []),(1,.rptr [.I v13.1]),(2,.rptr [.I v13.2]),(5,.I v13.1),(6,.I s15)] [(2005,vR (.agg [.I 1,.I a1,.I a2]) 3),(2006,vR (.I 0) 1),(2007,vR (.nl) 1),(2008,vR (.L c5.Pv a0) 1)]) W λs15 x16 h hx26=>S4 1 J<|c7 ?_
   refine cN h (λhc h=>?_) λhc h=>?_
   ·refine c4 ?_
    refine c7<|g8<|S4 2 J<|drY [] 8 Ty.U9 (by kernel_rfl) (by kernel_rfl) (by kernel_rfl) (by kernel_rfl) nl<|S7 3 J<|r8 h λv17 hv27 h=>d2 J (C6 J a8Y J hv27) J<|S7 3 J<|r8 h λv18 hv28 h=>d7 J (λ_ hN=>a5U J J hv28) J<|N6<|c2B (WE [(1000003,.ptr 2008 0 0),(1000006,.ptr 2007 0 0),(1000007,.ptr 2006 0 0),(1000008,.ptr 2005 0 0),(1000026,.fn (.func 323) [.rptr [.I v13.1],.rptr [.I v13.2]]),(0,.fn (.yield l20) []),(1,.rptr [.I v13.1]),(2,.rptr [.I v13.2]),(5,.I v13.1),(6,.I s15),(9,.fn (.yield l20) []),(16,.I v18)] [(2005,vR (.agg [.I 1,.I a1,.I a2]) 3),(2006,vR (.I 0) 1),(2007,vR (.nl) 1),(2008,vR (.L c5.Pv a0) 1)]) ?_
    refine b3F J hR23 J J J J J J (λe29 o30 o31=>?_)
    refine S6 1 J ?_
    refine⟨J,?_⟩
    refine g8<|S3 2 J<|iL h J J Ty.e29 Ty.a8w λv19 _ h=>S2 3 J ?_
    refine cN h (λhc h=>?_) λhc h=>?_
    ·refine S3 3 J ?_
     refine cF h a5c J J λv20 _ h=>S2 2 J<|b7 ?_
     refine⟨J,?_⟩
     refine⟨_,b3D [(1000003,.ptr 2008 0 0),(1000006,.ptr 2007 0 0),(1000007,.ptr 2006 0 0),(1000008,.ptr 2005 0 0),(1000026,.fn (.func 323) [.rptr [.I v13.1],.rptr [.I v13.2]]),(0,.fn (.yield l20) []),(1,.rptr [.I v13.1]),(2,.rptr [.I v13.2]),(5,.I v13.1),(6,.I s15),(17,.bool false)] [(2005,vR (.agg [.I 1,.I a1,.I a2]) 3),(2006,vR (.I 0) 1),(2007,vR (.L c5.Pv v20) 1),(2008,vR (.L c5.Pv a0) 1)] ⟨J,J,J,J,J,J,J,J,J,J,J,J,J,J,J,J,J,J,J,J,J,J,J,J,J,J,J,J,J,J,J,J,J,tr⟩ ⟨rS,rS,rS,rS,tr⟩,?_⟩
     refine S8 1 J ?_
     refine G1 true J (λ_=>?_) (λq=>nomatch q)
     refine b7 ?_
     refine .inr ⟨.ret,J,c31 ?_⟩
     have h:=xL hx26 h
     cases h
     exact⟨J,[_,_],⟨oS J J J Ty.a29 J,⟨oS J J J Ty.a39 J,tr⟩⟩,J,io⟩
    ·refine c4 ?_
     refine⟨J,?_⟩
     refine⟨_,b3D [(1000003,.ptr 2008 0 0),(1000006,.ptr 2007 0 0),(1000007,.ptr 2006 0 0),(1000008,.ptr 2005 0 0),(1000026,.fn (.func 323) [.rptr [.I v13.1],.rptr [.I v13.2]]),(0,.fn (.yield l20) []),(1,.rptr [.I v13.1]),(2,.rptr [.I v13.2]),(5,.I v13.1),(6,.I s15),(17,.bool true)] [(2005,vR (.agg [.I 1,.I a1,.I a2]) 3),(2006,vR (.I 0) 1),(2007,vR (.nl) 1),(2008,vR (.L c5.Pv a0) 1)] ⟨J,J,J,J,J,J,J,J,J,J,J,J,J,J,J,J,J,J,J,J,J,J,J,J,J,J,J,J,J,J,J,J,J,tr⟩ ⟨rS,rS,rS,rS,tr⟩,?_⟩
     refine S8 1 J ?_
     refine G1 false J (λq=>nomatch q) (λ_=>?_)
     refine c4<|S6 2 J ?_
     exact eL h W
   ·refine n7 ?_
    refine c8<|c8<|j5 ?_
    refine .inl ⟨J,?_⟩
    have h:=xL hx26 h
    exact eJ h (WP (λl=>if l=2004 then 2008 else if l=2003 then 2007 else if l=2002 then 2006 else l))

theorem b4V{a0 a1 a2}:PO Tryz.prog 266 [.L c5.Pv a0,.I a1,.I a2] (T0 a0 a1 a2) λr=>.tup [.L c5.Pv r.1,.I r.2.1,.I r.2.2]:=by
 refine pO Tryz.func266 λr h _ _=>?_
 refine S4 3 J<|c7<|S4 2 J ?_
 refine cN h (λhc h=>?_) λhc h=>?_
 ·refine S4 4 J ?_
  refine b7 ?_
  cases h
  exact f3
 ·refine c4 ?_
  refine S3 2 J<|cA h a3G J J λv1 _ h=>S2 5 J<|c7<|S4 2 J ?_
  refine cN h (λhc h=>?_) λhc h=>?_
  ·refine S3 2 J ?_
   refine cF h a8X J J λv2 _ h=>S2 7 J<|S4 5 J<|b7 ?_
   cases h
   exact f3
  ·refine c4 ?_
   refine S3 3 J<|cF h b6E J J λv3 _ h=>S2 5 J<|c7<|S4 2 J ?_
   refine cN h (λhc h=>?_) λhc h=>?_
   ·refine S4 5 J ?_
    refine b7 ?_
    cases h
    exact f3
   ·refine c4 ?_
    refine S4 5 J<|b7 ?_
    cases h
    exact f3

theorem a52{a0 a1}:PO Tryz.prog 267 [F7.Pv a0,b9.Pv a1] (Q7 a0 a1) λr=>b9.Pv r:=by
 refine pO Tryz.func267 λr h _ _=>?_
 unfold Q7 at h
 refine S4 3 J<|S4 4 J<|S4 2 J<|b7 ?_
 cases h
 exact⟨J,[_],⟨oL J J J Ty.X6 Ty.P8 nl J,tr⟩,J,io⟩

theorem a0r{a0 a1 a2 a3}:PO Tryz.prog 259 [b9.Pv a0,.I a1,.I a2,.abs (BFn 267 [F7.Pv a3])] (H0 a0 a1 a2 a3) λr=>b9.Pv r:=by
 refine pO Tryz.func259 λr h _ _=>?_
 refine S4 2 J<|S3 3 J<|cF h a0R J J λv1 _ h=>r8 h λv2 hv2 h=>b6a (xs:=[b9.Pv v1]) J J Ty.c91 J (a52.2 _ hv2)<|S1 1 J<|cF h a0m J J λv3 _ h=>S2 1 J<|b7 ?_
 cases h
 exact⟨J,[_],⟨oL J J J Ty.X6 Ty.P8 nl J,tr⟩,J,io⟩

theorem b46{a0 a1 a2}:PO Tryz.prog 192 [b9.Pv a0,.I a1,.I a2] (a2K a0 a1 a2) λr=>.tup [b9.Pv r.1,.I r.2]:=by
 refine pO Tryz.func192 λr h _ _=>?_
 refine S4 3 J<|c7<|S4 2 J ?_
 refine cN h (λhc h=>?_) λhc h=>?_
 ·refine S4 3 J ?_
  refine b7 ?_
  cases h
  exact⟨J,[_,_],⟨oL J J J Ty.X6 Ty.P8 nl J,⟨J,tr⟩⟩,J,io⟩
 ·refine c4 ?_
  refine c7<|S3 2 J<|cA h L6 J J λv1 _ h=>S1 2 J<|g7 J (λhg=>oL J J J Ty.X6 Ty.P8 nl J)<|g7 J (λhg=>mI J)<|r8 h λv2 hv2 h=>g7 J (λhg=>C6 J L6 (B8 (ct hg) (B8 (ct hg) J)) (F3 hv2 hg))<|g7 J (λhg=>a01 (ct hg) J)<|y0 J (u9 J J J (λq=>R8 q))<|yN ?_
  refine cN h (λhc h=>?_) λhc h=>?_
  ·refine S4 3 J ?_
   refine b7 ?_
   cases h
   exact⟨J,[_,_],⟨oL J J J Ty.X6 Ty.P8 nl J,⟨J,tr⟩⟩,J,io⟩
  ·refine c4 ?_
   refine S3 4 J<|cF h b4V J J λv3 _ h=>S2 7 J<|c7<|S4 2 J ?_
   refine cN h (λhc h=>?_) λhc h=>?_
   ·refine S4 4 J ?_
    refine b7 ?_
    cases h
    exact⟨J,[_,_],⟨oL J J J Ty.X6 Ty.P8 nl J,⟨J,tr⟩⟩,J,io⟩
   ·refine c4 ?_
    refine S3 4 J<|y0 J (m9 (cs:=[.L c5.Pv v3.1]) J Ty.d0a Ty.d0y J J J)<|y0 J (b0t (d:=.agg [.L c5.Pv v3.1]) J)<|cF h a0r J J λv4 _ h=>S2 2 J<|b7 ?_
    cases h
    exact⟨J,[_,_],⟨oL J J J Ty.X6 Ty.P8 nl J,⟨J,tr⟩⟩,J,io⟩

theorem a11{a0}:PO Tryz.prog 103 [o8.Pv a0] (U8 a0) λr=>.tup [b9.Pv r.1,.I r.2]:=by
 refine pO Tryz.func103 λr h _ _=>?_
 refine S4 3 J<|S3 5 J<|cA h M4 J J λv1 _ h=>S2 5 J<|c7<|S4 2 J ?_
 refine cN h (λhc h=>?_) λhc h=>?_
 ·refine S4 5 J ?_
  refine b7 ?_
  cases h
  exact⟨J,[_,_],⟨oL J J J Ty.X6 Ty.P8 nl J,⟨J,tr⟩⟩,J,io⟩
 ·refine c4 ?_
  refine dr [] Ty.U9 (by kernel_rfl) (by kernel_rfl)<|S7 8 J<|r8 h λv2 hv2 h=>d2 J (C6 J K2 J hv2) J<|r8 h λv3 hv3 h=>d2f J (y4 J b46 J hv3) J<|S7 2 J<|G9 (x':=b9.Pv v3.1) (cl':=true) J J (.inr J) Ty.P8<|S8 1 J<|b7 ?_
  cases h
  exact⟨J,[_,_],⟨oL J J J Ty.X6 Ty.P8 nl J,⟨J,tr⟩⟩,J,io⟩

theorem b4U{a0 a1}:PO Tryz.prog 193 [.L c5.Pv a0,.I a1] (b0c a0 a1) λr=>.tup [.I r.1,.I r.2]:=by
 refine pO Tryz.func193 λr h _ _=>?_
 refine S4 2 J<|S3 2 J<|cA h a3G J J λv1 _ h=>S2 4 J<|b7 ?_
 cases h
 exact f2

theorem a2s{a0}:PO Tryz.prog 104 [o8.Pv a0] (Y2 a0) λr=>.tup [b9.Pv r.1,.I r.2]:=by
 refine pO Tryz.func104 λr h _ _=>?_
 refine S4 3 J<|S3 5 J<|cA h M4 J J λv1 _ h=>S2 5 J<|c7<|S4 2 J ?_
 refine cN h (λhc h=>?_) λhc h=>?_
 ·refine S4 5 J ?_
  refine b7 ?_
  cases h
  exact⟨J,[_,_],⟨oL J J J Ty.X6 Ty.P8 nl J,⟨J,tr⟩⟩,J,io⟩
 ·refine c4 ?_
  refine dr [] Ty.U9 (by kernel_rfl) (by kernel_rfl)<|S7 5 J<|r8 h λv2 hv2 h=>d2 J (C6 J b4U J hv2) J<|S7 2 J<|r8 h λv3 hv3 h=>d2f J (y4 J E7 J hv3) J<|S7 2 J<|G9 (x':=b9.Pv v3.1) (cl':=true) J J (.inr J) Ty.P8<|S8 1 J<|b7 ?_
  cases h
  exact⟨J,[_,_],⟨oL J J J Ty.X6 Ty.P8 nl J,⟨J,tr⟩⟩,J,io⟩

theorem a1i{a0}:PO Tryz.prog 105 [o8.Pv a0] (M1 a0) λr=>.tup [b9.Pv r.1,.I r.2]:=by
 refine pO Tryz.func105 λr h _ _=>?_
 unfold M1 at h
 refine S4 3 J<|S4 4 J<|b7 ?_
 cases h
 exact⟨J,[_,_],⟨oL J J J Ty.X6 Ty.P8 nl J,⟨J,tr⟩⟩,J,io⟩

theorem b72{f:Fv}{a0:o8}{r:b9 × Int}(h:b1H f a0=some r):∃n,f=some n∧A2 Tryz.prog n∧O4 Tryz.prog n [o8.Pv a0] (.tup [b9.Pv r.1,.I r.2]):=by
 unfold b1H at h
 by_cases e96:f=some 96
 ·rw[if_pos e96] at h;exact⟨96,e96,(@a0Z a0).1,(@a0Z a0).2 _ h⟩
 rw[if_neg e96] at h
 by_cases e97:f=some 97
 ·rw[if_pos e97] at h;exact⟨97,e97,(@Y9 a0).1,(@Y9 a0).2 _ h⟩
 rw[if_neg e97] at h
 by_cases e98:f=some 98
 ·rw[if_pos e98] at h;exact⟨98,e98,(@a1Z a0).1,(@a1Z a0).2 _ h⟩
 rw[if_neg e98] at h
 by_cases e99:f=some 99
 ·rw[if_pos e99] at h;exact⟨99,e99,(@a10 a0).1,(@a10 a0).2 _ h⟩
 rw[if_neg e99] at h
 by_cases e100:f=some 100
 ·rw[if_pos e100] at h;exact⟨100,e100,(@a1j a0).1,(@a1j a0).2 _ h⟩
 rw[if_neg e100] at h
 by_cases e101:f=some 101
 ·rw[if_pos e101] at h;exact⟨101,e101,(@a00 a0).1,(@a00 a0).2 _ h⟩
 rw[if_neg e101] at h
 by_cases e102:f=some 102
 ·rw[if_pos e102] at h;exact⟨102,e102,(@a3c a0).1,(@a3c a0).2 _ h⟩
 rw[if_neg e102] at h
 by_cases e103:f=some 103
 ·rw[if_pos e103] at h;exact⟨103,e103,(@a11 a0).1,(@a11 a0).2 _ h⟩
 rw[if_neg e103] at h
 by_cases e104:f=some 104
 ·rw[if_pos e104] at h;exact⟨104,e104,(@a2s a0).1,(@a2s a0).2 _ h⟩
 rw[if_neg e104] at h
 by_cases e105:f=some 105
 ·rw[if_pos e105] at h;exact⟨105,e105,(@a1i a0).1,(@a1i a0).2 _ h⟩
 rw[if_neg e105] at h
 cases h

theorem a4m{a0}:PO Tryz.prog 152 [.I a0] (Z9 a0) λr=>.bool r:=by
 refine pO Tryz.func152 λr h _ _=>?_
 unfold Z9 at h
 refine S4 1 J<|S4 4 J<|b7 ?_
 cases h
 exact f1

theorem a8c{a0 a1}:PO Tryz.prog 86 [.I a0,.I a1] (a2h a0 a1) λr=>.I r:=by
 refine pO Tryz.func86 λr h _ _=>?_
 refine S4 1 J<|S3 1 J<|cA h a4m J J λv1 _ h=>S2 1 J<|S3 1 J<|cA h a4m J J λv2 _ h=>S2 1 J<|c7<|S4 1 J ?_
 refine cN h (λhc h=>?_) λhc h=>?_
 ·refine c7 ?_
  refine S4 1 J ?_
  refine cN h (λhc h=>?_) λhc h=>?_
  ·refine S4 1 J ?_
   refine b7 ?_
   cases h
   exact f1
  ·refine c4 ?_
   refine S4 1 J<|b7 ?_
   cases h
   exact f1
 ·refine c4 ?_
  refine c7<|S4 1 J ?_
  refine cN h (λhc h=>?_) λhc h=>?_
  ·refine S4 1 J ?_
   refine b7 ?_
   cases h
   exact f1
  ·refine c4 ?_
   refine c7<|S4 3 J ?_
   refine cN h (λhc h=>?_) λhc h=>?_
   ·refine S4 1 J ?_
    refine b7 ?_
    cases h
    exact f1
   ·refine c4 ?_
    refine c7<|S4 3 J ?_
    refine cN h (λhc h=>?_) λhc h=>?_
    ·refine S4 1 J ?_
     refine b7 ?_
     cases h
     exact f1
    ·refine c4 ?_
     refine S4 1 J<|b7 ?_
     cases h
     exact f1

theorem b1A{a0 a1 a2}:PO Tryz.prog 85 [.I a0,.I a1,.rptr [.abs (a2r (List.map (ent iF iF) a2))]] (a2G a0 a1 a2) λr=>.I r:=by
 refine pO Tryz.func85 λr h _ _=>?_
 refine S4 1 J<|S3 2 J<|y0 J (c2p (es:=a2) (k:=a0) (E:=iF) (EK:=iF) (d:=.I ((z7 a2 a0).getD (0:Int))) J J Ty.c2h (A3 Ty.u3) Ty.z3 J (lk1 _ _ _))<|S1 2 J<|y0 J (c2p (es:=a2) (k:=a1) (E:=iF) (EK:=iF) (d:=.I ((z7 a2 a1).getD (0:Int))) J J Ty.c2h (A3 Ty.u3) Ty.z3 J (lk1 _ _ _))<|cA h a8c J J λv1 _ h=>S2 1 J<|b7 ?_
 cases h
 exact f1

theorem a0i{a0}:PO Tryz.prog 37 [a8.Pv a0] (E2 a0) λr=>.L iF r:=by
 refine pO Tryz.func37 λr h _ _=>?_
 refine S4 2 J<|S4 1 J<|sR<|b4H (KT:=Int) (VT:=Int) (EK:=iF) (E:=iF) 5000008 J J<|S2 2 J ?_
 refine jq h (λq=>St.of [(3,.sl 910003),(4,.ptr 4 0 0)] [(4,vS (.mp 5000008) 1),(5000008,⟨[.mapc (List.map (ent iF iF) q.1)],0,false,0,false⟩),(910003,⟨List.map iF q.2,0,true,1,true⟩)]) (λq20 h=>?_) λκ17 h=>?_
 ·obtain⟨j18,j19⟩:=q20
  refine S3 2 J<|L4 (Wk.trans (c44 5000008 nl J) (c7C 4 0 5000008 J J J J))<|r8 h λv21 hv12 h=>c7F hv12 J J Ty.k84 c7s J J J Ty.k85 J J J J J (λp q r h=>b1A.2 r h)<|yN<|S4 2 J<|b7 ?_
  cases h
  exact f1
 ·refine S3 3 J ?_
  refine nL J Ty.e22<|S2 1 J<|g8<|lq h (λq=>St.of [(3,.sl 910003),(4,.ptr 4 0 0),(11,.L b8.Pv a0.S.a7),(12,.I (a0.S.a7.length:Int)),(13,.I q.1)] [(4,vS (.mp 5000008) 1),(5000008,⟨[.mapc (List.map (ent iF iF) q.2.1)],0,false,0,false⟩),(910003,⟨List.map iF q.2.2,0,true,1,true⟩)]) (Wk.trans (F2 (t:=3) (l:=920003) (z:=1) J J) (WP (λl=>if l=910003 then 920003 else l))) λq27 x26 h hx15=>?_
  obtain⟨s23,s24,s25⟩:=q27
  refine S4 1 J<|c7 ?_
  refine cN h (λhc h=>?_) λhc h=>?_
  ·refine c4 ?_
   refine jq h (λq=>St.of [(3,.sl 33),(4,.ptr 4 0 0),(11,.L b8.Pv a0.S.a7),(12,.I (a0.S.a7.length:Int)),(13,.I s23)] [(4,vS (.mp 5000008) 1),(5000008,⟨[.mapc (List.map (ent iF iF) q.1)],0,false,0,false⟩),(33,⟨List.map iF q.2,0,true,1,true⟩)]) (λq34 h=>?_) λκ31 h=>?_
   ·obtain⟨j32,j33⟩:=q34
    refine S6 2 J ?_
    exact eL h (WP (λl=>if l=910003 then 33 else l))
   ·refine g8 ?_
    refine S3 1 J<|iL h J J Ty.e22 Ty.a4K λv35 _ h=>S2 4 J<|S4 3 J ?_
    refine cN h (λhc h=>?_) λhc h=>?_
    ·refine S3 3 J ?_
     refine cA h a2Z J J λv36 _ h=>S2 1 J<|S3 5 J<|Z7 (es:=s24) (k:=v36) (v:=v35.Val.Serial) (E:=iF) (EK:=iF) (.inl J) J J J J J J Ty.c2h (A3 Ty.u3)<|yN<|S5 2 J<|y0 J (M2 (f:=iF) (l:=[v36]) J Ty.A5 Ty.s3 Ty.z3 J J nl J J)<|r8 h λv37 hv22 h=>c81 (f:=iF) (b:=8) [(4,.ptr 4 0 0),(11,.L b8.Pv a0.S.a7),(12,.I (a0.S.a7.length:Int)),(13,.I s23),(14,.bool (decide (s23<(a0.S.a7.length:Int)))),(15,.I s23),(16,.rptr (b8.Pc v35)),(17,b8.Pv v35),(6,.ptr 6 0 0),(5,.I s23),(18,.ptr 6 0 0),(19,.I v35.State),(20,.bool (v35.State==1)),(21,.I s23),(22,.ptr 6 0 1),(23,.I v35.Gen),(24,.I v36),(7,.I v36),(25,.mp 5000008),(26,.I v36),(27,.ptr 6 0 2),(28,.ptr 6 0 2),(29,.I v35.Val.Serial),(31,.I v36),(32,.lst true (List.map iF [v36]))] [(6,vR (b8.Pv v35) 8),(5000008,⟨[.mapc (List.map (ent iF iF) (o0 s24 v36 v35.Val.Serial))],0,false,0,false⟩),(4,vS (.mp 5000008) 1)] J hv22 ⟨J,J,J,J,J,J,J,J,J,J,J,J,J,J,J,J,J,J,J,J,J,J,J,J,J,J,J,J,J,J,J,J,J,J,J,J,J,J,J,J,J,J,J,J,J,J,J,J,J,J,J,J,J,J,J,J,J,J,J,J,J,J,J,J,J,J,J,J,J,J,J,J,J,J,J,tr⟩ ⟨rS,a1A J J J (λq=>nomatch q) J J J J,a1A J J J (λq=>nomatch q) J J J J,tr⟩ J J J J (.inl ⟨_,J,J⟩) Ty.A5 Ty.s3 Ty.b3 Ty.z3 J (λ_=>J)<|S2 1 J ?_
     exact eJ h W
    ·refine c4 ?_
     exact eJ h (WP (λl=>if l=33 then 910003 else l))
  ·refine n7 ?_
   refine c8<|c8<|j5 ?_
   have h:=xL hx15 h
   exact eJ h W

theorem b3p{a0}:PO Tryz.prog 106 [b9.Pv a0] (a0F a0) λr=>.L iF r:=by
 refine pO Tryz.func106 λr h _ _=>?_
 refine S4 2 J<|S4 1 J ?_
 refine jq h (λj16=>St.of [(3,.sl 910003)] [(910003,⟨List.map iF j16,(List.map iF j16).length,true,1,true⟩)]) (λj16 h=>?_) λκ15 h=>?_
 ·refine S4 2 J ?_
  refine b7 ?_
  cases h
  exact f1
 ·refine S3 2 J ?_
  refine cF h a0i J J λv17 _ h=>nL J Ty.A5<|S2 1 J<|g8<|lq h (λq=>St.of [(1,.ptr 1 0 0),(3,.sl 910003),(10,.L iF v17),(11,.I (v17.length:Int)),(12,.I q.1)] [(1,vR (b9.Pv a0) 8),(910003,⟨List.map iF q.2,(List.map iF q.2).length,true,1,true⟩)]) (Wk.trans (F2 (t:=3) (l:=920003) (z:=1) J J) (WP (λl=>if l=910003 then 920003 else l))) λq22 x21 h hx16=>?_
  obtain⟨s19,s20⟩:=q22
  refine S4 1 J<|c7 ?_
  refine cN h (λhc h=>?_) λhc h=>?_
  ·refine c4 ?_
   refine jq h (λj27=>St.of [(1,.ptr 1 0 0),(3,.sl 29),(10,.L iF v17),(11,.I (v17.length:Int)),(12,.I s19)] [(29,⟨List.map iF j27,(List.map iF j27).length,true,1,true⟩),(1,vR (b9.Pv a0) 8)]) (λj27 h=>?_) λκ26 h=>?_
   ·refine S6 2 J ?_
    exact eL h (Wk.trans (n0 _ [29]) (WP (λl=>if l=910003 then 29 else l)))
   ·refine g8 ?_
    refine sR<|iL h J J Ty.A5 Ty.s3 λv28 _ h=>S2 2 J<|S3 3 J<|cF h A7 J J λv29 _ h=>S2 6 J<|S4 3 J ?_
    refine cN h (λhc h=>?_) λhc h=>?_
    ·refine S5 2 J ?_
     refine y0 J (M2 (f:=iF) (l:=[v28]) J Ty.A5 Ty.s3 Ty.z3 J J nl J J)<|r8 h λv30 hv23 h=>L0 J (H5 (f:=iF) hv23 J J J J J J (.inl ⟨_,J,J⟩) Ty.A5 Ty.s3 Ty.b3 Ty.z3 J (λ_=>J)) J J J<|S2 1 J ?_
     exact eJ h (Wk.trans (n0 _ [29]) W)
    ·refine c4 ?_
     exact eJ h (Wk.trans (n0 _ [910003]) (WP (λl=>if l=29 then 910003 else l)))
  ·refine n7 ?_
   refine c8<|c8<|j5 ?_
   have h:=xL hx16 h
   exact eJ h (Wk.trans (n0 _ [910003]) W)

theorem a3U{a0}:PO Tryz.prog 107 [l4.Pv a0] (I8 a0) λr=>.bool r:=by
 refine pO Tryz.func107 λr h _ _=>?_
 unfold I8 at h
 refine S4 2 J<|S3 4 J<|g7 J (λhg=>oF J Ty.b7W J)<|g7 J (λhg=>oS (ct hg) J J Ty.a4 J)<|g7 J (λhg=>a01 (ct hg) J)<|y0 J (p5 J J J (λq=>Q1 q))<|S2 1 J<|b7 ?_
 cases h
 exact f1

theorem a03{a0}:PO Tryz.prog 311 [g9.Pv a0] (O0 a0) λr=>.I r:=by
 refine pO Tryz.func311 λr h _ _=>?_
 unfold O0 at h
 refine S4 2 J<|S3 2 J<|nL J Ty.e30<|S2 1 J<|b7 ?_
 cases h
 exact f1

theorem a4A{a0 a1 a2}:PO Tryz.prog 312 [.L j2.Pv a0,.I a1,.I a2] (M6 a0 a1 a2) λr=>.lst true (List.map j2.Pv r):=by
 refine pO Tryz.func312 λr h _ _=>?_
 unfold M6 at h
 refine S4 1 J<|S3 4 J<|r8 h λv1 hv1 h=>y0 J (c6R (f:=j2.Pv) hv1 J ⟨_,J⟩ ⟨_,J⟩ ⟨_,J⟩ J J Ty.e30 Ty.b32 (λ_=>J))<|S2 1 J<|b7 ?_
 cases h
 exact f1

theorem a4z{a0 a1}:PO Tryz.prog 270 [g9.Pv a0,j2.Pv a1] (M5 a0 a1) λr=>.tup [g9.Pv r.1,.I r.2]:=by
 refine pO Tryz.func270 λr h _ _=>?_
 unfold M5 at h
 refine S4 4 J<|c7<|dr [] Ty.U9 (by kernel_rfl) (by kernel_rfl)<|S7 1 J<|r8 h λv1 hv1 h=>d2 J (C6 J a03 J hv1) J<|S8 3 J ?_
 refine cN h (λhc h=>?_) λhc h=>?_
 ·refine S4 3 J ?_
  refine b7 ?_
  cases h
  exact⟨J,[_,_],⟨oL J J J Ty.a32 Ty.s32 nl J,⟨J,tr⟩⟩,J,io⟩
 ·refine c4 ?_
  refine dr [] Ty.U9 (by kernel_rfl) (by kernel_rfl)<|S7 3 J<|d2 J (C6 J a03 J hv1) J<|r8 h λv2 hv2 h=>d2f J (y4 J a4A J hv2) J<|S7 1 J<|d1n J (M2 (f:=j2.Pv) (l:=[a1]) J Ty.e30 Ty.b32 Ty.c3u J J nl J J) J<|r8 h λv3 hv3 h=>d3 J (a5T (f:=j2.Pv) hv3 J J (.inl ⟨_,J,J⟩) Ty.e30 Ty.b32 Ty.c9A Ty.c3u J (λ_=>J)) J J J<|S7 1 J<|G9 (x':=.agg [.sl 19,.I a0.Cap]) (cl':=false) J J (.inl J) Ty.s30<|N6<|S4 3 J<|b7 ?_
  cases h
  exact⟨J,[_,_],⟨oL J J J Ty.a32 Ty.s32 nl J,⟨J,tr⟩⟩,J,io⟩

theorem b1j{a0 a1}:PO Tryz.prog 195 [g9.Pv a0,j2.Pv a1] (a6Y a0 a1) λr=>.tup [g9.Pv r.1,.I r.2]:=by
 refine pO Tryz.func195 λr h _ _=>?_
 refine S4 4 J<|S3 2 J<|cF h a4z J J λv1 _ h=>S2 4 J<|b7 ?_
 cases h
 exact⟨J,[_,_],⟨oL J J J Ty.a32 Ty.s32 nl J,⟨J,tr⟩⟩,J,io⟩

theorem b0P{a0 a1}:PO Tryz.prog 108 [b9.Pv a0,.I a1] (T6 a0 a1) λr=>b9.Pv r:=by
 refine pO Tryz.func108 λr h _ _=>?_
 refine S4 2 J<|S3 3 J<|cF h A7 J J λv1 _ h=>S2 6 J<|c7<|S3 3 J<|g7 J (λhg=>oL J J J Ty.c06 Ty.b7l nl J)<|r8 h λv2 hv2 h=>g7 J (λhg=>C6 J a3U (B8 (ct hg) J) (F3 hv2 hg))<|g7 J (λhg=>a01 (ct hg) J)<|y0 J (u9 J J J (λq=>R8 q))<|yN ?_
 refine cN h (λhc h=>?_) λhc h=>?_
 ·refine S4 2 J ?_
  refine b7 ?_
  cases h
  exact⟨J,[_],⟨oL J J J Ty.X6 Ty.P8 nl J,tr⟩,J,io⟩
 ·refine c4 ?_
  refine S4 2 J<|S3 4 J<|cF h Y6 J J λv3 _ h=>S2 5 J<|S3 5 J<|y0 J (m9 (cs:=[.I 1,.I a1,.I v1.1.Prog]) J Ty.c64 Ty.c3u J J J)<|cF h b1j J J λv4 _ h=>S2 5 J<|S3 2 J<|cF h a0R J J λv5 _ h=>S2 1 J<|b7 ?_
  cases h
  exact⟨J,[_],⟨oL J J J Ty.X6 Ty.P8 nl J,tr⟩,J,io⟩

theorem a7J{a0 a1}:PO Tryz.prog 197 [b9.Pv a0,.L iF a1] (P3 a0 a1) λr=>.L iF r:=by
 refine pO Tryz.func197 λr h _ _=>?_
 refine S4 2 J<|sR<|b4H (KT:=Int) (VT:=Bool) (EK:=iF) (E:=PV.bool) 5000011 J J<|S2 1 J<|S4 1 J ?_
 refine jq h (λj18=>St.of [(6,.sl 910006)] [(910006,⟨List.map iF j18,(List.map iF j18).length,true,1,true⟩)]) (λj18 h=>?_) λκ17 h=>?_
 ·refine S4 2 J ?_
  refine b7 ?_
  cases h
  exact f1
 ·refine S3 1 J ?_
  refine nL J Ty.A5<|S2 1 J<|g8<|lq h (λq=>St.of [(2,.ptr 2 0 0),(5,.mp 5000011),(6,.sl 910006),(12,.L iF a1),(13,.I (a1.length:Int)),(14,.I q.1)] [(5000011,⟨[.mapc (List.map (ent iF PV.bool) q.2.1)],0,false,0,false⟩),(2,vR (b9.Pv a0) 8),(910006,⟨List.map iF q.2.2,(List.map iF q.2.2).length,true,1,true⟩)]) (Wk.trans (F2 (t:=6) (l:=920006) (z:=1) J J) (WP (λl=>if l=910006 then 920006 else l))) λq24 x23 h hx16=>?_
  obtain⟨s20,s21,s22⟩:=q24
  refine S4 1 J<|c7 ?_
  refine cN h (λhc h=>?_) λhc h=>?_
  ·refine c4 ?_
   refine jq h (λq=>St.of [(2,.ptr 2 0 0),(5,.mp 5000011),(6,.sl 38),(12,.L iF a1),(13,.I (a1.length:Int)),(14,.I s20)] [(38,⟨List.map iF q.1,(List.map iF q.1).length,true,1,true⟩),(5000011,⟨[.mapc (List.map (ent iF PV.bool) q.2)],0,false,0,false⟩),(2,vR (b9.Pv a0) 8)]) (λq31 h=>?_) λκ28 h=>?_
   ·obtain⟨j29,j30⟩:=q31
    refine S6 2 J ?_
    exact eL h (Wk.trans (n0 _ [38]) (WP (λl=>if l=910006 then 38 else l)))
   ·refine g8 ?_
    refine sR<|iL h J J Ty.A5 Ty.s3 λv32 _ h=>S2 2 J<|S3 3 J<|cF h A7 J J λv33 _ h=>S2 6 J<|S3 3 J<|g7 J (λhg=>om (d:=.mp 5000011) J)<|g7 J (λhg=>mI J) ?_
    rcases Bool.eq_false_or_eq_true ((v33.2==0)==true) with hg24 | hg24
    ·have h:=ifT h hg24
     refine c3s (es:=s21) (k:=v32) (E:=PV.bool) (EK:=iF) (d:=.bool ((z7 s21 v32).getD (false:Bool))) (congrArg some hg24) (ct hg24) J (ct hg24) Ty.b9v (A3 Ty.u3) Ty.z4 J (lk1 _ _ _)<|y0 (congrArg some hg24) (a01 J J)<|y0 J (a7g J J hg24)<|yN ?_
     refine cN h (λhc h=>?_) λhc h=>?_
     ·refine S3 2 J ?_
      refine Z7 (es:=s21) (k:=v32) (v:=true) (E:=PV.bool) (EK:=iF) (.inl J) J J J J J J Ty.b9v (A3 Ty.u3)<|yN<|S5 2 J<|y0 J (M2 (f:=iF) (l:=[v32]) J Ty.A5 Ty.s3 Ty.z3 J J nl J J)<|r8 h λv34 hv25 h=>L0 J (H5 (f:=iF) hv25 J J J J J J (.inl ⟨_,J,J⟩) Ty.A5 Ty.s3 Ty.b3 Ty.z3 J (λ_=>J)) J J J<|S2 1 J ?_
      exact eJ h (Wk.trans (n0 _ [38]) W)
     ·refine c4 ?_
      exact eJ h (Wk.trans (n0 _ [910006]) (WP (λl=>if l=38 then 910006 else l)))
    ·have h:=ifF h hg24
     refine a1d (congrArg some hg24)<|a1d (congrArg some hg24)<|y0 J (a7f J J hg24)<|yN ?_
     refine G1 false J (λq=>nomatch q) (λ_=>?_)
     refine c4 ?_
     exact eJ h (Wk.trans (n0 _ [910006]) (WP (λl=>if l=38 then 910006 else l)))
  ·refine n7 ?_
   refine c8<|c8<|j5 ?_
   have h:=xL hx16 h
   exact eJ h (Wk.trans (n0 _ [910006]) W)

theorem a4L{a0 a1}:PO Tryz.prog 330 [.L iF a0,.I a1] (M8 a0 a1) λr=>.I r:=by
 refine pO Tryz.func330 λr h _ _=>?_
 refine S4 1 J ?_
 refine jq h (λ_=>St.of [] []) (λq6 h=>?_) λκ5 h=>?_
 ·refine S4 1 J ?_
  refine b7 ?_
  cases h
  exact f1
 ·refine S3 1 J ?_
  refine nL J Ty.A5<|S2 1 J<|g8<|lq h (λs8=>St.of [(0,.L iF a0),(1,.I a1),(7,.I (a0.length:Int)),(8,.I s8)] []) W λs8 x9 h hx8=>S4 1 J<|c7 ?_
  refine cN h (λhc h=>?_) λhc h=>?_
  ·refine c4 ?_
   refine c7<|g8<|S4 2 J<|S3 3 J<|iL h J J Ty.A5 Ty.s3 λv10 _ h=>S2 2 J ?_
   refine cN h (λhc h=>?_) λhc h=>?_
   ·refine S4 2 J ?_
    refine b7 ?_
    have h:=xL hx8 h
    cases h
    exact f1
   ·refine c4 ?_
    refine S6 2 J ?_
    exact eL h W
  ·refine n7 ?_
   refine c8<|c8<|j5 ?_
   have h:=xL hx8 h
   exact eJ h W

theorem a3n{a0 a1}:PO Tryz.prog 315 [.L iF a0,.I a1] (J6 a0 a1) λr=>.bool r:=by
 refine pO Tryz.func315 λr h _ _=>?_
 refine S4 1 J<|S3 2 J<|cA h a4L J J λv1 _ h=>S2 2 J<|b7 ?_
 cases h
 exact f1

theorem b1C{a0 a1}:PO Tryz.prog 314 [c9.Pv a0,.rptr [.L iF a1]] (Y7 a0 a1) λr=>.bool r:=by
 refine pO Tryz.func314 λr h _ _=>?_
 unfold Y7 at h
 refine S4 2 J<|S3 3 J<|g7 J (λhg=>oF J Ty.c1I J)<|g7 J (λhg=>oS (ct hg) J J Ty.a3 J)<|g7 J (λhg=>n9 (ct hg) J J)<|y0 J (p5 J J J (λq=>Q1 q))<|S1 1 J<|g7 J (λhg=>D4 J Ty.a27 J)<|g7 J (λhg=>oF J Ty.c1I J)<|g7 J (λhg=>oS (ct hg) J J Ty.a3 J)<|r8 h λv1 hv1 h=>g7 J (λhg=>C6 J a3n (B8 (ct hg) (B8 (ct hg) J)) (F3 hv1 hg))<|y0 J (p5 J J J (λq=>Q1 q))<|S2 1 J<|b7 ?_
 cases h
 exact f1

theorem a2q{a0 a1}:PO Tryz.prog 248 [.L c9.Pv a0,.fn (.func 314) [.rptr [.L iF a1]]] (H4 a0 a1) λr=>.L iF r:=by
 refine pO Tryz.func248 λr h _ _=>?_
 refine S4 1 J<|S4 1 J ?_
 refine jq h (λj15=>St.of [(5,.sl 910005)] [(910005,⟨List.map iF j15,(List.map iF j15).length,true,1,true⟩)]) (λj15 h=>?_) λκ14 h=>?_
 ·refine S4 2 J ?_
  refine b7 ?_
  cases h
  exact f1
 ·refine S3 1 J ?_
  refine nL J Ty.e28<|S2 1 J<|g8<|lq h (λq=>St.of [(1,.fn (.func 314) [.rptr [.L iF a1]]),(5,.sl 910005),(8,.L c9.Pv a0),(9,.I (a0.length:Int)),(10,.I q.1)] [(910005,⟨List.map iF q.2,(List.map iF q.2).length,true,1,true⟩)]) (Wk.trans (F2 (t:=5) (l:=920005) (z:=1) J J) (WP (λl=>if l=910005 then 920005 else l))) λq20 x19 h hx14=>?_
  obtain⟨s17,s18⟩:=q20
  refine S4 1 J<|c7 ?_
  refine cN h (λhc h=>?_) λhc h=>?_
  ·refine c4 ?_
   refine jq h (λj25=>St.of [(1,.fn (.func 314) [.rptr [.L iF a1]]),(5,.sl 21),(8,.L c9.Pv a0),(9,.I (a0.length:Int)),(10,.I s17)] [(21,⟨List.map iF j25,(List.map iF j25).length,true,1,true⟩)]) (λj25 h=>?_) λκ24 h=>?_
   ·refine S6 2 J ?_
    exact eL h (Wk.trans (n0 _ [21]) (WP (λl=>if l=910005 then 21 else l)))
   ·refine g8 ?_
    refine S3 1 J<|iL h J J Ty.e28 Ty.s84 λv26 _ h=>S2 4 J<|S3 2 J<|cA h b1C J J λv27 _ h=>yN ?_
    refine cN h (λhc h=>?_) λhc h=>?_
    ·refine S5 2 J ?_
     refine y0 J (M2 (f:=iF) (l:=[s17]) J Ty.A5 Ty.s3 Ty.z3 J J nl J J)<|r8 h λv28 hv21 h=>L0 J (H5 (f:=iF) hv21 J J J J J J (.inl ⟨_,J,J⟩) Ty.A5 Ty.s3 Ty.b3 Ty.z3 J (λ_=>J)) J J J<|S2 1 J ?_
     exact eJ h (Wk.trans (n0 _ [21]) W)
    ·refine c4 ?_
     exact eJ h (Wk.trans (n0 _ [910005]) (WP (λl=>if l=21 then 910005 else l)))
  ·refine n7 ?_
   refine c8<|c8<|j5 ?_
   have h:=xL hx14 h
   exact eJ h (Wk.trans (n0 _ [910005]) W)

theorem b4a{a0 a1}:PO Tryz.prog 273 [.L c9.Pv a0,.L iF a1] (a3r a0 a1) λr=>.tup [.L c9.Pv r.1,.L iF r.2]:=by
 refine pO Tryz.func273 λr h _ _=>?_
 unfold a3r at h
 refine S4 3 J<|S3 2 J<|r8 h λv1 hv1 h=>ycL J (y4 J a2q J hv1) J<|S2 1 J<|S3 1 J<|r8 h λv2 hv2 h=>ycN J (b4u J a5X J hv2) J J<|S2 1 J<|S4 1 J ?_
 refine jq h (λq=>St.of [(7,.sl 15),(8,.sl 910008)] [(910008,⟨List.map iF q.1,(List.map iF q.1).length,true,1,true⟩),(15,⟨List.map c9.Pv q.2,0,true,3,true⟩)]) (λq24 h=>?_) λκ21 h=>?_
 ·obtain⟨j22,j23⟩:=q24
  refine S4 4 J<|b7 ?_
  cases h
  exact f2
 ·refine S3 1 J ?_
  refine nL J Ty.A5<|S2 1 J<|g8<|lq h (λq=>St.of [(7,.sl 15),(8,.sl 910008),(16,.L iF v1),(17,.I (v1.length:Int)),(18,.I q.1)] [(15,⟨List.map c9.Pv q.2.1,0,true,3,true⟩),(910008,⟨List.map iF q.2.2,(List.map iF q.2.2).length,true,1,true⟩)]) (Wk.trans (F2 (t:=8) (l:=920008) (z:=1) J J) (WP (λl=>if l=910008 then 920008 else l))) λq30 x29 h hx18=>?_
  obtain⟨s26,s27,s28⟩:=q30
  refine S4 1 J<|c7 ?_
  refine cN h (λhc h=>?_) λhc h=>?_
  ·refine c4 ?_
   refine jq h (λq=>St.of [(7,.sl 15),(8,.sl 35),(16,.L iF v1),(17,.I (v1.length:Int)),(18,.I s26)] [(35,⟨List.map iF q.1,(List.map iF q.1).length,true,1,true⟩),(15,⟨List.map c9.Pv q.2,0,true,3,true⟩)]) (λq38 h=>?_) λκ35 h=>?_
   ·obtain⟨j36,j37⟩:=q38
    refine S6 2 J ?_
    exact eL h (Wk.trans (n0 _ [35]) (WP (λl=>if l=910008 then 35 else l)))
   ·refine g8 ?_
    refine sR<|iL h J J Ty.A5 Ty.s3 λv39 _ h=>S2 2 J<|S3 2 J<|r8 h λv40 hv25 h=>y0 J (Z0 (f:=c9.Pv) hv25 J J J J Ty.e28 Ty.s84 J)<|S1 1 J<|a3s (f:=c9.Pv) (v:=(⟨v40.Target,false,v40.Call⟩:c9)) hv25 J J (.inl J) Ty.s4<|yN<|S3 2 J<|r8 h λv41 hv26 h=>y0 J (Z0 (f:=c9.Pv) hv26 J J J J Ty.e28 Ty.s84 J)<|S1 1 J<|y0 J (b2J (f:=c9.Pv) hv26 J J J Ty.a3 J)<|S2 1 J ?_
    refine cN h (λhc h=>?_) λhc h=>?_
    ·refine S5 2 J ?_
     refine y0 J (M2 (f:=iF) (l:=[v39]) J Ty.A5 Ty.s3 Ty.z3 J J nl J J)<|r8 h λv42 hv27 h=>L0 J (H5 (f:=iF) hv27 J J J J J J (.inl ⟨_,J,J⟩) Ty.A5 Ty.s3 Ty.b3 Ty.z3 J (λ_=>J)) J J J<|S2 1 J ?_
     exact eJ h (Wk.trans (n0 _ [35]) W)
    ·refine c4 ?_
     exact eJ h (Wk.trans (n0 _ [910008]) (WP (λl=>if l=35 then 910008 else l)))
  ·refine n7 ?_
   refine c8<|c8<|j5 ?_
   have h:=xL hx18 h
   exact eJ h (Wk.trans (n0 _ [910008]) W)

theorem a9P{a0 a1}:PO Tryz.prog 198 [b9.Pv a0,.L iF a1] (a08 a0 a1) λr=>b9.Pv r:=by
 refine pO Tryz.func198 λr h _ _=>?_
 refine S4 2 J<|S3 3 J<|cF h b4a J J λv1 _ h=>S2 5 J<|S4 3 J ?_
 refine jq h (λj11=>St.of [(2,.ptr 2 0 0),(4,.ptr 4 0 0)] [(4,vR (.agg [.nl,.I 0,.I 0,.nl,.nl,.nl,.nl,.I 0]) 8),(2,vR (.agg [.L b8.Pv a0.S.S.a7,.I a0.S.S.Last,.I a0.S.Serial,.L iF a0.Roots,.L c9.Pv v1.1,.L c5.Pv a0.T,.L j2.Pv j11.L,.I j11.Cap]) 8)]) (λj11 h=>?_) λκ10 h=>?_
 ·refine S4 2 J ?_
  refine b7 ?_
  cases h
  exact⟨J,[_],⟨oL J J J Ty.X6 Ty.P8 nl J,tr⟩,J,io⟩
 ·refine S3 1 J ?_
  refine nL J Ty.A5<|S2 1 J<|g8<|lq h (λq=>St.of [(2,.ptr 2 0 0),(4,.ptr 4 0 0),(5,.L c9.Pv v1.1),(18,.L iF v1.2),(19,.I (v1.2.length:Int)),(20,.I q.1)] [(4,vR (.agg [.nl,.I 0,.I 0,.nl,.nl,.nl,.nl,.I 0]) 8),(2,vR (.agg [.L b8.Pv a0.S.S.a7,.I a0.S.S.Last,.I a0.S.Serial,.L iF a0.Roots,.L c9.Pv v1.1,.L c5.Pv a0.T,.L j2.Pv q.2.L,.I q.2.Cap]) 8)]) W λq16 x15 h hx11=>?_
  obtain⟨s13,s14⟩:=q16
  refine S4 1 J<|c7 ?_
  refine cN h (λhc h=>?_) λhc h=>?_
  ·refine c4 ?_
   refine c7<|g8<|sR<|iL h J J Ty.A5 Ty.s3 λv17 _ h=>S2 2 J<|a2m [] Ty.U9 (by kernel_rfl) (by kernel_rfl)<|S7 5 J<|r8 h λv18 hv13 h=>d0 J (y5 (f:=c9.Pv) (cs:=c9.Pc v18) hv13 J J Ty.e28 Ty.s84 J J) J<|S7 2 J<|d7 J (λ_ hN=>m9 (cs:=[.I 2,.I v17,.I v18.Call]) J Ty.c64 Ty.c3u J J J) J<|r8 h λv19 hv14 h=>d2f J (y4 J b1j J hv14) J<|S7 4 J<|G9 (x':=.agg [.L b8.Pv a0.S.S.a7,.I a0.S.S.Last,.I a0.S.Serial,.L iF a0.Roots,.L c9.Pv v1.1,.L c5.Pv a0.T,.L j2.Pv v19.1.L,.I v19.1.Cap]) (cl':=true) J J (.inr J) Ty.s32<|N6<|S6 2 J ?_
   exact eL h W
  ·refine n7 ?_
   refine c8<|c8<|j5 ?_
   have h:=xL hx11 h
   exact eJ h W

theorem a9Z{a0}:PO Tryz.prog 274 [.L iF a0] (a2Q a0) λr=>.fn (.func 316) [.rptr [.L iF r]]:=by
 refine pO Tryz.func274 λr h _ _=>?_
 unfold a2Q at h
 refine S4 2 J<|S4 2 J<|b7 ?_
 cases h
 exact f1

theorem a9Y{a0}:PO Tryz.prog 200 [.L iF a0] (a2P a0) λr=>.L iF r:=by
 refine pO Tryz.func200 λr h _ _=>?_
 refine S4 1 J<|S4 1 J ?_
 refine jq h (λj10=>St.of [(3,.ptr 2001 0 0)] [(2001,vS (.sl 912501) 1),(912501,⟨List.map iF j10,(List.map iF j10).length,true,1,true⟩)]) (λj10 h=>?_) λκ9 h=>?_
 ·refine S4 2 J ?_
  refine b7 ?_
  cases h
  exact f1
 ·refine S3 1 J ?_
  refine cF h a9Z J J λv11 _ h=>yN<|g8<|a2u (WPE (λl=>if l=2011 then 3 else l) [(3,.ptr 2011 0 0),(6,.fn (.func 316) [.rptr [.L iF v11]])] [(2011,vR (.nl) 1)]) ?_
  refine a0b (fn:=Tryz.f316) (N1:=20) J Tryz.func316 J J nl J Ty.c8i J J (λl17 e18 o19 hR20=>?_)
  refine S3 1 J<|nL J Ty.A5<|S2 1 J<|g8<|lq h (λq=>St.of [(1000003,.ptr 2011 0 0),(1000006,.fn (.func 316) [.rptr [.L iF v11]]),(0,.fn (.yield l17) []),(5,.L iF v11),(6,.I (v11.length:Int)),(7,.I q.1)] [(2011,vS (.sl 912511) 1),(912511,⟨List.map iF q.2,(List.map iF q.2).length,true,1,true⟩)]) (Wk.trans (a7B (l0:=2011) (j:=0) (l:=922511) (z:=1) J J J J J) (WP (λl=>if l=912511 then 922511 else l))) λq16 x15 h hx23=>?_
  obtain⟨s13,s14⟩:=q16
  refine S4 1 J<|c7 ?_
  refine cN h (λhc h=>?_) λhc h=>?_
  ·refine c4 ?_
   refine c7<|g8<|sR<|iL h J J Ty.A5 Ty.s3 λv17 _ h=>S2 2 J<|S3 3 J<|g7 J (λhg=>om (d:=.fn (.yield l17) []) J)<|g7 J (λhg=>mI J) ?_
   rcases Bool.eq_false_or_eq_true ((v17 != 0)==true) with hg25 | hg25
   ·have h:=ifT h hg25
    refine L4 (WPE (λl=>if l=2019 then 912511 else l) [(1000003,.ptr 2011 0 0),(1000006,.fn (.func 316) [.rptr [.L iF v11]]),(0,.fn (.yield l17) []),(5,.L iF v11),(6,.I (v11.length:Int)),(7,.I s13),(13,.bool (v17 != 0)),(14,.fn (.yield l17) []),(15,.I v17)] [(2011,vS (.sl 2019) 1),(2019,⟨List.map iF s14,(List.map iF s14).length,true,1,true⟩)]) ?_
    refine a3Z hR20 (congrArg some hg25) J J J J J (λe26 o27 o28=>?_)
    refine S6 1 J ?_
    refine⟨J,?_⟩
    refine g8<|S5 2 J<|y0 J (M2 (f:=iF) (l:=[v17]) J Ty.A5 Ty.s3 Ty.z3 J J nl J J)<|r8 h λv18 hv29 h=>L0 J (H5 (f:=iF) hv29 J J J J J J (.inl ⟨_,J,J⟩) Ty.A5 Ty.s3 Ty.b3 Ty.z3 J (λ_=>J)) J J J<|S2 1 J ?_
    refine⟨J,?_⟩
    refine L4 (WPE (λl=>if l=2020 then 11 else l) [(1000003,.ptr 2011 0 0),(1000006,.fn (.func 316) [.rptr [.L iF v11]]),(0,.fn (.yield l17) []),(5,.L iF v11),(6,.I (v11.length:Int)),(7,.I s13),(13,.bool (v17 != 0)),(16,.bool true)] [(2011,vS (.sl 2020) 1),(2020,⟨List.map iF v18,s14.length,true,1,true⟩)])<|y0 (congrArg some hg25) (a01 J J)<|y0 J (a7g J J hg25)<|yN ?_
    refine G1 false J (λq=>nomatch q) (λ_=>?_)
    refine c4<|S6 2 J ?_
    exact eL h (Wk.trans (n0 _ [2020]) (WP (λl=>if l=912511 then 2020 else l)))
   ·have h:=ifF h hg25
    refine a1d (congrArg some hg25)<|a1d (congrArg some hg25)<|y0 J (a7f J J hg25)<|yN ?_
    refine G1 false J (λq=>nomatch q) (λ_=>?_)
    refine c4<|S6 2 J ?_
    exact eL h (Wk.trans (n0 _ [912511]) W)
  ·refine n7 ?_
   refine c8<|c8<|j5 ?_
   refine .inl ⟨J,?_⟩
   have h:=xL hx23 h
   exact eJ h (Wk.trans (n0 _ [912511]) (WP (λl=>if l=2001 then 2011 else if l=912501 then 912511 else l)))

theorem b0f{a0 a1}:PO Tryz.prog 201 [.L c5.Pv a0,.L iF a1] (T1 a0 a1) λr=>.tup [.L c5.Pv r.1,.L iF r.2]:=by
 refine pO Tryz.func201 λr h _ _=>?_
 refine S4 2 J<|S4 1 J ?_
 refine jq h (λq=>St.of [(0,.L c5.Pv q.1),(6,.sl 910006)] [(910006,⟨List.map iF q.2,(List.map iF q.2).length,true,1,true⟩)]) (λq20 h=>?_) λκ17 h=>?_
 ·obtain⟨j18,j19⟩:=q20
  refine S4 4 J<|b7 ?_
  cases h
  exact f2
 ·refine S3 1 J ?_
  refine nL J Ty.A5<|S2 1 J<|g8<|lq h (λq=>St.of [(0,.L c5.Pv q.1),(6,.sl 910006),(12,.L iF a1),(13,.I (a1.length:Int)),(14,.I q.2.1)] [(910006,⟨List.map iF q.2.2,(List.map iF q.2.2).length,true,1,true⟩)]) (Wk.trans (F2 (t:=6) (l:=920006) (z:=1) J J) (WP (λl=>if l=910006 then 920006 else l))) λq26 x25 h hx14=>?_
  obtain⟨s22,s23,s24⟩:=q26
  refine S4 1 J<|c7 ?_
  refine cN h (λhc h=>?_) λhc h=>?_
  ·refine c4 ?_
   refine jq h (λq=>St.of [(0,.L c5.Pv q.1),(6,.sl 31),(12,.L iF a1),(13,.I (a1.length:Int)),(14,.I s23)] [(31,⟨List.map iF q.2,(List.map iF q.2).length,true,1,true⟩)]) (λq33 h=>?_) λκ30 h=>?_
   ·obtain⟨j31,j32⟩:=q33
    refine S6 2 J ?_
    exact eL h (Wk.trans (n0 _ [31]) (WP (λl=>if l=910006 then 31 else l)))
   ·refine g8 ?_
    refine sR<|iL h J J Ty.A5 Ty.s3 λv34 _ h=>S2 2 J<|S3 2 J<|cF h a8X J J λv35 _ h=>S2 7 J<|S4 2 J ?_
    refine cN h (λhc h=>?_) λhc h=>?_
    ·refine S5 3 J ?_
     refine y0 J (M2 (f:=iF) (l:=[v35.2.1]) J Ty.A5 Ty.s3 Ty.z3 J J nl J J)<|r8 h λv36 hv21 h=>L0 J (H5 (f:=iF) hv21 J J J J J J (.inl ⟨_,J,J⟩) Ty.A5 Ty.s3 Ty.b3 Ty.z3 J (λ_=>J)) J J J<|S2 2 J ?_
     exact eJ h (Wk.trans (n0 _ [31]) W)
    ·refine c4 ?_
     exact eJ h (Wk.trans (n0 _ [910006]) (WP (λl=>if l=31 then 910006 else l)))
  ·refine n7 ?_
   refine c8<|c8<|j5 ?_
   have h:=xL hx14 h
   exact eJ h (Wk.trans (n0 _ [910006]) W)

theorem a5A{a0 a1}:PO Tryz.prog 276 [g6.Pv a0,.I a1] (O1 a0 a1) λr=>.tup [g6.Pv r.1,.I r.2]:=by
 refine pO Tryz.func276 λr h _ _=>?_
 refine S4 3 J<|S3 2 J<|cF h a1k J J λv1 _ h=>S2 6 J<|c7<|S4 2 J ?_
 refine cN h (λhc h=>?_) λhc h=>?_
 ·refine S4 4 J ?_
  refine b7 ?_
  cases h
  exact⟨J,[_,_],⟨oL J J J Ty.a24 Ty.s24 nl J,⟨J,tr⟩⟩,J,io⟩
 ·refine c4 ?_
  refine dr [] Ty.U9 (by kernel_rfl) (by kernel_rfl)<|S7 2 J<|r8 h λv2 hv2 h=>d2 J (C6 J a6m J hv2) J<|S7 1 J<|r8 h λv3 hv3 h=>d2 J (C6 J a7V J hv3) J<|S7 1 J<|d7 J (λ_ hN=>m9 (cs:=[.I 2,.I v3,.I v1.1.Serial,.I v1.1.Strong,.I v1.1.Weak,.I v1.1.Prog,.bool v1.1.Started,.L iF v1.1.Fields]) J Ty.c4x Ty.c0Y J J J) J<|r8 h λv4 hv4 h=>d2f J (y4 J G3 J hv4) J<|G9 (x':=g6.Pv v4) (cl':=true) J J (.inr J) Ty.s24<|S8 1 J<|b7 ?_
  cases h
  exact⟨J,[_,_],⟨oL J J J Ty.a24 Ty.s24 nl J,⟨J,tr⟩⟩,J,io⟩

theorem b0S{a0 a1}:PO Tryz.prog 202 [b9.Pv a0,.I a1] (T7 a0 a1) λr=>b9.Pv r:=by
 refine pO Tryz.func202 λr h _ _=>?_
 refine S4 2 J<|S3 3 J<|cF h A7 J J λv1 _ h=>S2 6 J<|S3 1 J<|a3Y (x':=.agg [.I v1.1.Serial,.I v1.1.Strong,.I v1.1.Weak,.I v1.1.Prog,.bool v1.1.Started,.nl]) (cl':=true) J J (.inl J) Ty.s27<|S1 1 J<|a3Y (x':=.agg [.I v1.1.Serial,.I 0,.I v1.1.Weak,.I v1.1.Prog,.bool v1.1.Started,.nl]) (cl':=true) J J (.inl J) Ty.s3<|yN<|S3 4 J<|cF h Y6 J J λv2 _ h=>S2 5 J<|S3 4 J<|cF h a5A J J λv3 _ h=>S2 6 J<|c7<|S4 3 J ?_
 refine cN h (λhc h=>?_) λhc h=>?_
 ·refine S5 4 J ?_
  refine cF h a1a J J λv4 _ h=>S2 6 J<|S4 2 J<|b7 ?_
  cases h
  exact⟨J,[_],⟨oL J J J Ty.X6 Ty.P8 nl J,tr⟩,J,io⟩
 ·refine c4 ?_
  refine S4 2 J<|b7 ?_
  cases h
  exact⟨J,[_],⟨oL J J J Ty.X6 Ty.P8 nl J,tr⟩,J,io⟩

theorem b3o{a0 a1}:PO Tryz.prog 109 [b9.Pv a0,.L iF a1] (a0E a0 a1) λr=>b9.Pv r:=by
 refine pO Tryz.func109 λr h _ _=>?_
 refine S4 2 J<|S3 2 J<|cF h a7J J J λv1 _ h=>S2 1 J<|S3 2 J<|cF h a9P J J λv2 _ h=>S2 1 J<|S4 1 J<|S4 2 J ?_
 refine jq h (λj13=>St.of [(2,.ptr 2 0 0),(4,.ptr 4 0 0),(5,.L iF v1),(6,.ptr 6 0 0),(7,.fn (.func 199) [.ptr 6 0 0])] [(6,vS (.sl 910506) 1),(910506,⟨List.map iF j13,(List.map iF j13).length,true,1,true⟩),(4,vR (.agg [.nl,.I 0,.I 0,.nl,.nl,.nl,.nl,.I 0]) 8),(2,vR (b9.Pv v2) 8)]) (λj13 h=>?_) λκ12 h=>?_
 ·refine S3 3 J ?_
  refine cF h b0f J J λv14 _ h=>S2 5 J<|S3 2 J<|L4 (WPE (λl=>if l=2025 then 6 else if l=2026 then 4 else if l=2027 then 2 else if l=2028 then 910506 else l) [(2,.ptr 2027 0 0),(4,.ptr 2026 0 0),(5,.L iF v1),(6,.ptr 2025 0 0),(12,.L c5.Pv v14.1),(51,.fn (.func 199) [.ptr 2025 0 0]),(52,.L iF v14.2)] [(2025,vS (.sl 2028) 1),(2028,⟨List.map iF j13,(List.map iF j13).length,true,1,true⟩),(2026,vR (.agg [.nl,.I 0,.I 0,.nl,.nl,.nl,.nl,.I 0]) 8),(2027,vR (b9.Pv v2) 8)]) ?_
  refine b7F (fn:=Tryz.f199) (N1:=6) J J Tryz.func199 J Ty.c8f J J nl (λe14 o15=>?_)
  refine S5 2 J<|r8 h λv15 hv16 h=>L0 J (H5 (f:=iF) hv16 J J J J J J (.inl ⟨_,J,J⟩) Ty.A5 Ty.s3 Ty.b3 Ty.z3 J (λ_=>J)) J J J<|S2 1 J ?_
  refine⟨J,[],tr,?_⟩
  refine L4 (WPE (λl=>if l=2029 then 5 else l) [(2,.ptr 2027 0 0),(4,.ptr 2026 0 0),(5,.L iF v1),(6,.ptr 2025 0 0),(12,.L c5.Pv v14.1)] [(2025,vS (.sl 2029) 1),(2029,⟨List.map iF v15,j13.length,true,1,true⟩),(2026,vR (.agg [.nl,.I 0,.I 0,.nl,.nl,.nl,.nl,.I 0]) 8),(2027,vR (b9.Pv v2) 8)])<|yN<|S4 3 J ?_
  refine jq h (λj24=>St.of [(2,.ptr 2027 0 0),(4,.ptr 2026 0 0),(6,.ptr 2025 0 0)] [(2025,vS (.sl 2029) 1),(2029,⟨List.map iF v15,j13.length,true,1,true⟩),(2026,vR (.agg [.nl,.I 0,.I 0,.nl,.nl,.nl,.nl,.I 0]) 8),(2027,vR (b9.Pv j24) 8)]) (λj24 h=>?_) λκ23 h=>?_
  ·refine jq h (λj33=>St.of [(2,.ptr 2027 0 0),(4,.ptr 2026 0 0)] [(2026,vR (.agg [.nl,.I 0,.I 0,.nl,.nl,.nl,.nl,.I 0]) 8),(2027,vR (b9.Pv j33) 8)]) (λj33 h=>?_) λκ32 h=>?_
   ·refine S4 2 J ?_
    refine b7 ?_
    cases h
    exact⟨J,[_],⟨oL J J J Ty.X6 Ty.P8 nl J,tr⟩,J,io⟩
   ·refine S3 1 J ?_
    refine y0 J (b6S (f:=iF) J J J Ty.A5)<|S2 1 J<|g8<|lq h (λq=>St.of [(2,.ptr 2027 0 0),(4,.ptr 2026 0 0),(66,.sl 2029),(67,.I (v15.length:Int)),(68,.I q.1)] [(2029,⟨List.map iF v15,j13.length,true,1,true⟩),(2026,vR (.agg [.nl,.I 0,.I 0,.nl,.nl,.nl,.nl,.I 0]) 8),(2027,vR (b9.Pv q.2) 8)]) W λq38 x37 h hx31=>?_
    obtain⟨s35,s36⟩:=q38
    refine S4 1 J<|c7 ?_
    refine cN h (λhc h=>?_) λhc h=>?_
    ·refine c4 ?_
     refine c7<|g8<|sR<|r8 h λv39 hv32 h=>y0 J (Z0 (f:=iF) hv32 J J J J Ty.A5 Ty.s3 J)<|y0 J (b2J (f:=iF) hv32 J J J Ty.a3 J)<|S2 1 J<|S5 2 J<|cF h a0m J J λv40 _ h=>S2 1 J<|S6 2 J ?_
     exact eL h W
    ·refine n7 ?_
     refine c8<|c8<|j5 ?_
     have h:=xL hx31 h
     exact eJ h W
  ·refine S3 1 J ?_
   refine nL J Ty.A5<|S2 1 J<|g8<|lq h (λq=>St.of [(2,.ptr 2027 0 0),(4,.ptr 2026 0 0),(6,.ptr 2025 0 0),(56,.L iF v1),(57,.I (v1.length:Int)),(58,.I q.1)] [(2025,vS (.sl 2029) 1),(2029,⟨List.map iF v15,j13.length,true,1,true⟩),(2026,vR (.agg [.nl,.I 0,.I 0,.nl,.nl,.nl,.nl,.I 0]) 8),(2027,vR (b9.Pv q.2) 8)]) W λq45 x44 h hx36=>?_
   obtain⟨s42,s43⟩:=q45
   refine S4 1 J<|c7 ?_
   refine cN h (λhc h=>?_) λhc h=>?_
   ·refine c4 ?_
    refine c7<|g8<|sR<|iL h J J Ty.A5 Ty.s3 λv46 _ h=>S2 2 J<|S5 2 J<|cF h b0S J J λv47 _ h=>S2 1 J<|S6 2 J ?_
    exact eL h W
   ·refine n7 ?_
    refine c8<|c8<|j5 ?_
    have h:=xL hx36 h
    exact eJ h W
 ·refine S3 1 J ?_
  refine nL J Ty.A5<|S2 1 J<|g8<|lq h (λq=>St.of [(2,.ptr 2 0 0),(4,.ptr 4 0 0),(5,.L iF v1),(6,.ptr 6 0 0),(7,.fn (.func 199) [.ptr 6 0 0]),(25,.L iF v1),(26,.I (v1.length:Int)),(27,.I q.1)] [(6,vS (.sl 910506) 1),(4,vR (.agg [.nl,.I 0,.I 0,.nl,.nl,.nl,.nl,.I 0]) 8),(2,vR (b9.Pv v2) 8),(910506,⟨List.map iF q.2,(List.map iF q.2).length,true,1,true⟩)]) (Wk.trans (a7B (l0:=6) (j:=0) (l:=920506) (z:=1) J J J J J) (WP (λl=>if l=910506 then 920506 else l))) λq52 x51 h hx41=>?_
  obtain⟨s49,s50⟩:=q52
  refine S4 1 J<|c7 ?_
  refine cN h (λhc h=>?_) λhc h=>?_
  ·refine c4 ?_
   refine c7<|g8<|sR<|iL h J J Ty.A5 Ty.s3 λv53 _ h=>S2 2 J<|S3 3 J<|cF h A7 J J λv54 _ h=>S2 6 J<|S5 3 J<|cF h a9Y J J λv55 _ h=>L4 (WPE (λl=>if l=2049 then 6 else if l=2050 then 4 else if l=2051 then 2 else if l=2052 then 910506 else l) [(2,.ptr 2051 0 0),(4,.ptr 2050 0 0),(5,.L iF v1),(6,.ptr 2049 0 0),(7,.fn (.func 199) [.ptr 2049 0 0]),(25,.L iF v1),(26,.I (v1.length:Int)),(27,.I s49),(38,.fn (.func 199) [.ptr 2049 0 0]),(41,.L iF v55)] [(2049,vS (.sl 2052) 1),(2052,⟨List.map iF s50,(List.map iF s50).length,true,1,true⟩),(2050,vR (.agg [.nl,.I 0,.I 0,.nl,.nl,.nl,.nl,.I 0]) 8),(2051,vR (b9.Pv v2) 8)]) ?_
   refine b7F (fn:=Tryz.f199) (N1:=6) J J Tryz.func199 J Ty.c8f J J nl (λe45 o46=>?_)
   refine S5 2 J<|r8 h λv56 hv47 h=>L0 J (H5 (f:=iF) hv47 J J J J J J (.inl ⟨_,J,J⟩) Ty.A5 Ty.s3 Ty.b3 Ty.z3 J (λ_=>J)) J J J<|S2 1 J ?_
   refine⟨J,[],tr,?_⟩
   refine L4 (WPE (λl=>if l=2053 then 5 else l) [(2,.ptr 2051 0 0),(4,.ptr 2050 0 0),(5,.L iF v1),(6,.ptr 2049 0 0),(7,.fn (.func 199) [.ptr 2049 0 0]),(25,.L iF v1),(26,.I (v1.length:Int)),(27,.I s49)] [(2049,vS (.sl 2053) 1),(2053,⟨List.map iF v56,s50.length,true,1,true⟩),(2050,vR (.agg [.nl,.I 0,.I 0,.nl,.nl,.nl,.nl,.I 0]) 8),(2051,vR (b9.Pv v2) 8)])<|yN<|S6 2 J ?_
   exact eL h (Wk.trans (n0 _ [2053]) (WP (λl=>if l=2 then 2051 else if l=4 then 2050 else if l=6 then 2049 else if l=910506 then 2053 else l)))
  ·refine n7 ?_
   refine c8<|c8<|j5 ?_
   have h:=xL hx41 h
   exact eJ h (Wk.trans (n0 _ [910506]) W)

theorem b0Q{a0}:PO Tryz.prog 41 [b9.Pv a0] (a0g a0) λr=>b9.Pv r:=by
 refine pO Tryz.func41 λr h _ _=>?_
 refine S4 2 J<|lqS h (λs2=>St.of [(1,.ptr 1 0 0),(2,.ptr 2 0 0)] [(2,vR (.agg [.nl,.I 0,.I 0,.nl,.nl,.nl,.nl,.I 0]) 8),(1,vR (b9.Pv s2) 8)]) W λs2 x3 h hx3=>S3 1 J<|cF h b3p J J λv4 _ h=>S2 1 J<|c7<|S3 1 J<|nL J Ty.A5<|S2 1 J ?_
 refine cN h (λhc h=>?_) λhc h=>?_
 ·refine S4 2 J ?_
  refine b7 ?_
  have h:=xL hx3 h
  cases h
  exact⟨J,[_],⟨oL J J J Ty.X6 Ty.P8 nl J,tr⟩,J,io⟩
 ·refine c4 ?_
  refine c7<|dr [] Ty.U9 (by kernel_rfl) (by kernel_rfl)<|S7 3 J<|r8 h λv5 hv5 h=>d0 J (y5 (f:=iF) (cs:=[.I v5]) hv5 J J Ty.A5 Ty.s3 J J) J<|S7 1 J<|r8 h λv6 hv6 h=>d2f J (y4 J A7 J hv6) J<|S7 4 J<|G9 (x':=l4.Pv v6.1) (cl':=true) J J (.inr J) Ty.b7l<|S8 1 J<|S3 1 J<|cA h a3U J J λv7 _ h=>yN ?_
  refine cN h (λhc h=>?_) λhc h=>?_
  ·refine a2m [] Ty.U9 (by kernel_rfl) (by kernel_rfl) ?_
   refine S7 2 J<|d0 J (y5 (f:=iF) (cs:=[.I v5]) hv5 J J Ty.A5 Ty.s3 J J) J<|S7 1 J<|r8 h λv8 hv8 h=>d2f J (y4 J b0P J hv8) J<|G9 (x':=b9.Pv v8) (cl':=true) J J (.inr J) Ty.P8<|N6<|b9E ?_
   exact eS h W
  ·refine a2m [] Ty.U9 (by kernel_rfl) (by kernel_rfl) ?_
   refine S7 2 J<|r8 h λv9 hv9 h=>d0 J (c2n (f:=iF) hv9 J J ⟨_,J⟩ Ty.A5 Ty.s3 (λ_=>J)) J<|r8 h λv10 hv10 h=>d2f J (y4 J b3o J hv10) J<|G9 (x':=b9.Pv v10) (cl':=true) J J (.inr J) Ty.P8<|N6<|b9E ?_
   exact eS h W

theorem a9e{a0 a1}:PO Tryz.prog 18 [b9.Pv a0,.I a1] (a0Y a0 a1) λr=>.I r:=by
 refine pO Tryz.func18 λr h _ _=>?_
 refine S4 2 J<|S3 3 J<|cF h A7 J J λv1 _ h=>S2 6 J<|S4 3 J<|b7 ?_
 cases h
 exact f1

theorem a1P{a0 a1}:PO Tryz.prog 20 [b9.Pv a0,.I a1] (V9 a0 a1) λr=>.I r:=by
 refine pO Tryz.func20 λr h _ _=>?_
 unfold V9 at h
 refine S4 2 J<|dr [] Ty.U9 (by kernel_rfl) (by kernel_rfl)<|S7 3 J<|r8 h λv1 hv1 h=>d2 J (C6 J K2 J hv1) J<|r8 h λv2 hv2 h=>d2 J (C6 J a9e J hv2) J<|S8 1 J<|b7 ?_
 cases h
 exact f1

theorem a9f{a0 a1 a2}:PO Tryz.prog 42 [b9.Pv a0,b9.Pv a1,code_Op.Pv a2] (O9 a0 a1 a2) λr=>.I r:=by
 refine pO Tryz.func42 λr h _ _=>?_
 refine S4 4 J<|c7<|S4 2 J<|g8<|S4 2 J ?_
 refine cN h (λhc h=>?_) λhc h=>?_
 ·refine S3 3 J ?_
  refine cA h a1P J J λv1 _ h=>S2 1 J<|b7 ?_
  cases h
  exact f1
 ·refine jq h (λj3=>St.of [(3,.ptr 3 0 0),(4,.ptr 4 0 0),(5,.ptr 5 0 0),(8,.I a2.Kind),(15,.bool j3)] [(5,vR (code_Op.Pv a2) 4),(4,vR (b9.Pv a1) 8),(3,vR (b9.Pv a0) 8)]) (λj3 h=>?_) λκ2 h=>?_
  ·refine cN h (λhc h=>?_) λhc h=>?_
   ·refine S3 3 J ?_
    refine cA h a1P J J λv4 _ h=>S2 1 J<|b7 ?_
    cases h
    exact f1
   ·refine S4 2 J ?_
    refine cN h (λhc h=>?_) λhc h=>?_
    ·refine c7 ?_
     refine dr [] Ty.U9 (by kernel_rfl) (by kernel_rfl)<|S7 3 J<|r8 h λv5 hv4 h=>d2 J (C6 J K2 J hv4) J<|S7 3 J<|r8 h λv6 hv5 h=>d2 J (C6 J K2 J hv5) J<|S8 1 J ?_
     refine cN h (λhc h=>?_) λhc h=>?_
     ·refine S4 1 J ?_
      refine b7 ?_
      cases h
      exact f1
     ·refine c4 ?_
      refine S4 1 J<|b7 ?_
      cases h
      exact f1
    ·refine c4 ?_
     refine S3 3 J<|cA h a1P J J λv7 _ h=>S2 1 J<|b7 ?_
     cases h
     exact f1
  ·refine S4 2 J ?_
   refine cN h (λhc h=>?_) λhc h=>?_
   ·refine c4 ?_
    exact eJ h W
   ·refine S6 2 J ?_
    exact eJ h W

theorem a1Q{a0 a1}:PO Tryz.prog 12 [b9.Pv a0,code_Op.Pv a1] (p9 a0 a1) λr=>.tup [b9.Pv r.1,.I r.2.1,.I r.2.2]:=by
 refine pO Tryz.func12 λr h _ _=>?_
 refine S4 5 J<|c7<|S3 1 J<|cA h b3P J J λv1 _ h=>S2 1 J<|S4 2 J ?_
 refine cN h (λhc h=>?_) λhc h=>?_
 ·refine S4 5 J ?_
  refine b7 ?_
  cases h
  exact⟨J,[_,_,_],⟨oL J J J Ty.X6 Ty.P8 nl J,⟨J,⟨J,tr⟩⟩⟩,J,io⟩
 ·refine c4 ?_
  refine dr [] Ty.U9 (by kernel_rfl) (by kernel_rfl)<|r8 h λv2 hv2 h=>d2f J (y4 J b0p J hv2) J<|S7 2 J<|d4 J (c8x (es:=v2) (k:=a1.Kind) (E:=fvE) (EK:=iF) (d:=.tup [fvE ((z7 v2 a1.Kind).getD (none:Fv)),.bool ((z7 v2 a1.Kind).isSome)]) J J Ty.b2E (A3 Ty.u3) Ty.z90 J (lk2 _ _ _)) J<|S8 5 J<|c7<|S4 2 J ?_
  refine cN h (λhc h=>?_) λhc h=>?_
  ·refine S4 4 J ?_
   refine b7 ?_
   cases h
   exact⟨J,[_,_,_],⟨oL J J J Ty.X6 Ty.P8 nl J,⟨J,⟨J,tr⟩⟩⟩,J,io⟩
  ·refine c4 ?_
   refine S3 3 J<|y0 J (m9 (cs:=[.L b8.Pv a0.S.S.a7,.I a0.S.S.Last,.I a0.S.Serial,.L iF a0.Roots,.L c9.Pv a0.a7,.L c5.Pv a0.T,.L j2.Pv a0.Q.L,.I a0.Q.Cap,.I a1.Kind,.I a1.A,.I a1.B,.I a1.C]) J Ty.p96 Ty.z96 J J J) ?_
   obtain⟨v3,hv3,h⟩:=a6f h
   obtain⟨n4,he4,hk5,hp6⟩:=b72 hv3
   refine L4 (b9Y 30 J he4)<|yc J (b5h J hk5 J hp6)<|S2 6 J<|c7<|S4 2 J ?_
   refine cN h (λhc h=>?_) λhc h=>?_
   ·refine S4 5 J ?_
    refine b7 ?_
    cases h
    exact⟨J,[_,_,_],⟨oL J J J Ty.X6 Ty.P8 nl J,⟨J,⟨J,tr⟩⟩⟩,J,io⟩
   ·refine c4 ?_
    refine S3 1 J<|cF h b0Q J J λv5 _ h=>S2 2 J<|dr [] Ty.U9 (by kernel_rfl) (by kernel_rfl)<|S7 4 J<|r8 h λv6 hv8 h=>d2 J (C6 J a9f J hv8) J<|G9 (x':=b9.Pv v5) (cl':=true) J J (.inr J) Ty.P8<|S8 2 J<|b7 ?_
    cases h
    exact⟨J,[_,_,_],⟨oL J J J Ty.X6 Ty.P8 nl J,⟨J,⟨J,tr⟩⟩⟩,J,io⟩

end Go.Proofs.YtfihndcobnkiaaaGreat.Ok
