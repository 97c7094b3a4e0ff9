/-
 The functions of the program do as the plain functions do.
-/
import Derived.Test.YtjlokngooekbcaaGreatP21cPwC
import Derived.Test.YtjlokngooekbcaaGreatP21cPwD
import Derived.Test.YtjlokngooekbcaaGreatSrt
import Derived.Test.YtjlokngooekbcaaGreatSrtI
import Derived.Test.YtjlokngooekbcaaGreatP21cSh
import Derived.Test.YtjlokngooekbcaaGreatProg
set_option linter.unusedVariables false
set_option linter.unusedSimpArgs false
set_option linter.unusedSectionVars false
namespace Go.Proofs.YtjlokngooekbcaaGreat.Ok
open Go Go.Pw Go.Sh Go.Proofs
set_option maxRecDepth 100000
set_option maxHeartbeats 4000000
abbrev _root_.Go.Sh.g6.Pc(x:g6):List PV:=[.I x.Kind,.I x.A,.I x.B,.I x.C]
abbrev _root_.Go.Sh.g6.Pv(x:g6):PV:=.agg x.Pc
abbrev _root_.Go.Sh.m7.Pc(x:m7):List PV:=[.I x.Serial,.I x.Strong,.I x.Weak,.I x.Prog,.bool x.Started,.L iF x.Fields]
abbrev _root_.Go.Sh.m7.Pv(x:m7):PV:=.agg x.Pc
abbrev _root_.Go.Sh.b7.Pc(x:b7):List PV:=[.I x.State,.I x.Gen,.I x.Val.Serial,.I x.Val.Strong,.I x.Val.Weak,.I x.Val.Prog,.bool x.Val.Started,.L iF x.Val.Fields]
abbrev _root_.Go.Sh.b7.Pv(x:b7):PV:=.agg x.Pc
abbrev _root_.Go.Sh.c9.Pc(x:c9):List PV:=[.I x.Target,.bool x.Intact,.I x.Call]
abbrev _root_.Go.Sh.c9.Pv(x:c9):PV:=.agg x.Pc
abbrev _root_.Go.Sh.b9.Pc(x:b9):List PV:=[.I x.State,.I x.Key,.I x.Val]
abbrev _root_.Go.Sh.b9.Pv(x:b9):PV:=.agg x.Pc
abbrev _root_.Go.Sh.g9.Pc(x:g9):List PV:=[.I x.Kind,.I x.At,.I x.Prog]
abbrev _root_.Go.Sh.g9.Pv(x:g9):PV:=.agg x.Pc
abbrev _root_.Go.Sh.g8.Pc(x:g8):List PV:=[fvE x.part,.I x.least,.I x.most,.I x.e]
abbrev _root_.Go.Sh.g8.Pv(x:g8):PV:=.agg x.Pc
abbrev _root_.Go.Sh.c7.Pc(x:c7):List PV:=[.L b7.Pv x.a8,.I x.Last]
abbrev _root_.Go.Sh.c7.Pv(x:c7):PV:=.agg x.Pc
abbrev _root_.Go.Sh.a7.Pc(x:a7):List PV:=[.L b7.Pv x.S.a8,.I x.S.Last,.I x.Serial]
abbrev _root_.Go.Sh.a7.Pv(x:a7):PV:=.agg x.Pc
abbrev _root_.Go.Sh.c8.Pc(x:c8):List PV:=[.L g9.Pv x.L,.I x.Cap]
abbrev _root_.Go.Sh.c8.Pv(x:c8):PV:=.agg x.Pc
abbrev _root_.Go.Sh.b6.Pc(x:b6):List PV:=[.L b7.Pv x.S.S.a8,.I x.S.S.Last,.I x.S.Serial,.L iF x.Roots,.L c9.Pv x.a8,.L b9.Pv x.T,.L g9.Pv x.Q.L,.I x.Q.Cap]
abbrev _root_.Go.Sh.b6.Pv(x:b6):PV:=.agg x.Pc
abbrev _root_.Go.Sh.n7.Pc(x:n7):List PV:=[.L b7.Pv x.X.S.S.a8,.I x.X.S.S.Last,.I x.X.S.Serial,.L iF x.X.Roots,.L c9.Pv x.X.a8,.L b9.Pv x.X.T,.L g9.Pv x.X.Q.L,.I x.X.Q.Cap,.L (Ls g6.Pv) x.Progs]
abbrev _root_.Go.Sh.n7.Pv(x:n7):PV:=.agg x.Pc
abbrev _root_.Go.Sh.k9.Pc(x:k9):List PV:=[.I x.V,.I x.E]
abbrev _root_.Go.Sh.k9.Pv(x:k9):PV:=.agg x.Pc
abbrev _root_.Go.Sh.r8.Pc(x:r8):List PV:=[.L b7.Pv x.x.S.S.a8,.I x.x.S.S.Last,.I x.x.S.Serial,.L iF x.x.Roots,.L c9.Pv x.x.a8,.L b9.Pv x.x.T,.L g9.Pv x.x.Q.L,.I x.x.Q.Cap,.I x.o.Kind,.I x.o.A,.I x.o.B,.I x.o.C]
abbrev _root_.Go.Sh.r8.Pv(x:r8):PV:=.agg x.Pc
abbrev _root_.Go.Sh.H6.Pc(x:H6):List PV:=[.I x.r,.I x.h]
abbrev _root_.Go.Sh.H6.Pv(x:H6):PV:=.agg x.Pc
abbrev _root_.Go.Sh.G3.Pc(x:G3):List PV:=[.I x.h,.I x.k,.I x.v]
abbrev _root_.Go.Sh.G3.Pv(x:G3):PV:=.agg x.Pc
abbrev _root_.Go.Sh.H5.Pc(x:H5):List PV:=[.L b9.Pv x.t]
abbrev _root_.Go.Sh.H5.Pv(x:H5):PV:=.agg x.Pc
abbrev _root_.Go.Sh.n0.Pc(x:n0):List PV:=[.I x.Key,.I x.Val]
abbrev _root_.Go.Sh.n0.Pv(x:n0):PV:=.agg x.Pc
abbrev _root_.Go.Sh.k8.Pc(x:k8):List PV:=[.L iF x.L,.I x.Cap]
abbrev _root_.Go.Sh.k8.Pv(x:k8):PV:=.agg x.Pc
abbrev _root_.Go.Sh.r9.Pc(x:r9):List PV:=[.I x.Kind,.I x.A,.I x.B,.I x.C]
abbrev _root_.Go.Sh.r9.Pv(x:r9):PV:=.agg x.Pc
abbrev _root_.Go.Sh.C5.Pc(x:C5):List PV:=[.I x.Serial,.I x.Strong,.I x.Weak,.I x.Prog,.bool x.Started,.L iF x.Fields]
abbrev _root_.Go.Sh.C5.Pv(x:C5):PV:=.agg x.Pc
abbrev _root_.Go.Sh.o0.Pc(x:o0):List PV:=[.I x.State,.I x.Gen,.I x.Val.Serial,.I x.Val.Strong,.I x.Val.Weak,.I x.Val.Prog,.bool x.Val.Started,.L iF x.Val.Fields]
abbrev _root_.Go.Sh.o0.Pv(x:o0):PV:=.agg x.Pc
abbrev _root_.Go.Sh.o6.Pc(x:o6):List PV:=[.I x.Target,.bool x.Intact,.I x.Call]
abbrev _root_.Go.Sh.o6.Pv(x:o6):PV:=.agg x.Pc
abbrev _root_.Go.Sh.l5.Pc(x:l5):List PV:=[.I x.State,.I x.Key,.I x.Val]
abbrev _root_.Go.Sh.l5.Pv(x:l5):PV:=.agg x.Pc
abbrev _root_.Go.Sh.s7.Pc(x:s7):List PV:=[.I x.Kind,.I x.At,.I x.Prog]
abbrev _root_.Go.Sh.s7.Pv(x:s7):PV:=.agg x.Pc
abbrev _root_.Go.Sh.A9.Pc(x:A9):List PV:=[.I x.State,.I x.Gen,.I x.Val]
abbrev _root_.Go.Sh.A9.Pv(x:A9):PV:=.agg x.Pc
abbrev _root_.Go.Sh.C1.Pc(x:C1):List PV:=[.L A9.Pv x.a8,.I x.Last]
abbrev _root_.Go.Sh.C1.Pv(x:C1):PV:=.agg x.Pc
abbrev _root_.Go.Sh.l7.Pc(x:l7):List PV:=[.L o0.Pv x.a8,.I x.Last,.I x.Serial]
abbrev _root_.Go.Sh.l7.Pv(x:l7):PV:=.agg x.Pc
abbrev _root_.Go.Sh.w9.Pc(x:w9):List PV:=[.L s7.Pv x.L,.I x.Cap]
abbrev _root_.Go.Sh.w9.Pv(x:w9):PV:=.agg x.Pc
abbrev _root_.Go.Sh.g7.Pc(x:g7):List PV:=[.L o0.Pv x.S.a8,.I x.S.Last,.I x.S.Serial,.L iF x.Roots,.L o6.Pv x.a8,.L l5.Pv x.T,.L s7.Pv x.Q.L,.I x.Q.Cap]
abbrev _root_.Go.Sh.g7.Pv(x:g7):PV:=.agg x.Pc
abbrev _root_.Go.Sh.A2.Pc(x:A2):List PV:=[.L o0.Pv x.X.S.a8,.I x.X.S.Last,.I x.X.S.Serial,.L iF x.X.Roots,.L o6.Pv x.X.a8,.L l5.Pv x.X.T,.L s7.Pv x.X.Q.L,.I x.X.Q.Cap,.L (Ls r9.Pv) x.Progs]
abbrev _root_.Go.Sh.A2.Pv(x:A2):PV:=.agg x.Pc
abbrev _root_.Go.Sh.B9.Pc(x:B9):List PV:=[.I x.Key,.I x.Val]
abbrev _root_.Go.Sh.B9.Pv(x:B9):PV:=.agg x.Pc
abbrev _root_.Go.Sh.p8.Pc(x:p8):List PV:=[.I x.V,.I x.E]
abbrev _root_.Go.Sh.p8.Pv(x:p8):PV:=.agg x.Pc
def a9S(t:Nat):Nat:=if t=132 then 4 else if t=136 then 0 else if t=140 then 1 else 0
theorem C7:F4 Tryz.prog 3=some false:=by kernel_rfl
theorem b3Z:F4 Tryz.prog 4=some false:=by kernel_rfl
theorem d1u:F4 Tryz.prog 22=some false:=by kernel_rfl
theorem d1v:F4 Tryz.prog 25=some false:=by kernel_rfl
theorem a3o:F4 Tryz.prog 27=some true:=by kernel_rfl
theorem a6o:F4 Tryz.prog 29=some true:=by kernel_rfl
theorem a7O:F4 Tryz.prog 30=some false:=by kernel_rfl
theorem c5n:F4 Tryz.prog 31=some false:=by kernel_rfl
theorem b3Y:F4 Tryz.prog 32=some false:=by kernel_rfl
theorem d1w:F4 Tryz.prog 33=some false:=by kernel_rfl
theorem a5j:F4 Tryz.prog 35=some true:=by kernel_rfl
theorem s6:F4 Tryz.prog 37=some true:=by kernel_rfl
theorem a1I:F4 Tryz.prog 39=some true:=by kernel_rfl
theorem a6p:F4 Tryz.prog 40=some false:=by kernel_rfl
theorem a7P:F4 Tryz.prog 43=some false:=by kernel_rfl
theorem c0U:F4 Tryz.prog 45=some true:=by kernel_rfl
theorem c5o:F4 Tryz.prog 46=some false:=by kernel_rfl
theorem c5p:F4 Tryz.prog 47=some false:=by kernel_rfl
theorem c5q:F4 Tryz.prog 48=some false:=by kernel_rfl
theorem b6Z:F4 Tryz.prog 50=some true:=by kernel_rfl
theorem b60:F4 Tryz.prog 52=some true:=by kernel_rfl
theorem d1x:F4 Tryz.prog 53=some false:=by kernel_rfl
theorem c0V:F4 Tryz.prog 55=some true:=by kernel_rfl
theorem a5k:F4 Tryz.prog 66=some true:=by kernel_rfl
theorem c5r:F4 Tryz.prog 73=some true:=by kernel_rfl
theorem b30:F4 Tryz.prog 96=some true:=by kernel_rfl
theorem b3m:F4 Tryz.prog 104=some true:=by kernel_rfl
theorem b3n:F4 Tryz.prog 110=some true:=by kernel_rfl
theorem c8n:F4 Tryz.prog 113=some false:=by kernel_rfl
theorem b0p:F4 Tryz.prog 150=some true:=by kernel_rfl
theorem c8o:F4 Tryz.prog 152=some false:=by kernel_rfl
theorem b6Y:F4 Tryz.prog 154=some true:=by kernel_rfl
theorem a1H:F4 Tryz.prog 191=some true:=by kernel_rfl
theorem a3H:F4 Tryz.prog 251=some true:=by kernel_rfl
theorem c2y:F4 Tryz.prog 331=some false:=by kernel_rfl
theorem a8P:F4 Tryz.prog 430=some true:=by kernel_rfl
theorem K1:G0 Tryz.prog 3=some 8:=by kernel_rfl
theorem d1y:G0 Tryz.prog 66=some 16:=by kernel_rfl
theorem d1z:G0 Tryz.prog 69=some 16:=by kernel_rfl
theorem c2z:G0 Tryz.prog 101=some 80:=by kernel_rfl
theorem c8p:G0 Tryz.prog 104=some 32:=by kernel_rfl
theorem c8q:G0 Tryz.prog 113=some 24:=by kernel_rfl
theorem c2A:G0 Tryz.prog 180=some 80:=by kernel_rfl
theorem c2B:G0 Tryz.prog 183=some 24:=by kernel_rfl
theorem c2C:G0 Tryz.prog 185=some 24:=by kernel_rfl
theorem c8r:G0 Tryz.prog 187=some 24:=by kernel_rfl
theorem c2D:G0 Tryz.prog 189=some 24:=by kernel_rfl
theorem c2E:G0 Tryz.prog 190=some 24:=by kernel_rfl
theorem c8s:G0 Tryz.prog 191=some 24:=by kernel_rfl
theorem c2F:G0 Tryz.prog 221=some 24:=by kernel_rfl
theorem c8t:G0 Tryz.prog 238=some 16:=by kernel_rfl
theorem c2G:G0 Tryz.prog 445=some 16:=by kernel_rfl
theorem a2q:z7 Tryz.prog 22=some 109:=by kernel_rfl
theorem M4:z7 Tryz.prog 25=some 180:=by kernel_rfl
theorem j5:z7 Tryz.prog 30=some 3:=by kernel_rfl
theorem R3:z7 Tryz.prog 31=some 189:=by kernel_rfl
theorem Y5:z7 Tryz.prog 32=some 190:=by kernel_rfl
theorem a4a:z7 Tryz.prog 33=some 191:=by kernel_rfl
theorem M5:z7 Tryz.prog 43=some 101:=by kernel_rfl
theorem a4b:z7 Tryz.prog 46=some 183:=by kernel_rfl
theorem a0M:z7 Tryz.prog 47=some 185:=by kernel_rfl
theorem a7Q:z7 Tryz.prog 48=some 187:=by kernel_rfl
theorem a5l:z7 Tryz.prog 53=some 113:=by kernel_rfl
theorem b1U:z7 Tryz.prog 82=some 30:=by kernel_rfl
theorem a2r:z7 Tryz.prog 84=some 66:=by kernel_rfl
theorem a7R:z7 Tryz.prog 87=some 69:=by kernel_rfl
theorem a2K:z7 Tryz.prog 109=some 110:=by kernel_rfl
theorem a6q:z7 Tryz.prog 113=some 104:=by kernel_rfl
theorem a4M:z7 Tryz.prog 152=some 221:=by kernel_rfl
theorem a4N:z7 Tryz.prog 235=some 238:=by kernel_rfl
theorem a0s:z7 Tryz.prog 245=some 251:=by kernel_rfl
theorem a6r:z7 Tryz.prog 443=some 445:=by kernel_rfl
theorem c5s:I5 Tryz.prog 27 0=some (0,25):=by kernel_rfl
theorem c5t:I5 Tryz.prog 35 0=some (0,33):=by kernel_rfl
theorem b31:I5 Tryz.prog 37 1=some (3,30):=by kernel_rfl
theorem b86:I5 Tryz.prog 37 2=some (4,31):=by kernel_rfl
theorem c5u:I5 Tryz.prog 37 3=some (5,32):=by kernel_rfl
theorem b87:I5 Tryz.prog 37 4=some (6,35):=by kernel_rfl
theorem b32:I5 Tryz.prog 39 0=some (0,37):=by kernel_rfl
theorem c5v:I5 Tryz.prog 39 1=some (8,22):=by kernel_rfl
theorem a2Y:I5 Tryz.prog 45 0=some (0,43):=by kernel_rfl
theorem b88:I5 Tryz.prog 45 2=some (2,3):=by kernel_rfl
theorem b89:I5 Tryz.prog 50 0=some (0,48):=by kernel_rfl
theorem b9a:I5 Tryz.prog 52 1=some (3,30):=by kernel_rfl
theorem b9b:I5 Tryz.prog 52 2=some (4,46):=by kernel_rfl
theorem b9c:I5 Tryz.prog 52 3=some (5,47):=by kernel_rfl
theorem b9d:I5 Tryz.prog 52 4=some (6,50):=by kernel_rfl
theorem c5w:I5 Tryz.prog 55 0=some (0,52):=by kernel_rfl
theorem c5x:I5 Tryz.prog 55 1=some (8,53):=by kernel_rfl
theorem a7S:I5 Tryz.prog 66 0=some (0,3):=by kernel_rfl
theorem b0q:I5 Tryz.prog 66 1=some (1,40):=by kernel_rfl
theorem b9e:I5 Tryz.prog 96 0=some (0,3):=by kernel_rfl
theorem b9f:I5 Tryz.prog 96 1=some (1,3):=by kernel_rfl
theorem b9g:I5 Tryz.prog 96 2=some (2,3):=by kernel_rfl
theorem b9h:I5 Tryz.prog 96 3=some (3,3):=by kernel_rfl
theorem b9i:I5 Tryz.prog 96 4=some (4,4):=by kernel_rfl
theorem b9j:I5 Tryz.prog 96 5=some (5,30):=by kernel_rfl
theorem b50:I5 Tryz.prog 101 1=some (1,3):=by kernel_rfl
theorem a8Q:I5 Tryz.prog 101 2=some (2,96):=by kernel_rfl
theorem c36:I5 Tryz.prog 104 0=some (0,3):=by kernel_rfl
theorem c37:I5 Tryz.prog 110 0=some (0,3):=by kernel_rfl
theorem c38:I5 Tryz.prog 150 1=some (1,3):=by kernel_rfl
theorem c39:I5 Tryz.prog 150 2=some (2,3):=by kernel_rfl
theorem b51:I5 Tryz.prog 150 4=some (4,4):=by kernel_rfl
theorem c4a:I5 Tryz.prog 154 0=some (0,152):=by kernel_rfl
theorem b52:I5 Tryz.prog 180 0=some (0,3):=by kernel_rfl
theorem c4b:I5 Tryz.prog 180 2=some (2,150):=by kernel_rfl
theorem c4c:I5 Tryz.prog 185 1=some (1,3):=by kernel_rfl
theorem b53:I5 Tryz.prog 189 0=some (0,3):=by kernel_rfl
theorem c4d:I5 Tryz.prog 189 1=some (1,4):=by kernel_rfl
theorem c4e:I5 Tryz.prog 190 1=some (1,3):=by kernel_rfl
theorem b54:I5 Tryz.prog 221 0=some (0,3):=by kernel_rfl
theorem c4f:I5 Tryz.prog 238 0=some (0,3):=by kernel_rfl
theorem c4g:I5 Tryz.prog 238 1=some (1,3):=by kernel_rfl
theorem c4h:I5 Tryz.prog 251 2=some (2,3):=by kernel_rfl
theorem c4i:I5 Tryz.prog 445 0=some (0,3):=by kernel_rfl
theorem b55:I5 Tryz.prog 445 1=some (1,3):=by kernel_rfl
theorem c5y:c72 Tryz.prog 3=some .i64:=by kernel_rfl
theorem d1A:B5 Tryz.prog 70:=kC Tryz.func70 J
theorem c8u:B5 Tryz.prog 109:=kC Tryz.func109 J
theorem c8v:B5 Tryz.prog 123:=kC Tryz.func123 J
theorem c8w:B5 Tryz.prog 124:=kC Tryz.func124 J
theorem c2H:B5 Tryz.prog 172:=kC Tryz.func172 J
theorem c8x:B5 Tryz.prog 178:=kC Tryz.func178 J
theorem c8y:B5 Tryz.prog 303:=kC Tryz.func303 J
theorem c8z:B5 Tryz.prog 310:=kC Tryz.func310 J
theorem c8A:B5 Tryz.prog 320:=kC Tryz.func320 J
theorem c8B:B5 Tryz.prog 331:=kC Tryz.func331 J
theorem c8C:B5 Tryz.prog 332:=kC Tryz.func332 J
theorem c8D:B5 Tryz.prog 361:=kC Tryz.func361 J
theorem c8E:B5 Tryz.prog 363:=kC Tryz.func363 J
theorem c2I:B5 Tryz.prog 364:=kC Tryz.func364 J
theorem c2J:B5 Tryz.prog 367:=kC Tryz.func367 J
theorem c8F:B5 Tryz.prog 387:=kC Tryz.func387 J
theorem c2K:B5 Tryz.prog 388:=kC Tryz.func388 J
theorem a0e:b1H Tryz.prog 196=some (3,194):=by kernel_rfl
theorem b33:b1H Tryz.prog 222=some (3,3):=by kernel_rfl
theorem T6:b1H Tryz.prog 247=some (3,245):=by kernel_rfl
theorem a2Z:b1H Tryz.prog 331=some (3,4):=by kernel_rfl
theorem c5z:B3 Tryz.prog 27=some (λi=>(#[(0,1),(1,1)]:Array (Nat × Nat))[i]?):=by kernel_rfl
theorem c5A:B3 Tryz.prog 29=some (λi=>(#[(0,2),(2,1)]:Array (Nat × Nat))[i]?):=by kernel_rfl
theorem d1B:B3 Tryz.prog 35=some (λi=>(#[(0,1),(1,1)]:Array (Nat × Nat))[i]?):=by kernel_rfl
theorem c5B:B3 Tryz.prog 37=some (λi=>(#[(0,3),(3,1),(4,1),(5,1),(6,2)]:Array (Nat × Nat))[i]?):=by kernel_rfl
theorem c0W:B3 Tryz.prog 39=some (λi=>(#[(0,8),(8,1)]:Array (Nat × Nat))[i]?):=by kernel_rfl
theorem c5C:B3 Tryz.prog 45=some (λi=>(#[(0,1),(1,1),(2,1)]:Array (Nat × Nat))[i]?):=by kernel_rfl
theorem c5D:B3 Tryz.prog 50=some (λi=>(#[(0,1),(1,1)]:Array (Nat × Nat))[i]?):=by kernel_rfl
theorem c0X:B3 Tryz.prog 52=some (λi=>(#[(0,3),(3,1),(4,1),(5,1),(6,2)]:Array (Nat × Nat))[i]?):=by kernel_rfl
theorem c0Y:B3 Tryz.prog 55=some (λi=>(#[(0,8),(8,1)]:Array (Nat × Nat))[i]?):=by kernel_rfl
theorem c0Z:B3 Tryz.prog 66=some (λi=>(#[(0,1),(1,1)]:Array (Nat × Nat))[i]?):=by kernel_rfl
theorem d1C:B3 Tryz.prog 73=some (λi=>some (i*1,1)):=by kernel_rfl
theorem c5E:B3 Tryz.prog 96=some (λi=>(#[(0,1),(1,1),(2,1),(3,1),(4,1),(5,1)]:Array (Nat × Nat))[i]?):=by kernel_rfl
theorem c8G:B3 Tryz.prog 101=some (λi=>(#[(0,1),(1,1),(2,6)]:Array (Nat × Nat))[i]?):=by kernel_rfl
theorem b61:B3 Tryz.prog 104=some (λi=>(#[(0,1),(1,1),(2,1),(3,1)]:Array (Nat × Nat))[i]?):=by kernel_rfl
theorem b3o:B3 Tryz.prog 110=some (λi=>(#[(0,1),(1,1),(2,1),(3,1)]:Array (Nat × Nat))[i]?):=by kernel_rfl
theorem c8H:B3 Tryz.prog 132=some (λi=>(#[(0,4)]:Array (Nat × Nat))[i]?):=by kernel_rfl
theorem c8I:B3 Tryz.prog 136=some (λi=>(#[]:Array (Nat × Nat))[i]?):=by kernel_rfl
theorem c8J:B3 Tryz.prog 140=some (λi=>(#[(0,1)]:Array (Nat × Nat))[i]?):=by kernel_rfl
theorem c8K:B3 Tryz.prog 150=some (λi=>(#[(0,1),(1,1),(2,1),(3,1),(4,1),(5,1)]:Array (Nat × Nat))[i]?):=by kernel_rfl
theorem b62:B3 Tryz.prog 154=some (λi=>(#[(0,1),(1,1)]:Array (Nat × Nat))[i]?):=by kernel_rfl
theorem b3p:B3 Tryz.prog 180=some (λi=>(#[(0,1),(1,1),(2,6)]:Array (Nat × Nat))[i]?):=by kernel_rfl
theorem c8L:B3 Tryz.prog 183=some (λi=>(#[(0,1),(1,1),(2,1)]:Array (Nat × Nat))[i]?):=by kernel_rfl
theorem c8M:B3 Tryz.prog 189=some (λi=>(#[(0,1),(1,1),(2,1)]:Array (Nat × Nat))[i]?):=by kernel_rfl
theorem c2L:B3 Tryz.prog 190=some (λi=>(#[(0,1),(1,1),(2,1)]:Array (Nat × Nat))[i]?):=by kernel_rfl
theorem b63:B3 Tryz.prog 191=some (λi=>(#[(0,1),(1,1),(2,1)]:Array (Nat × Nat))[i]?):=by kernel_rfl
theorem c8N:B3 Tryz.prog 200=some (λi=>(#[(0,8),(8,4)]:Array (Nat × Nat))[i]?):=by kernel_rfl
theorem c8O:B3 Tryz.prog 221=some (λi=>(#[(0,1),(1,1),(2,1)]:Array (Nat × Nat))[i]?):=by kernel_rfl
theorem c8P:B3 Tryz.prog 238=some (λi=>(#[(0,1),(1,1)]:Array (Nat × Nat))[i]?):=by kernel_rfl
theorem a1J:B3 Tryz.prog 251=some (λi=>(#[(0,1),(1,1),(2,1),(3,1)]:Array (Nat × Nat))[i]?):=by kernel_rfl
theorem c8Q:B3 Tryz.prog 374=some (λi=>(#[(0,1),(1,1),(2,1)]:Array (Nat × Nat))[i]?):=by kernel_rfl
theorem c8R:B3 Tryz.prog 382=some (λi=>(#[(0,1)]:Array (Nat × Nat))[i]?):=by kernel_rfl
theorem c8S:B3 Tryz.prog 398=some (λi=>(#[(0,1)]:Array (Nat × Nat))[i]?):=by kernel_rfl
theorem c8T:B3 Tryz.prog 400=some (λi=>(#[(0,1),(1,1)]:Array (Nat × Nat))[i]?):=by kernel_rfl
theorem c8U:B3 Tryz.prog 430=some (λi=>(#[(0,1),(1,1)]:Array (Nat × Nat))[i]?):=by kernel_rfl
theorem c2M:B3 Tryz.prog 445=some (λi=>(#[(0,1),(1,1)]:Array (Nat × Nat))[i]?):=by kernel_rfl
theorem c5F:a3r Tryz.prog 66=some [1,1]:=by kernel_rfl
theorem d1D:a3r Tryz.prog 69=some [1,1]:=by kernel_rfl
theorem d1E:a3r Tryz.prog 73=some [1,1,1,1]:=by kernel_rfl
theorem c2N:a98 Tryz.prog 132=true:=by kernel_rfl
theorem c2O:a98 Tryz.prog 136=true:=by kernel_rfl
theorem c2P:a98 Tryz.prog 140=true:=by kernel_rfl
theorem c8V:a3r Tryz.prog 183=some [1,0,1]:=by kernel_rfl
theorem c8W:a3r Tryz.prog 185=some [1,1,1]:=by kernel_rfl
theorem c8X:a3r Tryz.prog 187=some [1,1,1]:=by kernel_rfl
theorem c00:b8I Tryz.prog 73=some (4,3):=by kernel_rfl
theorem o5:p7 Tryz.prog 3=some 1:=by kernel_rfl
theorem d4k:p7 Tryz.prog 4=some 1:=by kernel_rfl
theorem a1L:p7 Tryz.prog 27=some 2:=by kernel_rfl
theorem a6u:p7 Tryz.prog 29=some 3:=by kernel_rfl
theorem b1V:p7 Tryz.prog 30=some 1:=by kernel_rfl
theorem c5G:p7 Tryz.prog 33=some 1:=by kernel_rfl
theorem a1M:p7 Tryz.prog 35=some 2:=by kernel_rfl
theorem o9:p7 Tryz.prog 37=some 8:=by kernel_rfl
theorem T7:p7 Tryz.prog 39=some 9:=by kernel_rfl
theorem b64:p7 Tryz.prog 45=some 3:=by kernel_rfl
theorem b34:p7 Tryz.prog 50=some 2:=by kernel_rfl
theorem a9T:p7 Tryz.prog 52=some 8:=by kernel_rfl
theorem b35:p7 Tryz.prog 55=some 9:=by kernel_rfl
theorem M6:p7 Tryz.prog 66=some 2:=by kernel_rfl
theorem b36:p7 Tryz.prog 69=some 2:=by kernel_rfl
theorem c5H:p7 Tryz.prog 73=some 4:=by kernel_rfl
theorem a9U:p7 Tryz.prog 96=some 6:=by kernel_rfl
theorem N5:p7 Tryz.prog 101=some 8:=by kernel_rfl
theorem a2L:p7 Tryz.prog 104=some 4:=by kernel_rfl
theorem a8R:p7 Tryz.prog 109=some 1:=by kernel_rfl
theorem a3I:p7 Tryz.prog 110=some 4:=by kernel_rfl
theorem a6s:p7 Tryz.prog 113=some 1:=by kernel_rfl
theorem c8Y:p7 Tryz.prog 136=some 0:=by kernel_rfl
theorem a4O:p7 Tryz.prog 150=some 6:=by kernel_rfl
theorem c8Z:p7 Tryz.prog 152=some 1:=by kernel_rfl
theorem b0r:p7 Tryz.prog 154=some 2:=by kernel_rfl
theorem P8:p7 Tryz.prog 180=some 8:=by kernel_rfl
theorem a4P:p7 Tryz.prog 183=some 3:=by kernel_rfl
theorem a1K:p7 Tryz.prog 185=some 3:=by kernel_rfl
theorem b0s:p7 Tryz.prog 187=some 3:=by kernel_rfl
theorem V7:p7 Tryz.prog 189=some 3:=by kernel_rfl
theorem a0t:p7 Tryz.prog 190=some 3:=by kernel_rfl
theorem K2:p7 Tryz.prog 191=some 3:=by kernel_rfl
theorem a8S:p7 Tryz.prog 221=some 3:=by kernel_rfl
theorem a6t:p7 Tryz.prog 238=some 2:=by kernel_rfl
theorem K3:p7 Tryz.prog 251=some 4:=by kernel_rfl
theorem a4Q:p7 Tryz.prog 430=some 2:=by kernel_rfl
theorem b0t:p7 Tryz.prog 445=some 2:=by kernel_rfl
theorem L4:Tryz.prog.underlying 3=some (.int .i64):=by kernel_rfl
theorem d0N:Tryz.prog.underlying 4=some (.bool):=by kernel_rfl
theorem c5I:Tryz.prog.underlying 5=some (.int .u8):=by kernel_rfl
theorem A3:x4 Tryz.prog 3=some ((.I 0)):=by kernel_rfl
theorem b9k:x4 Tryz.prog 4=some ((.bool false)):=by kernel_rfl
theorem c5J:x4 Tryz.prog 27=some ((.agg #[(.slice none 0 0),(.I 0)])):=by kernel_rfl
theorem c5K:x4 Tryz.prog 29=some ((.agg #[(.slice none 0 0),(.I 0),(.I 0)])):=by kernel_rfl
theorem d1F:x4 Tryz.prog 30=some ((.slice none 0 0)):=by kernel_rfl
theorem d1G:x4 Tryz.prog 35=some ((.agg #[(.slice none 0 0),(.I 0)])):=by kernel_rfl
theorem c5L:x4 Tryz.prog 37=some ((.agg #[(.slice none 0 0),(.I 0),(.I 0),(.slice none 0 0),(.slice none 0 0),(.slice none 0 0),(.slice none 0 0),(.I 0)])):=by kernel_rfl
theorem c01:x4 Tryz.prog 39=some ((.agg #[(.slice none 0 0),(.I 0),(.I 0),(.slice none 0 0),(.slice none 0 0),(.slice none 0 0),(.slice none 0 0),(.I 0),(.slice none 0 0)])):=by kernel_rfl
theorem c5M:x4 Tryz.prog 45=some ((.agg #[(.slice none 0 0),(.I 0),(.I 0)])):=by kernel_rfl
theorem c5N:x4 Tryz.prog 50=some ((.agg #[(.slice none 0 0),(.I 0)])):=by kernel_rfl
theorem c02:x4 Tryz.prog 52=some ((.agg #[(.slice none 0 0),(.I 0),(.I 0),(.slice none 0 0),(.slice none 0 0),(.slice none 0 0),(.slice none 0 0),(.I 0)])):=by kernel_rfl
theorem c03:x4 Tryz.prog 55=some ((.agg #[(.slice none 0 0),(.I 0),(.I 0),(.slice none 0 0),(.slice none 0 0),(.slice none 0 0),(.slice none 0 0),(.I 0),(.slice none 0 0)])):=by kernel_rfl
theorem b37:x4 Tryz.prog 66=some ((.agg #[(.I 0),(.I 0)])):=by kernel_rfl
theorem c5O:x4 Tryz.prog 69=some ((.agg #[(.I 0),(.I 0)])):=by kernel_rfl
theorem d1H:x4 Tryz.prog 73=some ((.agg #[(.I 0),(.I 0),(.I 0),(.I 0)])):=by kernel_rfl
theorem c5P:x4 Tryz.prog 96=some ((.agg #[(.I 0),(.I 0),(.I 0),(.I 0),(.bool false),(.slice none 0 0)])):=by kernel_rfl
theorem b3q:x4 Tryz.prog 101=some ((.agg #[(.I 0),(.I 0),(.I 0),(.I 0),(.I 0),(.I 0),(.bool false),(.slice none 0 0)])):=by kernel_rfl
theorem b0u:x4 Tryz.prog 104=some ((.agg #[(.I 0),(.I 0),(.I 0),(.I 0)])):=by kernel_rfl
theorem c80:x4 Tryz.prog 109=some ((.slice none 0 0)):=by kernel_rfl
theorem b0v:x4 Tryz.prog 110=some ((.agg #[(.I 0),(.I 0),(.I 0),(.I 0)])):=by kernel_rfl
theorem c2Q:x4 Tryz.prog 113=some ((.slice none 0 0)):=by kernel_rfl
theorem c2R:x4 Tryz.prog 132=some ((.agg #[(.I 0),(.I 0),(.I 0),(.I 0)])):=by kernel_rfl
theorem c2S:x4 Tryz.prog 136=some ((.agg #[])):=by kernel_rfl
theorem c2T:x4 Tryz.prog 140=some ((.agg #[(.I 0)])):=by kernel_rfl
theorem c81:x4 Tryz.prog 150=some ((.agg #[(.I 0),(.I 0),(.I 0),(.I 0),(.bool false),(.slice none 0 0)])):=by kernel_rfl
theorem b65:x4 Tryz.prog 154=some ((.agg #[(.slice none 0 0),(.I 0)])):=by kernel_rfl
theorem a8T:x4 Tryz.prog 180=some ((.agg #[(.I 0),(.I 0),(.I 0),(.I 0),(.I 0),(.I 0),(.bool false),(.slice none 0 0)])):=by kernel_rfl
theorem b0w:x4 Tryz.prog 183=some ((.agg #[(.I 0),(.bool false),(.I 0)])):=by kernel_rfl
theorem b66:x4 Tryz.prog 185=some ((.agg #[(.I 0),(.I 0),(.I 0)])):=by kernel_rfl
theorem c2U:x4 Tryz.prog 187=some ((.agg #[(.I 0),(.I 0),(.I 0)])):=by kernel_rfl
theorem b67:x4 Tryz.prog 189=some ((.agg #[(.I 0),(.bool false),(.I 0)])):=by kernel_rfl
theorem b3r:x4 Tryz.prog 190=some ((.agg #[(.I 0),(.I 0),(.I 0)])):=by kernel_rfl
theorem b0x:x4 Tryz.prog 191=some ((.agg #[(.I 0),(.I 0),(.I 0)])):=by kernel_rfl
theorem c82:x4 Tryz.prog 194=some (.nilFunc):=by kernel_rfl
theorem c83:x4 Tryz.prog 200=some ((.agg #[(.slice none 0 0),(.I 0),(.I 0),(.slice none 0 0),(.slice none 0 0),(.slice none 0 0),(.slice none 0 0),(.I 0),(.I 0),(.I 0),(.I 0),(.I 0)])):=by kernel_rfl
theorem b3s:x4 Tryz.prog 221=some ((.agg #[(.I 0),(.I 0),(.I 0)])):=by kernel_rfl
theorem b68:x4 Tryz.prog 238=some ((.agg #[(.I 0),(.I 0)])):=by kernel_rfl
theorem c84:x4 Tryz.prog 245=some ((.slice none 0 0)):=by kernel_rfl
theorem I8:x4 Tryz.prog 251=some ((.agg #[.nilFunc,(.I 0),(.I 0),(.I 0)])):=by kernel_rfl
theorem c85:x4 Tryz.prog 374=some ((.agg #[(.I 0),(.I 0),(.I 0)])):=by kernel_rfl
theorem c86:x4 Tryz.prog 382=some ((.agg #[(.slice none 0 0)])):=by kernel_rfl
theorem c87:x4 Tryz.prog 398=some ((.agg #[.nilFunc])):=by kernel_rfl
theorem c88:x4 Tryz.prog 400=some ((.agg #[(.I 0),(.I 0)])):=by kernel_rfl
theorem c89:x4 Tryz.prog 430=some ((.agg #[(.slice none 0 0),(.I 0)])):=by kernel_rfl
theorem a8U:x4 Tryz.prog 445=some ((.agg #[(.I 0),(.I 0)])):=by kernel_rfl
theorem u5:Tryz.prog.follows .mixedOrders=true:=by kernel_rfl
def tb:TB:=⟨[((27,0),(0,25)),((27,1),(1,3)),((29,0),(0,27)),((29,1),(2,3)),((35,0),(0,33)),((35,1),(1,3)),((37,0),(0,29)),((37,1),(3,30)),((37,2),(4,31)),((37,3),(5,32)),((37,4),(6,35)),((39,0),(0,37)),((39,1),(8,22)),((45,0),(0,43)),((45,1),(1,3)),((50,0),(0,48)),((50,1),(1,3)),((52,0),(0,45)),((52,1),(3,30)),((52,3),(5,47)),((66,0),(0,3)),((66,1),(1,40)),((96,0),(0,3)),((96,1),(1,3)),((96,2),(2,3)),((96,5),(5,30)),((101,0),(0,3)),((101,1),(1,3)),((101,2),(2,96)),((104,0),(0,3)),((104,1),(1,3)),((104,2),(2,3)),((104,3),(3,3)),((110,0),(0,3)),((110,1),(1,3)),((110,2),(2,3)),((110,3),(3,3)),((132,0),(0,110)),((140,0),(0,3)),((150,0),(0,3)),((150,1),(1,3)),((150,2),(2,3)),((150,3),(3,3)),((150,4),(4,4)),((150,5),(5,30)),((154,0),(0,152)),((154,1),(1,3)),((180,0),(0,3)),((180,1),(1,3)),((180,2),(2,150)),((185,0),(0,3)),((185,1),(1,3)),((185,2),(2,3)),((189,0),(0,3)),((189,1),(1,4)),((189,2),(2,3)),((190,0),(0,3)),((190,1),(1,3)),((190,2),(2,3)),((191,0),(0,3)),((191,1),(1,3)),((191,2),(2,3)),((200,0),(0,37)),((200,1),(8,110)),((221,0),(0,3)),((221,1),(1,3)),((221,2),(2,3)),((238,0),(0,3)),((238,1),(1,3)),((251,0),(0,249)),((251,1),(1,3)),((251,3),(3,40)),((374,0),(0,3)),((374,1),(1,3)),((374,2),(2,3)),((382,0),(0,32)),((398,0),(0,396)),((400,0),(0,3)),((400,1),(1,3)),((430,0),(0,30)),((430,1),(1,3)),((445,0),(0,3)),((445,1),(1,3))],[(3,false),(4,false),(22,false),(25,false),(27,true),(29,true),(30,false),(31,false),(32,false),(33,false),(35,true),(37,true),(39,true),(40,false),(43,false),(45,true),(47,false),(48,false),(52,true),(66,true),(69,true),(73,true),(96,true),(104,true),(109,false),(110,true),(113,false),(150,true),(152,false),(154,true),(180,true),(183,true),(185,true),(187,true),(189,true),(190,true),(191,true),(200,true),(221,true),(222,false),(249,false),(251,true),(331,false),(396,false),(398,true),(430,true),(443,false),(445,true),(453,false)],[(3,1),(4,1),(25,1),(27,2),(29,3),(30,1),(31,1),(32,1),(35,2),(37,8),(39,9),(40,1),(45,3),(50,2),(52,8),(55,9),(66,2),(69,2),(73,4),(96,6),(104,4),(110,4),(132,4),(140,1),(150,6),(154,2),(180,8),(183,3),(185,3),(187,3),(189,3),(190,3),(191,3),(200,12),(221,3),(222,1),(251,4),(331,1),(398,1),(430,2),(443,1),(445,2)],[(3,.I 0),(4,.bool false),(27,.agg [.lst true (List.map b7.Pv []),.I 0]),(29,.agg [.lst true (List.map b7.Pv []),.I 0,.I 0]),(30,.lst true (List.map iF [])),(32,.lst true (List.map b9.Pv [])),(35,.agg [.lst true (List.map g9.Pv []),.I 0]),(37,.agg [.lst true (List.map b7.Pv []),.I 0,.I 0,.lst true (List.map iF []),.lst true (List.map c9.Pv []),.lst true (List.map b9.Pv []),.lst true (List.map g9.Pv []),.I 0]),(39,.agg [.lst true (List.map b7.Pv []),.I 0,.I 0,.lst true (List.map iF []),.lst true (List.map c9.Pv []),.lst true (List.map b9.Pv []),.lst true (List.map g9.Pv []),.I 0,.lst true (List.map (Ls g6.Pv) [])]),(40,.I 0),(45,.agg [.lst true (List.map o0.Pv []),.I 0,.I 0]),(50,.agg [.lst true (List.map s7.Pv []),.I 0]),(52,.agg [.lst true (List.map o0.Pv []),.I 0,.I 0,.lst true (List.map iF []),.lst true (List.map o6.Pv []),.lst true (List.map l5.Pv []),.lst true (List.map s7.Pv []),.I 0]),(55,.agg [.lst true (List.map o0.Pv []),.I 0,.I 0,.lst true (List.map iF []),.lst true (List.map o6.Pv []),.lst true (List.map l5.Pv []),.lst true (List.map s7.Pv []),.I 0,.lst true (List.map (Ls r9.Pv) [])]),(66,.agg [.I 0,.I 0]),(73,.agg [.I 0,.I 0,.I 0,.I 0]),(96,.agg [.I 0,.I 0,.I 0,.I 0,.bool false,.lst true (List.map iF [])]),(104,.agg [.I 0,.I 0,.I 0,.I 0]),(110,.agg [.I 0,.I 0,.I 0,.I 0]),(132,.agg [.I 0,.I 0,.I 0,.I 0]),(136,.agg []),(140,.agg [.I 0]),(150,.agg [.I 0,.I 0,.I 0,.I 0,.bool false,.lst true (List.map iF [])]),(154,.agg [.lst true (List.map A9.Pv []),.I 0]),(180,.agg [.I 0,.I 0,.I 0,.I 0,.I 0,.I 0,.bool false,.lst true (List.map iF [])]),(189,.agg [.I 0,.bool false,.I 0]),(190,.agg [.I 0,.I 0,.I 0]),(191,.agg [.I 0,.I 0,.I 0]),(221,.agg [.I 0,.I 0,.I 0]),(222,.abs c0R),(251,.agg [.nilfn,.I 0,.I 0,.I 0]),(331,.abs c0R),(398,.agg [.nilfn]),(430,.agg [.lst true (List.map iF []),.I 0]),(443,.lst true (List.map n0.Pv [])),(445,.agg [.I 0,.I 0])]⟩
theorem Tb:TB.Ok Tryz.prog tb:=⟨by kernel_rfl,by kernel_rfl,by kernel_rfl,by kernel_rfl⟩
section
variable{X:Ctx}{ops:Array Oper}{K:Ctx→St→Prop}{i n:Nat}{l l':List Oper}{env env':Nat→PV}{σ σ':Nat→Option Row}{Q:PX→Ctx→St→Prop}{y:Code}{KD:St→Prop}{bar:List Nat}
theorem S1(n:Nat)(h:run tb n l env σ=some (l',env',σ'))(k:Sq X ops (i+n) l' K ⟨env',σ'⟩)(hb:TB.Ok X.P tb:=by exact Tb):Sq X ops i l K ⟨env,σ⟩:=seg hb n h k
theorem S2(n:Nat)(h:run tb n l env σ=some ([],env',σ'))(k:K X ⟨env',σ'⟩)(hb:TB.Ok X.P tb:=by exact Tb):Sq X ops i l K ⟨env,σ⟩:=seg hb n h (yN k)
theorem S3{id:Nat}(n:Nat)(h:run tb n l env σ=some (l',env',σ'))(k:Sq X l.toArray (0+n) l' (λX' s=>V5 X' y Q s) ⟨env',σ'⟩)(hd:a23 X.N l.toArray=true:=by kernel_rfl)(hb:TB.Ok X.P tb:=by exact Tb):V5 X (.seq (.region id l.toArray false) y) Q ⟨env,σ⟩:=sr hd (seg hb n h k)
theorem S4{id:Nat}(n:Nat)(h:run tb n l env σ=some ([],env',σ'))(k:V5 X y Q ⟨env',σ'⟩)(hd:a23 X.N l.toArray=true:=by kernel_rfl)(hb:TB.Ok X.P tb:=by exact Tb):V5 X (.seq (.region id l.toArray false) y) Q ⟨env,σ⟩:=sr hd (seg hb n h (yN k))
theorem S5{id:Nat}(n:Nat)(h:run tb n l env σ=some (l',env',σ'))(k:Sq X l.toArray (0+n) l' (Q .normal) ⟨env',σ'⟩)(hd:a23 X.N l.toArray=true:=by kernel_rfl)(hb:TB.Ok X.P tb:=by exact Tb):V5 X (.region id l.toArray false) Q ⟨env,σ⟩:=sr1 hd (seg hb n h k)
theorem S6{id:Nat}(n:Nat)(h:run tb n l env σ=some ([],env',σ'))(k:Q .normal X ⟨env',σ'⟩)(hd:a23 X.N l.toArray=true:=by kernel_rfl)(hb:TB.Ok X.P tb:=by exact Tb):V5 X (.region id l.toArray false) Q ⟨env,σ⟩:=sr1 hd (seg hb n h (yN k))
theorem S7(n:Nat)(h:d0l tb bar n i l env σ=some (l',env',σ'))(k:Ex X.P ops bar true (i+n) l' ⟨env',σ'⟩ KD)(hb:TB.Ok X.P tb:=by exact Tb):Ex X.P ops bar true i l ⟨env,σ⟩ KD:=dG hb n h k
theorem S8(n:Nat)(h:d0l tb bar n i l env σ=some ([],env',σ'))(k:KD ⟨env',σ'⟩)(hb:TB.Ok X.P tb:=by exact Tb):Ex X.P ops bar true i l ⟨env,σ⟩ KD:=dG hb n h k
end
theorem d3K:b6X Tryz.prog (Tryz.sortF_ren.f 6):=c49 Tryz.sortF
theorem d0s:b3l Tryz.prog (Tryz.sortI_ren.f 5):=c2h Tryz.sortI
theorem a8O{a0}:PO Tryz.prog 10 [.L (Ls g6.Pv) a0] (a4D a0) λr=>.bool r:=by
 refine pO Tryz.func10 λr h _ _=>?_;refine S4 1 J ?_;refine jq h (λ_=>St.of [(0,.L (Ls g6.Pv) a0)] []) (λq6 h=>?_) λκ5 h=>?_
 ·refine S3 1 J ?_;refine nL J a2q<|S2 2 J<|b8 ?_;cases h;exact f1
 ·refine S4 1 J ?_;refine g5<|lq h (λs8=>St.of [(0,.L (Ls g6.Pv) a0),(3,.I s8)] []) W λs8 x9 h hx8=>e6<|S3 2 J<|nL J a2q<|S1 2 J<|k7 J (λhg=>mI J)<|k7 J (λhg=>w7 (ct hg) J J)<|y0 J (y6 J J J (λq=>eqT q))<|yN ?_;refine cN h (λhc h=>?_) λhc h=>?_
  ·refine c4 ?_;refine e6<|g5<|S3 2 J<|iL h J J a2q a8R λv10 _ h=>S1 1 J<|nL J a2K<|S2 1 J ?_;refine cN h (λhc h=>?_) λhc h=>?_
   ·refine S4 1 J ?_;refine b8 ?_;have h:=xL hx8 h;cases h;exact f1
   ·refine c4 ?_;refine S6 3 J ?_;exact eL h W
  ·refine o8 ?_;refine c5<|c5<|l4 ?_;have h:=xL hx8 h;exact eJ h W

theorem b5F{a0}:PO Tryz.prog 88 [g6.Pv a0] (a2s a0) λr=>.bool r:=by
 refine pO Tryz.func88 λr h _ _=>?_;unfold a2s at h;refine S4 2 J<|S3 4 J<|k7 J (λhg=>oF J c37 J)<|k7 J (λhg=>oS (ct hg) J J C7 J)<|k7 J (λhg=>w7 (ct hg) J J)<|y0 J (y6 J J J (λq=>eqT q))<|S2 1 J<|b8 ?_;cases h;exact f1

theorem A0:PO Tryz.prog 232 [.fn (.func 233) []] (Y9) λr=>g8.Pv r:=by
 refine pO Tryz.func232 λr h _ _=>?_;unfold Y9 at h;refine S4 1 J<|S3 1 J<|y0 J (p6 (cs:=[.fn (.func 233) [],.I 0,.I 5,.I 6]) J a1J I8 J J J)<|T1 (a7E 4 (d':=.agg [fvE (some 233),.I 0,.I 5,.I 6]) J)<|S2 1 J<|b8 ?_;cases h;exact⟨J,[_],⟨oL J J J a3H K3 nl J,tr⟩,J,io⟩

theorem Z4:PO Tryz.prog 235 [.fn (.func 236) []] (R5) λr=>g8.Pv r:=by
 refine pO Tryz.func235 λr h _ _=>?_;unfold R5 at h;refine S4 1 J<|S3 1 J<|y0 J (p6 (cs:=[.fn (.func 236) [],.I (-1),.I 5,.I 13]) J a1J I8 J J J)<|T1 (a7E 4 (d':=.agg [fvE (some 236),.I (-1),.I 5,.I 13]) J)<|S2 1 J<|b8 ?_;cases h;exact⟨J,[_],⟨oL J J J a3H K3 nl J,tr⟩,J,io⟩

theorem E2{a0}:PO Tryz.prog 231 [.L g8.Pv a0] (I6 a0) λr=>.L g8.Pv r:=by
 refine pO Tryz.func231 λr h _ _=>?_;unfold I6 at h;refine S4 1 J<|S4 2 J<|b8 ?_;cases h;exact f1

theorem K6:PO Tryz.prog 232 [.fn (.func 234) []] (Z0) λr=>g8.Pv r:=by
 refine pO Tryz.func232 λr h _ _=>?_;unfold Z0 at h;refine S4 1 J<|S3 1 J<|y0 J (p6 (cs:=[.fn (.func 234) [],.I 0,.I 5,.I 6]) J a1J I8 J J J)<|T1 (a7E 4 (d':=.agg [fvE (some 234),.I 0,.I 5,.I 6]) J)<|S2 1 J<|b8 ?_;cases h;exact⟨J,[_],⟨oL J J J a3H K3 nl J,tr⟩,J,io⟩

theorem a4I:PO Tryz.prog 237 [.fn (.func 236) []] (V9) λr=>g8.Pv r:=by
 refine pO Tryz.func237 λr h _ _=>?_;unfold V9 at h;refine S4 1 J<|S3 1 J<|y0 J (p6 (cs:=[.fn (.func 236) [],.I 0,.I 3,.I 5]) J a1J I8 J J J)<|T1 (a7E 4 (d':=.agg [fvE (some 236),.I 0,.I 3,.I 5]) J)<|S2 1 J<|b8 ?_;cases h;exact⟨J,[_],⟨oL J J J a3H K3 nl J,tr⟩,J,io⟩

theorem a4H:PO Tryz.prog 237 [.fn (.func 234) []] (V8) λr=>g8.Pv r:=by
 refine pO Tryz.func237 λr h _ _=>?_;unfold V8 at h;refine S4 1 J<|S3 1 J<|y0 J (p6 (cs:=[.fn (.func 234) [],.I 0,.I 3,.I 5]) J a1J I8 J J J)<|T1 (a7E 4 (d':=.agg [fvE (some 234),.I 0,.I 3,.I 5]) J)<|S2 1 J<|b8 ?_;cases h;exact⟨J,[_],⟨oL J J J a3H K3 nl J,tr⟩,J,io⟩

theorem a2t:PO Tryz.prog 238 [.fn (.func 236) []] (N7) λr=>g8.Pv r:=by
 refine pO Tryz.func238 λr h _ _=>?_;unfold N7 at h;refine S4 1 J<|S3 1 J<|y0 J (p6 (cs:=[.fn (.func 236) [],.I (-1),.I 5,.I 6]) J a1J I8 J J J)<|T1 (a7E 4 (d':=.agg [fvE (some 236),.I (-1),.I 5,.I 6]) J)<|S2 1 J<|b8 ?_;cases h;exact⟨J,[_],⟨oL J J J a3H K3 nl J,tr⟩,J,io⟩

theorem a5n:PO Tryz.prog 239 [.fn (.func 233) []] (Y7) λr=>g8.Pv r:=by
 refine pO Tryz.func239 λr h _ _=>?_;unfold Y7 at h;refine S4 1 J<|S3 1 J<|y0 J (p6 (cs:=[.fn (.func 233) [],.I 0,.I 5,.I 7]) J a1J I8 J J J)<|T1 (a7E 4 (d':=.agg [fvE (some 233),.I 0,.I 5,.I 7]) J)<|S2 1 J<|b8 ?_;cases h;exact⟨J,[_],⟨oL J J J a3H K3 nl J,tr⟩,J,io⟩

theorem T8:PO Tryz.prog 238 [.fn (.func 234) []] (N6) λr=>g8.Pv r:=by
 refine pO Tryz.func238 λr h _ _=>?_;unfold N6 at h;refine S4 1 J<|S3 1 J<|y0 J (p6 (cs:=[.fn (.func 234) [],.I (-1),.I 5,.I 6]) J a1J I8 J J J)<|T1 (a7E 4 (d':=.agg [fvE (some 234),.I (-1),.I 5,.I 6]) J)<|S2 1 J<|b8 ?_;cases h;exact⟨J,[_],⟨oL J J J a3H K3 nl J,tr⟩,J,io⟩

theorem a5o:PO Tryz.prog 239 [.fn (.func 234) []] (Y8) λr=>g8.Pv r:=by
 refine pO Tryz.func239 λr h _ _=>?_;unfold Y8 at h;refine S4 1 J<|S3 1 J<|y0 J (p6 (cs:=[.fn (.func 234) [],.I 0,.I 5,.I 7]) J a1J I8 J J J)<|T1 (a7E 4 (d':=.agg [fvE (some 234),.I 0,.I 5,.I 7]) J)<|S2 1 J<|b8 ?_;cases h;exact⟨J,[_],⟨oL J J J a3H K3 nl J,tr⟩,J,io⟩

theorem b29:PO Tryz.prog 147 [] (a6y) λr=>.abs (W6 (List.map (ent iF (Ls g8.Pv)) r)):=by
 refine pO Tryz.func147 λr h _ _=>?_;refine S4 1 J<|sR<|c0M (KT:=Int) (VT:=List g8) (EK:=iF) (E:=(Ls g8.Pv)) 5000001 J J<|cF h A0 J J λv1 hv1 h=>y0 J (p6 (cs:=[.fn (.func 234) [],.I 0,.I 4,.I 1]) J a1J I8 J J J)<|T1 (a7E 3 (d':=.agg [fvE (some 234),.I 0,.I 4,.I 1]) J)<|cF h Z4 J J λv2 hv2 h=>y0 J (H2 (f:=g8.Pv) (l:=[v1,(⟨(some 234),0,4,1⟩:g8),v2]) J a0s K3 I8 J J nl J J)<|cF h E2 J J λv3 _ h=>a0U (es:=[]) (k:=1) (v:=v3) (E:=(Ls g8.Pv)) (EK:=iF) (.inr J) J J J J J J T6 (A1 L4)<|yc J (y8 J A0 J hv1)<|cF h K6 J J λv4 hv4 h=>y0 J (H2 (f:=g8.Pv) (l:=[v1,v4]) J a0s K3 I8 J J nl J J)<|cF h E2 J J λv5 hv5 h=>a0U (es:=(r7 [] 1 v3)) (k:=2) (v:=v5) (E:=(Ls g8.Pv)) (EK:=iF) (.inr J) J J J J J J T6 (A1 L4)<|yc J (y8 J A0 J hv1)<|y0 J (H2 (f:=g8.Pv) (l:=[v1]) J a0s K3 I8 J J nl J J)<|cF h E2 J J λv6 _ h=>a0U (es:=(r7 (r7 [] 1 v3) 2 v5)) (k:=3) (v:=v6) (E:=(Ls g8.Pv)) (EK:=iF) (.inr J) J J J J J J T6 (A1 L4)<|yc J (y8 J A0 J hv1)<|yc J (y8 J K6 J hv4)<|cF h a4I J J λv7 _ h=>y0 J (H2 (f:=g8.Pv) (l:=[v1,v4,v7]) J a0s K3 I8 J J nl J J)<|cF h E2 J J λv8 _ h=>a0U (es:=(r7 (r7 (r7 [] 1 v3) 2 v5) 3 v6)) (k:=4) (v:=v8) (E:=(Ls g8.Pv)) (EK:=iF) (.inr J) J J J J J J T6 (A1 L4)<|yc J (y8 J A0 J hv1)<|cF h a4H J J λv9 _ h=>cF h a2t J J λv10 _ h=>y0 J (H2 (f:=g8.Pv) (l:=[v1,v9,v10]) J a0s K3 I8 J J nl J J)<|cF h E2 J J λv11 _ h=>?_;refine a0U (es:=(r7 (r7 (r7 (r7 [] 1 v3) 2 v5) 3 v6) 4 v8)) (k:=5) (v:=v11) (E:=(Ls g8.Pv)) (EK:=iF) (.inr J) J J J J J J T6 (A1 L4)<|cF h a5n J J λv12 _ h=>cF h T8 J J λv13 hv13 h=>yc J (y8 J Z4 J hv2)<|y0 J (H2 (f:=g8.Pv) (l:=[v12,v13,v2]) J a0s K3 I8 J J nl J J)<|cF h E2 J J λv14 _ h=>a0U (es:=(r7 (r7 (r7 (r7 (r7 [] 1 v3) 2 v5) 3 v6) 4 v8) 5 v11)) (k:=6) (v:=v14) (E:=(Ls g8.Pv)) (EK:=iF) (.inr J) J J J J J J T6 (A1 L4)<|yc J (y8 J A0 J hv1)<|cF h a5o J J λv15 _ h=>y0 J (H2 (f:=g8.Pv) (l:=[v1,v15]) J a0s K3 I8 J J nl J J)<|cF h E2 J J λv16 _ h=>a0U (es:=(r7 (r7 (r7 (r7 (r7 (r7 [] 1 v3) 2 v5) 3 v6) 4 v8) 5 v11) 6 v14)) (k:=7) (v:=v16) (E:=(Ls g8.Pv)) (EK:=iF) (.inr J) J J J J J J T6 (A1 L4)<|yc J (y8 J A0 J hv1)<|yc J (y8 J T8 J hv13)<|y0 J (H2 (f:=g8.Pv) (l:=[v1,v13]) J a0s K3 I8 J J nl J J)<|cF h E2 J J λv17 _ h=>a0U (es:=(r7 (r7 (r7 (r7 (r7 (r7 (r7 [] 1 v3) 2 v5) 3 v6) 4 v8) 5 v11) 6 v14) 7 v16)) (k:=8) (v:=v17) (E:=(Ls g8.Pv)) (EK:=iF) (.inr J) J J J J J J T6 (A1 L4)<|yc J (y8 J A0 J hv1)<|yc J (y8 J K6 J hv4)<|y0 J (H2 (f:=g8.Pv) (l:=[v1,v4]) J a0s K3 I8 J J nl J J)<|yc J (y8 J E2 J hv5)<|a0U (es:=(r7 (r7 (r7 (r7 (r7 (r7 (r7 (r7 [] 1 v3) 2 v5) 3 v6) 4 v8) 5 v11) 6 v14) 7 v16) 8 v17)) (k:=9) (v:=v5) (E:=(Ls g8.Pv)) (EK:=iF) (.inr J) J J J J J J T6 (A1 L4)<|yc J (y8 J A0 J hv1)<|yc J (y8 J K6 J hv4)<|y0 J (H2 (f:=g8.Pv) (l:=[v1,v4]) J a0s K3 I8 J J nl J J)<|yc J (y8 J E2 J hv5)<|a0U (es:=(r7 (r7 (r7 (r7 (r7 (r7 (r7 (r7 (r7 [] 1 v3) 2 v5) 3 v6) 4 v8) 5 v11) 6 v14) 7 v16) 8 v17) 9 v5)) (k:=10) (v:=v5) (E:=(Ls g8.Pv)) (EK:=iF) (.inr J) J J J J J J T6 (A1 L4)<|cF h E2 J J λv18 _ h=>a0U (es:=(r7 (r7 (r7 (r7 (r7 (r7 (r7 (r7 (r7 (r7 [] 1 v3) 2 v5) 3 v6) 4 v8) 5 v11) 6 v14) 7 v16) 8 v17) 9 v5) 10 v5)) (k:=11) (v:=v18) (E:=(Ls g8.Pv)) (EK:=iF) (.inr J) J J J J J J T6 (A1 L4)<|y0 J (p6 (cs:=[.fn (.func 233) [],.I 0,.I 200,.I 12]) J a1J I8 J J J) ?_;refine T1 (a7E 46 (d':=.agg [fvE (some 233),.I 0,.I 200,.I 12]) J)<|y0 J (H2 (f:=g8.Pv) (l:=[(⟨(some 233),0,200,12⟩:g8)]) J a0s K3 I8 J J nl J J)<|cF h E2 J J λv19 _ h=>a0U (es:=(r7 (r7 (r7 (r7 (r7 (r7 (r7 (r7 (r7 (r7 (r7 [] 1 v3) 2 v5) 3 v6) 4 v8) 5 v11) 6 v14) 7 v16) 8 v17) 9 v5) 10 v5) 11 v18)) (k:=12) (v:=v19) (E:=(Ls g8.Pv)) (EK:=iF) (.inr J) J J J J J J T6 (A1 L4)<|S2 2 J<|a3e (c2t 0 5000001 J J)<|b8 ?_;cases h;exact f1

theorem a9D{a0}:PO Tryz.prog 233 [g6.Pv a0] (a9Z a0) λr=>.I r:=by
 refine pO Tryz.func233 λr h _ _=>?_;unfold a9Z at h;refine S4 2 J<|S4 3 J<|b8 ?_;cases h;exact f1

theorem a9E{a0}:PO Tryz.prog 234 [g6.Pv a0] (a90 a0) λr=>.I r:=by
 refine pO Tryz.func234 λr h _ _=>?_;unfold a90 at h;refine S4 2 J<|S4 3 J<|b8 ?_;cases h;exact f1

theorem a9F{a0}:PO Tryz.prog 236 [g6.Pv a0] (a91 a0) λr=>.I r:=by
 refine pO Tryz.func236 λr h _ _=>?_;unfold a91 at h;refine S4 2 J<|S4 3 J<|b8 ?_;cases h;exact f1

theorem c1m{f:Fv}{a0:g6}{r:Int}(h:b0N f a0=some r):∃n,f=some n∧B5 Tryz.prog n∧Y4 Tryz.prog n [g6.Pv a0] (.I r):=by
 unfold b0N at h;by_cases e233:f=some 233
 ·rw[if_pos e233] at h;exact⟨233,e233,(@a9D a0).1,(@a9D a0).2 _ h⟩
 rw[if_neg e233] at h;by_cases e234:f=some 234
 ·rw[if_pos e234] at h;exact⟨234,e234,(@a9E a0).1,(@a9E a0).2 _ h⟩
 rw[if_neg e234] at h;by_cases e236:f=some 236
 ·rw[if_pos e236] at h;exact⟨236,e236,(@a9F a0).1,(@a9F a0).2 _ h⟩
 rw[if_neg e236] at h;cases h

theorem a5m{a0}:PO Tryz.prog 89 [g6.Pv a0] (R4 a0) λr=>.I r:=by
 refine pO Tryz.func89 λr h _ _=>?_;unfold R4 at h;refine S4 2 J<|dr [] u5 (by kernel_rfl) (by kernel_rfl)<|w8 h λv1 hv1 h=>d2f J (y8 J b29 J hv1) J<|S7 2 J<|d4 J (b9R (es:=v1) (k:=a0.Kind) (E:=(Ls g8.Pv)) (EK:=iF) (d:=.tup [.L g8.Pv ((B4 v1 a0.Kind).getD ([]:List g8)),.bool ((B4 v1 a0.Kind).isSome)]) J J T6 (A1 L4) c84 J (lk2 _ _ ([]:List g8))) J<|S8 5 J<|e6<|S4 2 J ?_
 refine cN h (λhc h=>?_) λhc h=>?_
 ·refine S4 1 J ?_;refine b8 ?_;cases h;exact f1
 ·refine c4 ?_;refine jq h (λ_=>St.of [] []) (λq9 h=>?_) λκ8 h=>?_
  ·refine S4 1 J ?_;refine b8 ?_;cases h;exact f1
  ·refine S3 1 J ?_;refine nL J a0s<|S2 1 J<|g5<|lq h (λs11=>St.of [(1,.ptr 1 0 0),(17,.L g8.Pv ((B4 v1 a0.Kind).getD ([]:List g8))),(18,.I (((B4 v1 a0.Kind).getD ([]:List g8)).length:Int)),(19,.I s11)] [(1,vR (g6.Pv a0) 4)]) W λs11 x12 h hx13=>S4 1 J<|e6 ?_;refine cN h (λhc h=>?_) λhc h=>?_
   ·refine c4 ?_;refine e6<|g5<|sR<|iL h J J a0s K3 λv13 _ h=>S2 3 J<|S3 3 J ?_;obtain⟨v14,hv15,h⟩:=a7o h;obtain⟨n15,he16,hk17,hp18⟩:=c1m hv15;refine T1 (d1p 24 J he16)<|y0 J (c1B J hk17 J hp18)<|S2 1 J<|S3 5 J<|k7 J (λhg=>mI J)<|k7 J (λhg=>oF J c4h J)<|k7 J (λhg=>oS (ct hg) J J C7 J)<|k7 J (λhg=>w7 (ct hg) (ct hg) J)<|y0 J (B6 J J J (λq=>eqF q))<|yN ?_;refine cN h (λhc h=>?_) λhc h=>?_
    ·refine S4 3 J ?_;refine b8 ?_;have h:=xL hx13 h;cases h;exact f1
    ·refine c4 ?_;refine S6 2 J ?_;exact eL h W
   ·refine o8 ?_;refine c5<|c5<|l4 ?_;have h:=xL hx13 h;exact eJ h W

theorem b5G{a0}:PO Tryz.prog 42 [.L (Ls g6.Pv) a0] (a4c a0) λr=>.bool r:=by
 refine pO Tryz.func42 λr h _ _=>?_;refine S4 1 J<|e6<|S3 1 J<|nL J a2q<|S2 1 J ?_;refine cN h (λhc h=>?_) λhc h=>?_
 ·refine S4 1 J ?_;refine b8 ?_;cases h;exact f1
 ·refine c4 ?_;refine jq h (λ_=>St.of [] []) (λq21 h=>?_) λκ20 h=>?_
  ·refine S4 1 J ?_;refine b8 ?_;cases h;exact f1
  ·refine S3 1 J ?_;refine nL J a2q<|S2 1 J<|g5<|lq h (λs23=>St.of [(10,.L (Ls g6.Pv) a0),(11,.I (a0.length:Int)),(12,.I s23)] []) W λs23 x24 h hx22=>S4 1 J<|e6 ?_;refine cN h (λhc h=>?_) λhc h=>?_
   ·refine c4 ?_;refine jq h (λ_=>St.of [(10,.L (Ls g6.Pv) a0),(11,.I (a0.length:Int)),(12,.I s23)] []) (λq33 h=>?_) λκ32 h=>?_
    ·refine S6 2 J ?_;exact eL h W
    ·refine g5 ?_;refine sR<|iL h J J a2q a8R λv34 _ h=>S2 2 J<|e6<|S3 1 J<|nL J a2K<|S2 1 J ?_;refine cN h (λhc h=>?_) λhc h=>?_
     ·refine S4 1 J ?_;refine b8 ?_;have h:=xL hx22 h;cases h;exact f1
     ·refine c4 ?_;refine S3 1 J<|nL J a2K<|S2 1 J<|g5<|lq h (λs36=>St.of [(10,.L (Ls g6.Pv) a0),(11,.I (a0.length:Int)),(12,.I s23),(19,.L g6.Pv v34),(20,.I (v34.length:Int)),(21,.I s36)] []) W λs36 x37 h hx34=>S4 1 J<|e6 ?_;refine cN h (λhc h=>?_) λhc h=>?_
      ·refine c4 ?_;refine e6<|g5<|sR<|iL h J J a2K a3I λv38 _ h=>S2 3 J<|S3 1 J<|cA h b5F J J λv39 _ h=>S1 2 J<|k7 J (λhg=>oL J J J b3n a3I nl J)<|w8 h λv40 hv37 h=>k7 J (λhg=>F1 J a5m (E3 (ct hg) J) (F2 hv37 hg))<|k7 J (λhg=>w7 (ct hg) J J)<|y0 J (B6 J J J (λq=>eqF q))<|yN ?_;refine cN h (λhc h=>?_) λhc h=>?_
       ·refine S4 1 J ?_;refine b8 ?_;have h:=xL hx34 h;have h:=xL hx22 h;cases h;exact f1
       ·refine c4 ?_;refine S6 2 J ?_;exact eL h W
      ·refine o8 ?_;refine c5<|c5<|l4 ?_;have h:=xL hx34 h;exact eJ h W
   ·refine o8 ?_;refine c5<|c5<|l4 ?_;have h:=xL hx22 h;exact eJ h W

theorem a7K{a0 a1}:PO Tryz.prog 148 [.I a0,.I a1] (P5 a0 a1) λr=>c7.Pv r:=by
 refine pO Tryz.func148 λr h _ _=>?_;refine S4 1 J<|e6<|S3 3 J<|k7 J (λhg=>mI J)<|k7 J (λhg=>w7 (ct hg) J J)<|y0 J (B6 J J J (λq=>eqF q))<|S1 1 J<|k7 J (λhg=>mI J)<|k7 J (λhg=>w7 (ct hg) J J)<|y0 J (B6 J J J (λq=>eqF q))<|S1 1 J<|k7 J (λhg=>mI J)<|k7 J (λhg=>w7 (ct hg) J J)<|y0 J (B6 J J J (λq=>eqF q))<|yN ?_;refine cN h (λhc h=>?_) λhc h=>?_
 ·refine sR ?_;refine y0 J (p6 (cs:=[.nl,.I 0]) J c5z c5J J J J)<|a2p (x':=.agg [.nl,.I 0]) (cl':=true) J J (.inl J) a1L<|yN<|b8 ?_;cases h;exact⟨J,[_],⟨oL J J J a3o a1L nl J,tr⟩,J,io⟩
 ·refine c4 ?_;refine S3 1 J<|w8 h λv1 hv1 h=>y1 J (b4Q (f:=b7.Pv) hv1 J J J M4 P8 a8T c2A J J J) J<|S1 1 J<|y0 J (p6 (cs:=[.sl 21,.I a1]) J c5z c5J J J J)<|S2 1 J<|b8 ?_;cases h;exact⟨J,[_],⟨oL J J J a3o a1L nl J,tr⟩,J,io⟩

theorem b8D{a0 a1}:PO Tryz.prog 90 [.I a0,.I a1] (a1D a0 a1) λr=>a7.Pv r:=by
 refine pO Tryz.func90 λr h _ _=>?_;refine S4 1 J<|S3 2 J<|cF h a7K J J λv1 _ h=>y0 J (p6 (cs:=[.L b7.Pv v1.a8,.I v1.Last,.I 0]) J c5A c5K J J J)<|S2 1 J<|b8 ?_;cases h;exact⟨J,[_],⟨oL J J J a6o a6u nl J,tr⟩,J,io⟩

theorem c0I{a0}:PO Tryz.prog 91 [.I a0] (c0H a0) λr=>.L c9.Pv r:=by
 refine pO Tryz.func91 λr h _ _=>?_;refine S4 1 J<|e6<|S3 3 J<|k7 J (λhg=>mI J)<|k7 J (λhg=>w7 (ct hg) J J)<|y0 J (B6 J J J (λq=>eqF q))<|yN ?_;refine cN h (λhc h=>?_) λhc h=>?_
 ·refine S4 1 J ?_;refine b8 ?_;cases h;exact f1
 ·refine c4 ?_;refine S3 1 J<|w8 h λv1 hv1 h=>y1 J (b4Q (f:=c9.Pv) hv1 J J J R3 V7 b67 c2D J J J) J<|S2 1 J ?_;refine jq h (λj9=>St.of [(3,.sl 12)] [(12,⟨List.map c9.Pv j9,0,true,3,true⟩)]) (λj9 h=>?_) λκ8 h=>?_
  ·refine S4 2 J ?_;refine b8 ?_;cases h;exact f1
  ·refine S3 1 J ?_;refine y0 J (c3p (f:=c9.Pv) J J J R3)<|S2 1 J<|g5<|lq h (λq=>St.of [(3,.sl 12),(14,.I (v1.length:Int)),(15,.I q.1)] [(12,⟨List.map c9.Pv q.2,0,true,3,true⟩)]) W λq14 x13 h hx9=>?_;obtain⟨s11,s12⟩:=q14;refine S4 1 J<|e6 ?_;refine cN h (λhc h=>?_) λhc h=>?_
   ·refine c4 ?_;refine e6<|g5<|S4 2 J<|S5 2 J<|w8 h λv15 hv10 h=>y0 J (a3F (f:=c9.Pv) hv10 J J J J R3 V7 J)<|S1 1 J<|b1Q (f:=c9.Pv) (v:=(⟨v15.Target,v15.Intact,(-1)⟩:c9)) hv10 J J (.inl J) o5<|yN<|S6 2 J ?_;exact eL h W
   ·refine o8 ?_;refine c5<|c5<|l4 ?_;have h:=xL hx9 h;exact eJ h W

theorem b9A{a0}:PO Tryz.prog 92 [.I a0] (b0U a0) λr=>.L b9.Pv r:=by
 refine pO Tryz.func92 λr h _ _=>?_;refine S4 1 J<|e6<|S3 3 J<|k7 J (λhg=>mI J)<|k7 J (λhg=>w7 (ct hg) J J)<|y0 J (B6 J J J (λq=>eqF q))<|yN ?_;refine cN h (λhc h=>?_) λhc h=>?_
 ·refine S4 1 J ?_;refine b8 ?_;cases h;exact f1
 ·refine c4 ?_;refine S3 1 J<|w8 h λv1 hv1 h=>y1 J (b4Q (f:=b9.Pv) hv1 J J J Y5 a0t b3r c2E J J J) J<|S2 1 J<|b8 ?_;cases h;exact f1

theorem a6X{a0}:PO Tryz.prog 149 [.I a0] (a0Q a0) λr=>c8.Pv r:=by
 refine pO Tryz.func149 λr h _ _=>?_;unfold a0Q at h;refine S4 1 J<|S3 1 J<|y0 J (p6 (cs:=[.nl,.I a0]) J d1B d1G J J J)<|a2p (x':=.agg [.nl,.I a0]) (cl':=true) J J (.inl J) a1M<|yN<|b8 ?_;cases h;exact⟨J,[_],⟨oL J J J a5j a1M nl J,tr⟩,J,io⟩

theorem c0x:PO Tryz.prog 93 [] (c0w) λr=>c8.Pv r:=by
 refine pO Tryz.func93 λr h _ _=>?_;refine S4 1 J<|sR<|cF h a6X J J λv1 _ h=>S2 1 J<|b8 ?_;cases h;exact⟨J,[_],⟨oL J J J a5j a1M nl J,tr⟩,J,io⟩

theorem b9D{a0 a1 a2}:PO Tryz.prog 43 [.I a0,.I a1,.I a2] (a1V a0 a1 a2) λr=>b6.Pv r:=by
 refine pO Tryz.func43 λr h _ _=>?_;refine S4 1 J<|e6<|S3 3 J<|k7 J (λhg=>mI J)<|k7 J (λhg=>w7 (ct hg) J J)<|y0 J (B6 J J J (λq=>eqF q))<|S1 1 J<|k7 J (λhg=>mI J)<|k7 J (λhg=>w7 (ct hg) J J)<|y0 J (B6 J J J (λq=>eqF q))<|S1 1 J<|k7 J (λhg=>mI J)<|k7 J (λhg=>w7 (ct hg) J J)<|y0 J (B6 J J J (λq=>eqF q))<|S1 1 J<|k7 J (λhg=>mI J)<|k7 J (λhg=>w7 (ct hg) J J)<|y0 J (B6 J J J (λq=>eqF q))<|S1 1 J<|k7 J (λhg=>mI J)<|k7 J (λhg=>w7 (ct hg) J J)<|y0 J (B6 J J J (λq=>eqF q))<|yN ?_;refine cN h (λhc h=>?_) λhc h=>?_
 ·refine sR ?_;refine y0 J (p6 (cs:=[.nl,.I 0,.I 0,.nl,.nl,.nl,.nl,.I 0]) J c5B c5L J J J)<|a2p (x':=.agg [.nl,.I 0,.I 0,.nl,.nl,.nl,.nl,.I 0]) (cl':=true) J J (.inl J) o9<|yN<|b8 ?_;cases h;exact⟨J,[_],⟨oL J J J s6 o9 nl J,tr⟩,J,io⟩
 ·refine c4 ?_;refine dr [] u5 (by kernel_rfl) (by kernel_rfl)<|S7 2 J<|w8 h λv1 hv1 h=>d2f J (y8 J b8D J hv1) J<|w8 h λv2 hv2 h=>d1 J (b4Q (f:=iF) hv2 J J J j5 o5 A3 K1 J J J) J J J<|w8 h λv3 hv3 h=>d2f J (y8 J c0I J hv3) J<|S7 1 J<|w8 h λv4 hv4 h=>d2f J (y8 J b9A J hv4) J<|w8 h λv5 hv5 h=>d2f J (y8 J c0x J hv5) J<|d7 J (λ_ hN=>p6 (cs:=[.L b7.Pv v1.S.a8,.I v1.S.Last,.I v1.Serial,.sl 33,.L c9.Pv v3,.L b9.Pv v4,.L g9.Pv v5.L,.I v5.Cap]) J c5B c5L J J J) J<|E8 (x':=.agg [.L b7.Pv v1.S.a8,.I v1.S.Last,.I v1.Serial,.sl 33,.L c9.Pv v3,.L b9.Pv v4,.L g9.Pv v5.L,.I v5.Cap]) (cl':=false) J J (.inr J) o9<|O2<|b8 ?_
  cases h;exact⟨J,[_],⟨oL J J J s6 o9 nl J,tr⟩,J,io⟩

theorem X7{a0 a1 a2 a3}:PO Tryz.prog 12 [.I a0,.I a1,.I a2,.L (Ls g6.Pv) a3] (J2 a0 a1 a2 a3) λr=>.tup [n7.Pv r.1,.I r.2]:=by
 refine pO Tryz.func12 λr h _ _=>?_;refine S4 2 J<|e6<|S3 1 J<|cA h b5G J J λv1 _ h=>S2 1 J ?_;refine cN h (λhc h=>?_) λhc h=>?_
 ·refine sR ?_;refine y0 J (p6 (cs:=[.nl,.I 0,.I 0,.nl,.nl,.nl,.nl,.I 0,.nl]) J c0W c01 J J J)<|a2p (x':=.agg [.nl,.I 0,.I 0,.nl,.nl,.nl,.nl,.I 0,.nl]) (cl':=true) J J (.inl J) T7<|S2 1 J<|b8 ?_;cases h;exact⟨J,[_,_],⟨oL J J J a1I T7 nl J,⟨J,tr⟩⟩,J,io⟩
 ·refine c4 ?_;refine S3 3 J<|cF h b9D J J λv2 _ h=>S2 2 J<|e6<|S3 2 J<|nL J j5<|S2 1 J ?_;refine cN h (λhc h=>?_) λhc h=>?_
  ·refine sR ?_;refine y0 J (p6 (cs:=[.nl,.I 0,.I 0,.nl,.nl,.nl,.nl,.I 0,.nl]) J c0W c01 J J J)<|a2p (x':=.agg [.nl,.I 0,.I 0,.nl,.nl,.nl,.nl,.I 0,.nl]) (cl':=true) J J (.inl J) T7<|S2 1 J<|b8 ?_;cases h;exact⟨J,[_,_],⟨oL J J J a1I T7 nl J,⟨J,tr⟩⟩,J,io⟩
  ·refine c4 ?_;refine S3 2 J<|y0 J (p6 (cs:=[.L b7.Pv v2.S.S.a8,.I v2.S.S.Last,.I v2.S.Serial,.L iF v2.Roots,.L c9.Pv v2.a8,.L b9.Pv v2.T,.L g9.Pv v2.Q.L,.I v2.Q.Cap,.L (Ls g6.Pv) a3]) J c0W c01 J J J)<|S2 2 J<|b8 ?_;cases h;exact⟨J,[_,_],⟨oL J J J a1I T7 nl J,⟨J,tr⟩⟩,J,io⟩

theorem b4b{a0}:PO Tryz.prog 57 [.L iF a0] (V6 a0) λr=>.tup [g6.Pv r.1,.I r.2]:=by
 refine pO Tryz.func57 λr h _ _=>?_;refine S4 2 J<|e6<|S3 1 J<|nL J j5<|S2 1 J ?_;refine cN h (λhc h=>?_) λhc h=>?_
 ·refine sR ?_;refine y0 J (p6 (cs:=[.I 0,.I 0,.I 0,.I 0]) J b3o b0v J J J)<|S2 2 J<|b8 ?_;cases h;exact⟨J,[_,_],⟨oL J J J b3n a3I nl J,⟨J,tr⟩⟩,J,io⟩
 ·refine c4 ?_;refine dr [] u5 (by kernel_rfl) (by kernel_rfl)<|S7 1 J<|w8 h λv1 hv1 h=>d0 J (A5 (f:=iF) (cs:=[.I v1]) hv1 J J j5 o5 J J) J<|S7 2 J<|w8 h λv2 hv2 h=>d0 J (A5 (f:=iF) (cs:=[.I v2]) hv2 J J j5 o5 J J) J<|S7 2 J<|w8 h λv3 hv3 h=>d0 J (A5 (f:=iF) (cs:=[.I v3]) hv3 J J j5 o5 J J) J<|S7 2 J<|w8 h λv4 hv4 h=>d0 J (A5 (f:=iF) (cs:=[.I v4]) hv4 J J j5 o5 J J) J<|S7 1 J<|d7 J (λ_ hN=>p6 (cs:=[.I v1,.I v2,.I v3,.I v4]) J b3o b0v J J J) J<|S7 1 J<|E8 (x':=.agg [.I v1,.I v2,.I v3,.I v4]) (cl':=true) J J (.inl J) a3I<|O2<|e6<|S3 1 J<|cA h a5m J J λv5 _ h=>S2 1 J<|S4 2 J ?_
  refine cN h (λhc h=>?_) λhc h=>?_
  ·refine sR ?_;refine y0 J (p6 (cs:=[.I 0,.I 0,.I 0,.I 0]) J b3o b0v J J J)<|S2 3 J<|b8 ?_;cases h;exact⟨J,[_,_],⟨oL J J J b3n a3I nl J,⟨J,tr⟩⟩,J,io⟩
  ·refine c4 ?_;refine S4 3 J<|b8 ?_;cases h;exact⟨J,[_,_],⟨oL J J J b3n a3I nl J,⟨J,tr⟩⟩,J,io⟩

theorem b3b{a0}:PO Tryz.prog 58 [g6.Pv a0] (a6B a0) λr=>ifE a9S r:=by
 refine pO Tryz.func58 λr h _ _=>?_;refine S4 2 J<|e6<|S4 2 J<|g5<|S4 2 J ?_;refine cN h (λhc h=>?_) λhc h=>?_
 ·refine sR ?_;refine y0 J (p6 (cs:=[]) J c8I c2S J J J)<|y0 J (c1D (n:=a9S) (T:=136) (xs:=[]) J c2O J)<|S2 1 J<|b8 ?_;cases h;exact f1
 ·refine S4 2 J ?_;refine cN h (λhc h=>?_) λhc h=>?_
  ·refine S3 2 J ?_;refine y0 J (p6 (cs:=[.I a0.A]) J c8J c2T J J J)<|y0 J (c1D (n:=a9S) (T:=140) (xs:=[a0.A]) J c2P J)<|S2 1 J<|b8 ?_;cases h;exact f1
  ·refine c4 ?_;refine S3 1 J<|y0 J (p6 (cs:=[.I a0.Kind,.I a0.A,.I a0.B,.I a0.C]) J c8H c2R J J J)<|y0 J (c1D (n:=a9S) (T:=132) (xs:=[a0.Kind,a0.A,a0.B,a0.C]) J c2N J)<|S2 1 J<|b8 ?_;cases h;exact f1

theorem b2b:PO Tryz.prog 102 [] (a2U) λr=>.abs (W6 (List.map (ent iF fvE) r)):=by
 refine pO Tryz.func102 λr h _ _=>?_;unfold a2U at h;refine S4 1 J<|sR<|c0M (KT:=Int) (VT:=Fv) (EK:=iF) (E:=fvE) 5000001 J J<|a5y (es:=[]) (k:=1) (v:=(some 151)) (E:=fvE) (EK:=iF) (.inr J) J J J J J J a0e (A1 L4)<|a5y (es:=(r7 [] 1 (some 151))) (k:=2) (v:=(some 152)) (E:=fvE) (EK:=iF) (.inr J) J J J J J J a0e (A1 L4)<|a5y (es:=(r7 (r7 [] 1 (some 151)) 2 (some 152))) (k:=3) (v:=(some 153)) (E:=fvE) (EK:=iF) (.inr J) J J J J J J a0e (A1 L4)<|a5y (es:=(r7 (r7 (r7 [] 1 (some 151)) 2 (some 152)) 3 (some 153))) (k:=4) (v:=(some 154)) (E:=fvE) (EK:=iF) (.inr J) J J J J J J a0e (A1 L4)<|a5y (es:=(r7 (r7 (r7 (r7 [] 1 (some 151)) 2 (some 152)) 3 (some 153)) 4 (some 154))) (k:=5) (v:=(some 155)) (E:=fvE) (EK:=iF) (.inr J) J J J J J J a0e (A1 L4)<|a5y (es:=(r7 (r7 (r7 (r7 (r7 [] 1 (some 151)) 2 (some 152)) 3 (some 153)) 4 (some 154)) 5 (some 155))) (k:=6) (v:=(some 156)) (E:=fvE) (EK:=iF) (.inr J) J J J J J J a0e (A1 L4)<|a5y (es:=(r7 (r7 (r7 (r7 (r7 (r7 [] 1 (some 151)) 2 (some 152)) 3 (some 153)) 4 (some 154)) 5 (some 155)) 6 (some 156))) (k:=7) (v:=(some 157)) (E:=fvE) (EK:=iF) (.inr J) J J J J J J a0e (A1 L4)<|a5y (es:=(r7 (r7 (r7 (r7 (r7 (r7 (r7 [] 1 (some 151)) 2 (some 152)) 3 (some 153)) 4 (some 154)) 5 (some 155)) 6 (some 156)) 7 (some 157))) (k:=8) (v:=(some 158)) (E:=fvE) (EK:=iF) (.inr J) J J J J J J a0e (A1 L4)<|a5y (es:=(r7 (r7 (r7 (r7 (r7 (r7 (r7 (r7 [] 1 (some 151)) 2 (some 152)) 3 (some 153)) 4 (some 154)) 5 (some 155)) 6 (some 156)) 7 (some 157)) 8 (some 158))) (k:=9) (v:=(some 159)) (E:=fvE) (EK:=iF) (.inr J) J J J J J J a0e (A1 L4)<|a5y (es:=(r7 (r7 (r7 (r7 (r7 (r7 (r7 (r7 (r7 [] 1 (some 151)) 2 (some 152)) 3 (some 153)) 4 (some 154)) 5 (some 155)) 6 (some 156)) 7 (some 157)) 8 (some 158)) 9 (some 159))) (k:=10) (v:=(some 160)) (E:=fvE) (EK:=iF) (.inr J) J J J J J J a0e (A1 L4)<|S2 2 J<|a3e (c2t 0 5000001 J J)<|b8 ?_;cases h;exact f1

theorem c2o{a0}:PO Tryz.prog 297 [.I a0] (b8M a0) λr=>.tup [.L iF r.1,.I r.2]:=by
 refine pO Tryz.func297 λr h _ _=>?_;refine S4 2 J<|e6<|S3 3 J<|k7 J (λhg=>mI J)<|k7 J (λhg=>w7 (ct hg) J J)<|y0 J (B6 J J J (λq=>eqF q))<|yN ?_;refine cN h (λhc h=>?_) λhc h=>?_
 ·refine S4 2 J ?_;refine b8 ?_;cases h;exact f2
 ·refine c4 ?_;refine S3 1 J<|w8 h λv1 hv1 h=>y1 J (b4Q (f:=iF) hv1 J J J j5 o5 A3 K1 J J J) J<|S2 2 J<|b8 ?_;cases h;exact f2

theorem a8I{a0}:PO Tryz.prog 298 [.I a0] (R1 a0) λr=>.bool r:=by
 refine pO Tryz.func298 λr h _ _=>?_;unfold R1 at h;refine S4 1 J<|S3 3 J<|k7 J (λhg=>mI J)<|k7 J (λhg=>w7 (ct hg) J J)<|y0 J (y6 J J J (λq=>eqT q))<|S2 1 J<|b8 ?_;cases h;exact f1

theorem a7d{a0}:PO Tryz.prog 342 [c7.Pv a0] (N4 a0) λr=>.fn (.func 361) [.rptr (c7.Pc r)]:=by
 refine pO Tryz.func342 λr h _ _=>?_;unfold N4 at h;refine S4 2 J<|S4 2 J<|b8 ?_;cases h;exact f1

theorem M0{a0}:PON Tryz.prog 348 [.L b7.Pv a0] (x8 a0) λr=>⟨List.map b7.Pv r,0,true,8,true⟩:=by
 refine pON Tryz.func348 λr h _ _=>?_;unfold x8 at h;refine S4 1 J<|e6<|S3 1 J<|b8V J M4 λb hb=>yN ?_;refine H9 b J (λhc=>?_) (λhc=>?_)
 ·obtain rfl:a0 = []:=by simpa using hb hc
  refine S4 1 J<|a3e (G2 (t:=2) (l:=920000) (z:=8) J J)<|b8 ?_;cases h;exact⟨J,_,_,J,J,J,J⟩
 ·refine c4 ?_;refine sR<|y0 J (F9 J M4 P8)<|S1 1 J<|y1 J (b1b (f:=b7.Pv) h J J (.inl ⟨_,J,J⟩) M4 P8 c2A a8T J (λ_=>J)) J<|S2 1 J<|b8 ?_;exact⟨J,_,_,J,J,J,J⟩

theorem I2{a0 a1 a2}:PO Tryz.prog 312 [c7.Pv a0,.I a1,b7.Pv a2] (C6 a0 a1 a2) λr=>c7.Pv r:=by
 refine pO Tryz.func312 λr h _ _=>?_;unfold C6 at h;refine S4 3 J<|S3 2 J<|w8 h λv1 hv1 h=>ycN J (b6y J M0 J hv1) J J<|S2 2 J<|S3 4 J<|w8 h λv2 hv2 h=>y0 J (a3F (f:=b7.Pv) hv2 J J J J M4 P8 J)<|b1Q (f:=b7.Pv) (v:=a2) hv2 J J (.inr J) P8<|yN<|S4 2 J<|b8 ?_;cases h;exact⟨J,[_],⟨oL J J J a3o a1L nl J,tr⟩,J,io⟩

theorem a73{a0 a1}:PO Tryz.prog 122 [.I a0,.I a1] (a1t a0 a1) λr=>.I r:=by
 refine pO Tryz.func122 λr h _ _=>?_;refine S4 1 J<|e6<|S3 3 J<|k7 J (λhg=>mI J)<|k7 J (λhg=>w7 (ct hg) J J)<|y0 J (B6 J J J (λq=>eqF q))<|S1 1 J<|k7 J (λhg=>mI J)<|k7 J (λhg=>w7 (ct hg) J J)<|y0 J (B6 J J J (λq=>eqF q))<|S1 1 J<|k7 J (λhg=>mI J)<|k7 J (λhg=>w7 (ct hg) J J)<|y0 J (B6 J J J (λq=>eqF q))<|yN ?_;refine cN h (λhc h=>?_) λhc h=>?_
 ·refine S4 1 J ?_;refine b8 ?_;cases h;exact f1
 ·refine c4 ?_;refine S4 7 J<|b8 ?_;cases h;exact f1

theorem a7c{a0 a1}:PO Tryz.prog 299 [c7.Pv a0,m7.Pv a1] (I4 a0 a1) λr=>.tup [c7.Pv r.1,.I r.2.1,.I r.2.2]:=by
 refine pO Tryz.func299 λr h _ _=>?_;refine S4 5 J ?_;refine jq h (λ_=>St.of [(2,.ptr 2005 0 0),(4,.ptr 2003 0 0),(5,.ptr 2002 0 0),(6,.ptr 2001 0 0)] [(2001,vR (.I 0) 1),(2002,vR (.I 0) 1),(2003,vR (.agg [.nl,.I 0]) 2),(2005,vR (c7.Pv a0) 2)]) (λq10 h=>?_) λκ9 h=>?_
 ·refine S4 4 J ?_;refine b8 ?_;cases h;exact⟨J,[_,_,_],⟨oL J J J a3o a1L nl J,⟨oS J J J C7 J,⟨oS J J J a6p J,tr⟩⟩⟩,J,io⟩
 ·refine S3 1 J ?_;refine cF h a7d J J λv11 _ h=>yN<|g5<|a3e (WPE (λl=>if l=2006 then 6 else if l=2007 then 5 else if l=2008 then 4 else if l=2009 then 3 else if l=2010 then 2 else l) [(2,.ptr 2010 0 0),(3,.ptr 2009 0 0),(4,.ptr 2008 0 0),(5,.ptr 2007 0 0),(6,.ptr 2006 0 0),(10,.fn (.func 361) [.rptr (c7.Pc v11)])] [(2006,vR (.I 0) 1),(2007,vR (.I 0) 1),(2008,vR (.agg [.nl,.I 0]) 2),(2009,vR (m7.Pv a1) 6),(2010,vR (c7.Pv a0) 2)]) ?_
  refine a13 (fn:=Tryz.f361) (N1:=23) J Tryz.func361 J J nl J c8D J J (λl19 e20 o21 hR22=>?_);refine S3 2 J<|nL J M4<|S2 1 J<|g5<|lq h (λs13=>St.of [(1000002,.ptr 2010 0 0),(1000003,.ptr 2009 0 0),(1000004,.ptr 2008 0 0),(1000005,.ptr 2007 0 0),(1000006,.ptr 2006 0 0),(1000010,.fn (.func 361) [.rptr (c7.Pc v11)]),(0,.fn (.yield l19) []),(6,.L b7.Pv v11.a8),(7,.I (v11.a8.length:Int)),(8,.I s13)] [(2006,vR (.I 0) 1),(2007,vR (.I 0) 1),(2008,vR (.agg [.nl,.I 0]) 2),(2009,vR (m7.Pv a1) 6),(2010,vR (c7.Pv a0) 2)]) W λs13 x14 h hx25=>S4 1 J<|e6 ?_;refine cN h (λhc h=>?_) λhc h=>?_
  ·refine c4 ?_;refine e6<|g5<|S3 1 J<|iL h J J M4 P8 λv15 _ h=>S2 4 J<|S3 4 J<|k7 J (λhg=>om (d:=.fn (.yield l19) []) J)<|k7 J (λhg=>mI J) ?_;rcases Bool.eq_false_or_eq_true ((v15.State==0)==true) with hg27 | hg27
   ·have h:=ifT h hg27;refine T1 (WE [(1000002,.ptr 2010 0 0),(1000003,.ptr 2009 0 0),(1000004,.ptr 2008 0 0),(1000005,.ptr 2007 0 0),(1000006,.ptr 2006 0 0),(1000010,.fn (.func 361) [.rptr (c7.Pc v11)]),(0,.fn (.yield l19) []),(6,.L b7.Pv v11.a8),(7,.I (v11.a8.length:Int)),(8,.I s13),(16,.bool (v15.State==0)),(17,.fn (.yield l19) []),(18,.I s13)] [(2006,vR (.I 0) 1),(2007,vR (.I 0) 1),(2008,vR (.agg [.nl,.I 0]) 2),(2009,vR (m7.Pv a1) 6),(2010,vR (c7.Pv a0) 2)]) ?_;refine a7n hR22 (congrArg some hg27) J J J J J (λe28 o29 o30=>?_);refine S6 1 J ?_;refine⟨J,?_⟩;refine g5<|S3 3 J<|iL h J J M4 P8 λv16 _ h=>S2 3 J<|S3 4 J<|y0 J (p6 (cs:=[.I 1,.I v16.Gen,.I a1.Serial,.I a1.Strong,.I a1.Weak,.I a1.Prog,.bool a1.Started,.L iF a1.Fields]) J b3p a8T J J J)<|cF h I2 J J λv17 _ h=>S1 2 J<|cA h a73 J J λv18 _ h=>S2 3 J<|b8 ?_;refine⟨J,?_⟩;refine T1 (WE [(1000002,.ptr 2010 0 0),(1000003,.ptr 2009 0 0),(1000004,.ptr 2008 0 0),(1000005,.ptr 2007 0 0),(1000006,.ptr 2006 0 0),(1000010,.fn (.func 361) [.rptr (c7.Pc v11)]),(0,.fn (.yield l19) []),(6,.L b7.Pv v11.a8),(7,.I (v11.a8.length:Int)),(8,.I s13),(16,.bool (v15.State==0)),(19,.bool false)] [(2006,vR (.I 0) 1),(2007,vR (.I v18) 1),(2008,vR (c7.Pv v17) 2),(2009,vR (m7.Pv a1) 6),(2010,vR (c7.Pv a0) 2)])<|y0 (congrArg some hg27) (a1w J J)<|y0 J (a6T J J hg27)<|yN ?_;refine H9 true J (λ_=>?_) (λq=>nomatch q);refine b8 ?_;refine .inr ⟨.ret,J,c9C ?_⟩;have h:=xL hx25 h;cases h;exact⟨J,[_,_,_],⟨oL J J J a3o a1L nl J,⟨oS J J J C7 J,⟨oS J J J a6p J,tr⟩⟩⟩,J,io⟩
   ·have h:=ifF h hg27;refine a2e (congrArg some hg27)<|a2e (congrArg some hg27)<|y0 J (a86 J J hg27)<|yN ?_;refine H9 false J (λq=>nomatch q) (λ_=>?_);refine c4<|S6 2 J ?_;exact eL h W
  ·refine o8 ?_;refine c5<|c5<|l4 ?_;refine .inl ⟨J,?_⟩;have h:=xL hx25 h;exact eJ h (WP (λl=>if l=2005 then 2010 else if l=2003 then 2008 else if l=2002 then 2007 else if l=2001 then 2006 else l))

theorem b5V{a0 a1 a2}:PO Tryz.prog 240 [a7.Pv a0,.I a1,.I a2] (T0 a0 a1 a2) λr=>.tup [a7.Pv r.1,.I r.2.1,.I r.2.2]:=by
 refine pO Tryz.func240 λr h _ _=>?_;refine S4 4 J<|S3 1 J<|cF h c2o J J λv1 _ h=>S2 5 J<|e6<|S4 2 J ?_;refine cN h (λhc h=>?_) λhc h=>?_
 ·refine S4 5 J ?_;refine b8 ?_;cases h;exact⟨J,[_,_,_],⟨oL J J J a6o a6u nl J,⟨J,⟨J,tr⟩⟩⟩,J,io⟩
 ·refine c4 ?_;refine e6<|S3 1 J<|cA h a8I J J λv2 _ h=>S2 1 J ?_;refine cN h (λhc h=>?_) λhc h=>?_
  ·refine S4 4 J ?_;refine b8 ?_;cases h;exact⟨J,[_,_,_],⟨oL J J J a6o a6u nl J,⟨J,⟨J,tr⟩⟩⟩,J,io⟩
  ·refine c4 ?_;refine S3 7 J<|y0 J (p6 (cs:=[.I (u6 (a0.Serial+1)),.I 0,.I 0,.I a2,.bool false,.L iF v1.1]) J c8K c81 J J J)<|cF h a7c J J λv3 _ h=>S2 8 J<|e6<|S4 2 J ?_;refine cN h (λhc h=>?_) λhc h=>?_
   ·refine S4 5 J ?_;refine b8 ?_;cases h;exact⟨J,[_,_,_],⟨oL J J J a6o a6u nl J,⟨J,⟨J,tr⟩⟩⟩,J,io⟩
   ·refine c4 ?_;refine S3 4 J<|y0 J (p6 (cs:=[.L b7.Pv v3.1.a8,.I v3.1.Last,.I (u6 (a0.Serial+1))]) J c5A c5K J J J)<|S2 4 J<|b8 ?_;cases h;exact⟨J,[_,_,_],⟨oL J J J a6o a6u nl J,⟨J,⟨J,tr⟩⟩⟩,J,io⟩

theorem a7v{a0}:PO Tryz.prog 353 [.I a0] (a1U a0) λr=>.tup [.I r.1,.I r.2.1,.bool r.2.2]:=by
 refine pO Tryz.func353 λr h _ _=>?_;refine S4 3 J<|e6<|S4 2 J ?_;refine cN h (λhc h=>?_) λhc h=>?_
 ·refine S4 3 J ?_;refine b8 ?_;cases h;exact f3
 ·refine c4 ?_;refine S3 2 J<|w8 h λv1 hv1 h=>y0 J (a5N J J hv1)<|w8 h λv2 hv2 h=>y0 J (a5N J J hv2)<|S1 2 J<|w8 h λv3 hv3 h=>y0 J (a5N J J hv3)<|S2 2 J<|e6<|S3 3 J<|k7 J (λhg=>mI J)<|k7 J (λhg=>w7 (ct hg) J J)<|y0 J (B6 J J J (λq=>eqF q))<|yN ?_;refine cN h (λhc h=>?_) λhc h=>?_
  ·refine S4 3 J ?_;refine b8 ?_;cases h;exact f3
  ·refine c4 ?_;refine S4 5 J<|b8 ?_;cases h;exact f3

theorem a74{a0}:PO Tryz.prog 323 [.I a0] (a26 a0) λr=>.I r:=by
 refine pO Tryz.func323 λr h _ _=>?_;refine S4 1 J<|S3 1 J<|cA h a7v J J λv1 _ h=>S2 7 J<|S4 2 J<|b8 ?_;cases h;exact f1

theorem a9J{a0}:PO Tryz.prog 324 [.I a0] (a4j a0) λr=>.I r:=by
 refine pO Tryz.func324 λr h _ _=>?_;refine S4 1 J<|S3 1 J<|cA h a7v J J λv1 _ h=>S2 7 J<|S4 2 J<|b8 ?_;cases h;exact f1

theorem I1{a0 a1}:PO Tryz.prog 288 [c7.Pv a0,.I a1] (u9 a0 a1) λr=>.tup [.I r.1,.I r.2]:=by
 refine pO Tryz.func288 λr h _ _=>?_;refine S4 3 J<|e6<|S4 2 J ?_;refine cN h (λhc h=>?_) λhc h=>?_
 ·refine S4 2 J ?_;refine b8 ?_;cases h;exact f2
 ·refine c4 ?_;refine S3 1 J<|cA h a74 J J λv1 _ h=>S2 1 J<|e6<|S3 3 J<|k7 J (λhg=>mI J)<|k7 J (λhg=>oF J c5s J)<|k7 J (λhg=>oS (ct hg) J J d1v J)<|k7 J (λhg=>X0 (f:=b7.Pv) (ct hg) M4)<|k7 J (λhg=>w7 (ct hg) (ct hg) J)<|y0 J (B6 J J J (λq=>eqF q))<|yN ?_;refine cN h (λhc h=>?_) λhc h=>?_
  ·refine S4 2 J ?_;refine b8 ?_;cases h;exact f2
  ·refine c4 ?_;refine S3 3 J<|iL h J J M4 P8 λv2 _ h=>S2 3 J<|e6<|dr [] u5 (by kernel_rfl) (by kernel_rfl)<|S7 3 J<|w8 h λv3 hv3 h=>d2 J (F1 J a9J J hv3) J<|S7 2 J<|C8 J (λhg _ hN=>oF J b52 J) J<|J0 J (λhg=>oS (ct hg) J J C7 J) J<|C8 J (λhg _ hN=>w7 (ct hg) J J) J<|C8 J (λhg _ hN=>om (d:=.bool (v2.State != 1)) (ct hg)) J<|C8 (b6T J J J) (λhg _ hN=>oF J b52 J) J<|J0 (b6T J J J) (λhg=>oS (ct hg) J J C7 J) J<|C8 (b6T J J J) (λhg _ hN=>w7 (ct hg) J J) J<|C8 J (λhg _ hN=>y6 (ct hg) J J (λq=>d4m hg (eqT q))) J<|d7 J (λ_ hN=>B6 J J J (λq=>eqF q)) J<|O2 ?_
   refine cN h (λhc h=>?_) λhc h=>?_
   ·refine S4 2 J ?_;refine b8 ?_;cases h;exact f2
   ·refine c4 ?_;refine S4 3 J<|b8 ?_;cases h;exact f2

theorem a2m{a0 a1}:PO Tryz.prog 210 [c7.Pv a0,.I a1] (D6 a0 a1) λr=>.tup [m7.Pv r.1,.I r.2]:=by
 refine pO Tryz.func210 λr h _ _=>?_;refine S4 3 J<|S4 1 J<|S3 2 J<|cA h I1 J J λv1 _ h=>S2 5 J<|e6<|S4 2 J ?_;refine cN h (λhc h=>?_) λhc h=>?_
 ·refine S3 2 J ?_;refine a2p (x':=.agg [.I 0,.I 0,.I 0,.I 0,.bool false,.nl]) (cl':=true) J J (.inl J) a4O<|S2 1 J<|b8 ?_;cases h;exact⟨J,[_,_],⟨oL J J J b0p a4O nl J,⟨J,tr⟩⟩,J,io⟩
 ·refine c4 ?_;refine e6<|S3 3 J<|iL h J J M4 P8 λv2 hv2 h=>S2 3 J ?_;refine cN h (λhc h=>?_) λhc h=>?_
  ·refine S3 1 J ?_;refine a2p (x':=.agg [.I 0,.I 0,.I 0,.I 0,.bool false,.nl]) (cl':=true) J J (.inl J) a4O<|S2 1 J<|b8 ?_;cases h;exact⟨J,[_,_],⟨oL J J J b0p a4O nl J,⟨J,tr⟩⟩,J,io⟩
  ·refine c4 ?_;refine S3 3 J<|y0 J (A5 (f:=b7.Pv) (cs:=b7.Pc v2) hv2 J J M4 P8 J J)<|S2 4 J<|b8 ?_;cases h;exact⟨J,[_,_],⟨oL J J J b0p a4O nl J,⟨J,tr⟩⟩,J,io⟩

theorem C0{a0 a1}:PO Tryz.prog 126 [a7.Pv a0,.I a1] (x6 a0 a1) λr=>.tup [m7.Pv r.1,.I r.2]:=by
 refine pO Tryz.func126 λr h _ _=>?_;refine S4 3 J<|S3 3 J<|cF h a2m J J λv1 _ h=>S2 4 J<|b8 ?_;cases h;exact⟨J,[_,_],⟨oL J J J b0p a4O nl J,⟨J,tr⟩⟩,J,io⟩

theorem b4C{a0 a1}:PO Tryz.prog 344 [b6.Pv a0,.I a1] (a4Y a0 a1) λr=>.bool r:=by
 refine pO Tryz.func344 λr h _ _=>?_;refine S4 2 J<|S3 3 J<|cF h C0 J J λv1 _ h=>S2 6 J<|S4 3 J<|b8 ?_;cases h;exact f1

theorem U3{a0 a1}:PO Tryz.prog 301 [b6.Pv a0,.I a1] (K7 a0 a1) λr=>.bool r:=by
 refine pO Tryz.func301 λr h _ _=>?_;unfold K7 at h;refine S4 2 J<|S3 3 J<|k7 J (λhg=>oL J J J s6 o9 nl J)<|k7 J (λhg=>mI J)<|w8 h λv1 hv1 h=>k7 J (λhg=>F1 J b4C (E3 (ct hg) (E3 (ct hg) J)) (F2 hv1 hg))<|y0 J (B6 J J J (λq=>eqF q))<|S2 1 J<|b8 ?_;cases h;exact f1

theorem a0f{a0}:PO Tryz.prog 349 [.I a0] (F5 a0) λr=>.bool r:=by
 refine pO Tryz.func349 λr h _ _=>?_;unfold F5 at h;refine S4 1 J<|S4 3 J<|b8 ?_;cases h;exact f1

theorem b0D{a0}:PO Tryz.prog 315 [.I a0] (a4d a0) λr=>.tup [.I r.1,.I r.2]:=by
 refine pO Tryz.func315 λr h _ _=>?_;refine S4 2 J<|e6<|S3 1 J<|cA h a0f J J λv1 _ h=>yN ?_;refine cN h (λhc h=>?_) λhc h=>?_
 ·refine S4 2 J ?_;refine b8 ?_;cases h;exact f2
 ·refine c4 ?_;refine S3 1 J<|y0 J (c67 J J J)<|S2 3 J<|b8 ?_;cases h;exact f2

theorem b7h{a0}:PO Tryz.prog 252 [.I a0] (a8W a0) λr=>.I r:=by
 refine pO Tryz.func252 λr h _ _=>?_;refine S4 1 J<|S3 1 J<|cA h b0D J J λv1 _ h=>S2 5 J<|S4 2 J<|b8 ?_;cases h;exact f1

theorem a7L{a0 a1 a2}:PO Tryz.prog 249 [c7.Pv a0,.I a1,m7.Pv a2] (J7 a0 a1 a2) λr=>.tup [c7.Pv r.1,.I r.2]:=by
 refine pO Tryz.func249 λr h _ _=>?_;refine S4 4 J<|S3 2 J<|cA h I1 J J λv1 _ h=>S2 5 J<|e6<|S4 2 J ?_;refine cN h (λhc h=>?_) λhc h=>?_
 ·refine S4 4 J ?_;refine b8 ?_;cases h;exact⟨J,[_,_],⟨oL J J J a3o a1L nl J,⟨J,tr⟩⟩,J,io⟩
 ·refine c4 ?_;refine S3 3 J<|iL h J J M4 P8 λv2 _ h=>S2 3 J<|S4 3 J<|S3 3 J<|cF h I2 J J λv3 _ h=>S2 2 J<|b8 ?_;cases h;exact⟨J,[_,_],⟨oL J J J a3o a1L nl J,⟨J,tr⟩⟩,J,io⟩

theorem a0G{a0 a1 a2}:PO Tryz.prog 167 [a7.Pv a0,.I a1,m7.Pv a2] (J8 a0 a1 a2) λr=>.tup [a7.Pv r.1,.I r.2]:=by
 refine pO Tryz.func167 λr h _ _=>?_;refine S4 4 J<|S4 1 J<|S3 4 J<|cF h a7L J J λv1 _ h=>S2 6 J<|S4 4 J<|b8 ?_;cases h;exact⟨J,[_,_],⟨oL J J J a6o a6u nl J,⟨J,tr⟩⟩,J,io⟩

theorem a4l{a0 a1}:PO Tryz.prog 251 [b6.Pv a0,.I a1,.fn (.func 252) []] (U2 a0 a1) λr=>b6.Pv r:=by
 refine pO Tryz.func251 λr h _ _=>?_;refine S4 2 J<|S3 3 J<|cF h C0 J J λv1 _ h=>S2 6 J<|e6<|S4 2 J ?_;refine cN h (λhc h=>?_) λhc h=>?_
 ·refine S3 3 J ?_;refine cA h b7h J J λv2 _ h=>S2 2 J<|S5 4 J<|cF h a0G J J λv3 _ h=>S2 5 J<|S4 2 J<|b8 ?_;cases h;exact⟨J,[_],⟨oL J J J s6 o9 nl J,tr⟩,J,io⟩
 ·refine c4 ?_;refine S4 2 J<|b8 ?_;cases h;exact⟨J,[_],⟨oL J J J s6 o9 nl J,tr⟩,J,io⟩

theorem a1X{a0 a1}:PO Tryz.prog 169 [b6.Pv a0,.I a1] (a0h a0 a1) λr=>b6.Pv r:=by
 refine pO Tryz.func169 λr h _ _=>?_;refine S4 2 J<|S3 2 J<|cF h a4l J J λv1 _ h=>S2 1 J<|b8 ?_;cases h;exact⟨J,[_],⟨oL J J J s6 o9 nl J,tr⟩,J,io⟩

theorem a5v{a0}:PON Tryz.prog 359 [.L iF a0] (L9 a0) λr=>⟨List.map iF r,0,true,1,true⟩:=by
 refine pON Tryz.func359 λr h _ _=>?_;unfold L9 at h;refine S4 1 J<|e6<|S3 1 J<|b8V J j5 λb hb=>yN ?_;refine H9 b J (λhc=>?_) (λhc=>?_)
 ·obtain rfl:a0 = []:=by simpa using hb hc
  refine S4 1 J<|a3e (G2 (t:=2) (l:=920000) (z:=1) J J)<|b8 ?_;cases h;exact⟨J,_,_,J,J,J,J⟩
 ·refine c4 ?_;refine sR<|y0 J (F9 J j5 o5)<|S1 1 J<|y1 J (b1b (f:=iF) h J J (.inl ⟨_,J,J⟩) j5 o5 K1 A3 J (λ_=>J)) J<|S2 1 J<|b8 ?_;exact⟨J,_,_,J,J,J,J⟩

theorem a7I{a0 a1}:PO Tryz.prog 332 [H6.Pv a0,b6.Pv a1] (O9 a0 a1) λr=>b6.Pv r:=by
 refine pO Tryz.func332 λr h _ _=>?_;unfold O9 at h;refine S4 3 J<|S3 2 J<|w8 h λv1 hv1 h=>ycN J (b6y J a5v J hv1) J J<|S2 2 J<|S3 6 J<|w8 h λv2 hv2 h=>y0 J (a3F (f:=iF) hv2 J J J J j5 o5 J)<|b1Q (f:=iF) (v:=a0.h) hv2 J J (.inl J) o5<|yN<|S4 2 J<|b8 ?_;cases h;exact⟨J,[_],⟨oL J J J s6 o9 nl J,tr⟩,J,io⟩

theorem a9t{a0}:PO Tryz.prog 325 [.I a0] (a2u a0) λr=>.tup [.I r.1,.I r.2]:=by
 refine pO Tryz.func325 λr h _ _=>?_;refine S4 2 J<|e6<|S3 1 J<|cA h a0f J J λv1 _ h=>yN ?_;refine cN h (λhc h=>?_) λhc h=>?_
 ·refine S4 2 J ?_;refine b8 ?_;cases h;exact f2
 ·refine c4 ?_;refine e6<|S4 2 J ?_;refine cN h (λhc h=>?_) λhc h=>?_
  ·refine S4 2 J ?_;refine b8 ?_;cases h;exact f2
  ·refine c4 ?_;refine S4 4 J<|b8 ?_;cases h;exact f2

theorem b7g{a0}:PO Tryz.prog 259 [.I a0] (b1Z a0) λr=>.tup [.I r.1,.I r.2]:=by
 refine pO Tryz.func259 λr h _ _=>?_;refine S4 2 J<|S3 1 J<|cA h a9t J J λv1 _ h=>S2 5 J<|S4 4 J<|b8 ?_;cases h;exact f2

theorem b0Y{a0}:PO Tryz.prog 258 [.I a0] (a1W a0) λr=>.I r:=by
 refine pO Tryz.func258 λr h _ _=>?_;refine S4 1 J<|S3 1 J<|cA h b7g J J λv1 _ h=>S2 5 J<|e6<|S4 2 J ?_;refine cN h (λhc h=>?_) λhc h=>?_
 ·refine S4 2 J ?_;refine b8 ?_;cases h;exact f1
 ·refine c4 ?_;refine S4 2 J<|b8 ?_;cases h;exact f1

theorem a2h{a0 a1}:PO Tryz.prog 251 [b6.Pv a0,.I a1,.fn (.func 258) []] (M8 a0 a1) λr=>b6.Pv r:=by
 refine pO Tryz.func251 λr h _ _=>?_;refine S4 2 J<|S3 3 J<|cF h C0 J J λv1 _ h=>S2 6 J<|e6<|S4 2 J ?_;refine cN h (λhc h=>?_) λhc h=>?_
 ·refine S3 3 J ?_;refine cA h b0Y J J λv2 _ h=>S2 2 J<|S5 4 J<|cF h a0G J J λv3 _ h=>S2 5 J<|S4 2 J<|b8 ?_;cases h;exact⟨J,[_],⟨oL J J J s6 o9 nl J,tr⟩,J,io⟩
 ·refine c4 ?_;refine S4 2 J<|b8 ?_;cases h;exact⟨J,[_],⟨oL J J J s6 o9 nl J,tr⟩,J,io⟩

theorem W8{a0 a1}:PO Tryz.prog 176 [b6.Pv a0,.I a1] (C4 a0 a1) λr=>b6.Pv r:=by
 refine pO Tryz.func176 λr h _ _=>?_;refine S4 2 J<|S3 2 J<|cF h a2h J J λv1 _ h=>S2 1 J<|b8 ?_;cases h;exact⟨J,[_],⟨oL J J J s6 o9 nl J,tr⟩,J,io⟩

theorem a1h{a0 a1 a2 a3}:PO Tryz.prog 302 [b6.Pv a0,.I a1,.I a2,.abs (BFn 332 [H6.Pv a3])] (E7 a0 a1 a2 a3) λr=>b6.Pv r:=by
 refine pO Tryz.func302 λr h _ _=>?_;refine S4 2 J<|S3 3 J<|cF h a1X J J λv1 _ h=>w8 h λv2 hv2 h=>b8U (xs:=[b6.Pv v1]) J J c8C J (a7I.2 _ hv2)<|S1 1 J<|cF h W8 J J λv3 _ h=>S2 1 J<|b8 ?_;cases h;exact⟨J,[_],⟨oL J J J s6 o9 nl J,tr⟩,J,io⟩

theorem a6J{a0 a1 a2}:PO Tryz.prog 263 [b6.Pv a0,.I a1,.I a2] (a0x a0 a1 a2) λr=>.tup [b6.Pv r.1,.I r.2]:=by
 refine pO Tryz.func263 λr h _ _=>?_;refine S4 3 J<|e6<|S3 3 J<|k7 J (λhg=>mI J)<|k7 J (λhg=>oF J b31 J)<|k7 J (λhg=>oS (ct hg) J J a7O J)<|k7 J (λhg=>X0 (f:=iF) (ct hg) j5)<|k7 J (λhg=>w7 (ct hg) (ct hg) J)<|y0 J (B6 J J J (λq=>eqF q))<|yN ?_;refine cN h (λhc h=>?_) λhc h=>?_
 ·refine S4 3 J ?_;refine b8 ?_;cases h;exact⟨J,[_,_],⟨oL J J J s6 o9 nl J,⟨J,tr⟩⟩,J,io⟩
 ·refine c4 ?_;refine e6<|S3 2 J<|cA h U3 J J λv1 _ h=>S2 1 J ?_;refine cN h (λhc h=>?_) λhc h=>?_
  ·refine S4 3 J ?_;refine b8 ?_;cases h;exact⟨J,[_,_],⟨oL J J J s6 o9 nl J,⟨J,tr⟩⟩,J,io⟩
  ·refine c4 ?_;refine dr [] u5 (by kernel_rfl) (by kernel_rfl)<|S7 4 J<|w8 h λv2 hv2 h=>d0 J (A5 (f:=iF) (cs:=[.I v2]) hv2 J J j5 o5 J J) J<|S7 4 J<|d7 J (λ_ hN=>p6 (cs:=[.I a1,.I a2]) J c8T c88 J J J) J<|d7 J (λ_ hN=>b2g (d:=.agg [.I a1,.I a2]) J) J<|w8 h λv3 hv3 h=>d2f J (y8 J a1h J hv3) J<|E8 (x':=b6.Pv v3) (cl':=true) J J (.inr J) o9<|S8 1 J<|b8 ?_
   cases h;exact⟨J,[_,_],⟨oL J J J s6 o9 nl J,⟨J,tr⟩⟩,J,io⟩

theorem G5{a0 a1 a2}:PO Tryz.prog 241 [r8.Pv a0,.I a1,.I a2] (B8 a0 a1 a2) λr=>.tup [b6.Pv r.1,.I r.2]:=by
 refine pO Tryz.func241 λr h _ _=>?_;refine S4 3 J<|e6<|S4 2 J ?_;refine cN h (λhc h=>?_) λhc h=>?_
 ·refine S4 5 J ?_;refine b8 ?_;cases h;exact⟨J,[_,_],⟨oL J J J s6 o9 nl J,⟨J,tr⟩⟩,J,io⟩
 ·refine c4 ?_;refine S3 6 J<|cF h a6J J J λv1 _ h=>S2 4 J<|b8 ?_;cases h;exact⟨J,[_,_],⟨oL J J J s6 o9 nl J,⟨J,tr⟩⟩,J,io⟩

theorem a10{a0}:PO Tryz.prog 151 [r8.Pv a0] (T2 a0) λr=>.tup [b6.Pv r.1,.I r.2]:=by
 refine pO Tryz.func151 λr h _ _=>?_;refine S4 3 J<|S3 9 J<|cF h b5V J J λv1 _ h=>S2 8 J<|e6<|S4 2 J ?_;refine cN h (λhc h=>?_) λhc h=>?_
 ·refine S4 5 J ?_;refine b8 ?_;cases h;exact⟨J,[_,_],⟨oL J J J s6 o9 nl J,⟨J,tr⟩⟩,J,io⟩
 ·refine c4 ?_;refine S4 4 J<|S3 2 J<|cF h G5 J J λv2 _ h=>S2 4 J<|b8 ?_;cases h;exact⟨J,[_,_],⟨oL J J J s6 o9 nl J,⟨J,tr⟩⟩,J,io⟩

theorem M9{a0 a1}:PO Tryz.prog 164 [b6.Pv a0,.I a1] (L0 a0 a1) λr=>.I r:=by
 refine pO Tryz.func164 λr h _ _=>?_;refine S4 2 J<|e6<|S3 3 J<|k7 J (λhg=>mI J)<|k7 J (λhg=>oF J b31 J)<|k7 J (λhg=>oS (ct hg) J J a7O J)<|k7 J (λhg=>X0 (f:=iF) (ct hg) j5)<|k7 J (λhg=>w7 (ct hg) (ct hg) J)<|y0 J (B6 J J J (λq=>eqF q))<|yN ?_;refine cN h (λhc h=>?_) λhc h=>?_
 ·refine S4 1 J ?_;refine b8 ?_;cases h;exact f1
 ·refine c4 ?_;refine S3 3 J<|iL h J J j5 o5 λv1 _ h=>S2 2 J<|b8 ?_;cases h;exact f1

theorem a0L{a0}:PO Tryz.prog 152 [r8.Pv a0] (H8 a0) λr=>.tup [b6.Pv r.1,.I r.2]:=by
 refine pO Tryz.func152 λr h _ _=>?_;unfold H8 at h;refine S4 3 J<|dr [] u5 (by kernel_rfl) (by kernel_rfl)<|S7 6 J<|w8 h λv1 hv1 h=>d2 J (F1 J M9 J hv1) J<|w8 h λv2 hv2 h=>d2f J (y8 J G5 J hv2) J<|S7 2 J<|E8 (x':=b6.Pv v2.1) (cl':=true) J J (.inr J) o9<|S8 1 J<|b8 ?_
 cases h;exact⟨J,[_,_],⟨oL J J J s6 o9 nl J,⟨J,tr⟩⟩,J,io⟩

theorem a3a{a0}:PO Tryz.prog 153 [r8.Pv a0] (Z7 a0) λr=>.tup [b6.Pv r.1,.I r.2]:=by
 refine pO Tryz.func153 λr h _ _=>?_;refine S4 3 J<|S3 1 J<|cF h G5 J J λv1 _ h=>S2 4 J<|b8 ?_;cases h;exact⟨J,[_,_],⟨oL J J J s6 o9 nl J,⟨J,tr⟩⟩,J,io⟩

theorem Q5{a0 a1}:PO Tryz.prog 242 [b6.Pv a0,.I a1] (L7 a0 a1) λr=>.tup [.I r.1,.I r.2]:=by
 refine pO Tryz.func242 λr h _ _=>?_;refine S4 3 J<|S3 2 J<|cA h M9 J J λv1 _ h=>S2 1 J<|e6<|S4 2 J ?_;refine cN h (λhc h=>?_) λhc h=>?_
 ·refine S4 2 J ?_;refine b8 ?_;cases h;exact f2
 ·refine c4 ?_;refine S4 3 J<|b8 ?_;cases h;exact f2

theorem b5p{a0 a1}:PO Tryz.prog 343 [.L iF a0,.I a1] (a7k a0 a1) λr=>.bool r:=by
 refine pO Tryz.func343 λr h _ _=>?_;unfold a7k at h;refine S4 1 J<|S3 3 J<|k7 J (λhg=>mI J)<|k7 J (λhg=>om (d:=.L iF a0) J)<|k7 J (λhg=>X0 (f:=iF) (ct hg) j5)<|k7 J (λhg=>w7 (ct hg) (ct hg) J)<|y0 J (y6 J J J (λq=>eqT q))<|S2 1 J<|b8 ?_;cases h;exact f1

theorem c5h{a0 a1}:PO Tryz.prog 300 [.L iF a0,.I a1] (b2H a0 a1) λr=>.tup [.I r.1,.I r.2]:=by
 refine pO Tryz.func300 λr h _ _=>?_;refine S4 2 J<|e6<|S3 2 J<|cA h b5p J J λv1 _ h=>S2 1 J ?_;refine cN h (λhc h=>?_) λhc h=>?_
 ·refine S4 2 J ?_;refine b8 ?_;cases h;exact f2
 ·refine c4 ?_;refine S3 2 J<|iL h J J j5 o5 λv2 _ h=>S2 3 J<|b8 ?_;cases h;exact f2

theorem a8H{a0 a1 a2}:PO Tryz.prog 243 [a7.Pv a0,.I a1,.I a2] (a0p a0 a1 a2) λr=>.tup [.I r.1,.I r.2]:=by
 refine pO Tryz.func243 λr h _ _=>?_;refine S4 3 J<|S3 2 J<|cF h C0 J J λv1 _ h=>S2 6 J<|e6<|S4 2 J ?_;refine cN h (λhc h=>?_) λhc h=>?_
 ·refine S4 3 J ?_;refine b8 ?_;cases h;exact f2
 ·refine c4 ?_;refine S3 3 J<|cA h c5h J J λv2 _ h=>S2 4 J<|b8 ?_;cases h;exact f2

theorem a3b{a0}:PO Tryz.prog 154 [r8.Pv a0] (Z8 a0) λr=>.tup [b6.Pv r.1,.I r.2]:=by
 refine pO Tryz.func154 λr h _ _=>?_;refine S4 3 J<|S3 5 J<|cA h Q5 J J λv1 _ h=>S2 5 J<|e6<|S4 2 J ?_;refine cN h (λhc h=>?_) λhc h=>?_
 ·refine S4 5 J ?_;refine b8 ?_;cases h;exact⟨J,[_,_],⟨oL J J J s6 o9 nl J,⟨J,tr⟩⟩,J,io⟩
 ·refine c4 ?_;refine dr [] u5 (by kernel_rfl) (by kernel_rfl)<|S7 8 J<|w8 h λv2 hv2 h=>d2 J (F1 J a8H J hv2) J<|S7 2 J<|w8 h λv3 hv3 h=>d2f J (y8 J G5 J hv3) J<|S7 2 J<|E8 (x':=b6.Pv v3.1) (cl':=true) J J (.inr J) o9<|S8 1 J<|b8 ?_
  cases h;exact⟨J,[_,_],⟨oL J J J s6 o9 nl J,⟨J,tr⟩⟩,J,io⟩

theorem c0E{a0 a1 a2}:PO Tryz.prog 362 [.L iF a0,.I a1,.I a2] (b5o a0 a1 a2) λr=>.tup [.L iF r.1,.I r.2]:=by
 refine pO Tryz.func362 λr h _ _=>?_;refine S4 2 J<|e6<|S3 2 J<|cA h b5p J J λv1 _ h=>S2 1 J ?_;refine cN h (λhc h=>?_) λhc h=>?_
 ·refine S4 3 J ?_;refine b8 ?_;cases h;exact f2
 ·refine c4 ?_;refine S3 1 J<|nL J j5<|w8 h λv2 hv2 h=>y1 J (b4Q (f:=iF) hv2 J J J j5 o5 A3 K1 J J J) J<|S2 1 J<|S3 2 J<|w8 h λv3 hv3 h=>d5F (f:=iF) hv3 J J J (.inl ⟨_,J,J⟩) j5 o5 (λ_=>J) (by decide)<|yN<|S3 3 J<|w8 h λv4 hv4 h=>y0 J (a3F (f:=iF) hv4 J J J J j5 o5 J)<|b1Q (f:=iF) (v:=a2) hv4 J J (.inl J) o5<|yN<|S4 3 J<|b8 ?_
  cases h;exact f2

theorem b8E{a0 a1 a2 a3}:PO Tryz.prog 345 [a7.Pv a0,.I a1,.I a2,.I a3] (a9i a0 a1 a2 a3) λr=>.tup [a7.Pv r.1,.I r.2]:=by
 refine pO Tryz.func345 λr h _ _=>?_;refine S4 3 J<|S3 2 J<|cF h C0 J J λv1 _ h=>S2 6 J<|e6<|S4 2 J ?_;refine cN h (λhc h=>?_) λhc h=>?_
 ·refine S4 4 J ?_;refine b8 ?_;cases h;exact⟨J,[_,_],⟨oL J J J a6o a6u nl J,⟨J,tr⟩⟩,J,io⟩
 ·refine c4 ?_;refine e6<|S3 4 J<|cF h c0E J J λv2 _ h=>S2 6 J<|S4 2 J ?_;refine cN h (λhc h=>?_) λhc h=>?_
  ·refine S4 4 J ?_;refine b8 ?_;cases h;exact⟨J,[_,_],⟨oL J J J a6o a6u nl J,⟨J,tr⟩⟩,J,io⟩
  ·refine c4 ?_;refine S3 3 J<|cF h a0G J J λv3 _ h=>S2 4 J<|b8 ?_;cases h;exact⟨J,[_,_],⟨oL J J J a6o a6u nl J,⟨J,tr⟩⟩,J,io⟩

theorem a6K{a0 a1}:PO Tryz.prog 303 [G3.Pv a0,b6.Pv a1] (a0O a0 a1) λr=>b6.Pv r:=by
 refine pO Tryz.func303 λr h _ _=>?_;refine S4 3 J<|S3 8 J<|cF h b8E J J λv1 _ h=>S2 5 J<|S4 2 J<|b8 ?_;cases h;exact⟨J,[_],⟨oL J J J s6 o9 nl J,tr⟩,J,io⟩

theorem a0Z{a0 a1 a2 a3}:PO Tryz.prog 302 [b6.Pv a0,.I a1,.I a2,.abs (BFn 303 [G3.Pv a3])] (H7 a0 a1 a2 a3) λr=>b6.Pv r:=by
 refine pO Tryz.func302 λr h _ _=>?_;refine S4 2 J<|S3 3 J<|cF h a1X J J λv1 _ h=>w8 h λv2 hv2 h=>b8U (xs:=[b6.Pv v1]) J J c8y J (a6K.2 _ hv2)<|S1 1 J<|cF h W8 J J λv3 _ h=>S2 1 J<|b8 ?_;cases h;exact⟨J,[_],⟨oL J J J s6 o9 nl J,tr⟩,J,io⟩

theorem b5L{a0 a1 a2 a3}:PO Tryz.prog 244 [b6.Pv a0,.I a1,.I a2,.I a3] (a2x a0 a1 a2 a3) λr=>.tup [b6.Pv r.1,.I r.2]:=by
 refine pO Tryz.func244 λr h _ _=>?_;refine S4 3 J<|S3 4 J<|cA h a8H J J λv1 _ h=>S2 5 J<|e6<|S4 2 J ?_;refine cN h (λhc h=>?_) λhc h=>?_
 ·refine S4 4 J ?_;refine b8 ?_;cases h;exact⟨J,[_,_],⟨oL J J J s6 o9 nl J,⟨J,tr⟩⟩,J,io⟩
 ·refine c4 ?_;refine e6<|S3 2 J<|cA h U3 J J λv2 _ h=>S2 1 J ?_;refine cN h (λhc h=>?_) λhc h=>?_
  ·refine S4 3 J ?_;refine b8 ?_;cases h;exact⟨J,[_,_],⟨oL J J J s6 o9 nl J,⟨J,tr⟩⟩,J,io⟩
  ·refine c4 ?_;refine S3 6 J<|y0 J (p6 (cs:=[.I a1,.I a2,.I a3]) J c8Q c85 J J J)<|y0 J (b2g (d:=.agg [.I a1,.I a2,.I a3]) J)<|cF h a0Z J J λv3 _ h=>S2 2 J<|b8 ?_;cases h;exact⟨J,[_,_],⟨oL J J J s6 o9 nl J,⟨J,tr⟩⟩,J,io⟩

theorem a2l{a0}:PO Tryz.prog 155 [r8.Pv a0] (W2 a0) λr=>.tup [b6.Pv r.1,.I r.2]:=by
 refine pO Tryz.func155 λr h _ _=>?_;refine S4 3 J<|S3 5 J<|cA h Q5 J J λv1 _ h=>S2 5 J<|e6<|S4 2 J ?_;refine cN h (λhc h=>?_) λhc h=>?_
 ·refine S4 5 J ?_;refine b8 ?_;cases h;exact⟨J,[_,_],⟨oL J J J s6 o9 nl J,⟨J,tr⟩⟩,J,io⟩
 ·refine c4 ?_;refine dr [] u5 (by kernel_rfl) (by kernel_rfl)<|S7 11 J<|w8 h λv2 hv2 h=>d2 J (F1 J M9 J hv2) J<|w8 h λv3 hv3 h=>d2f J (y8 J b5L J hv3) J<|S7 2 J<|E8 (x':=b6.Pv v3.1) (cl':=true) J J (.inr J) o9<|S8 1 J<|b8 ?_
  cases h;exact⟨J,[_,_],⟨oL J J J s6 o9 nl J,⟨J,tr⟩⟩,J,io⟩

theorem c2k{a0 a1}:PO Tryz.prog 346 [c8.Pv a0,.I a1] (b3Q a0 a1) λr=>.fn (.func 363) [.rptr (c8.Pc r.1),.rptr [.I r.2]]:=by
 refine pO Tryz.func346 λr h _ _=>?_;unfold b3Q at h;refine S4 3 J<|S4 2 J<|b8 ?_;cases h;exact f1

theorem b5W{a0 a1}:PO Tryz.prog 304 [c8.Pv a0,.I a1] (a4C a0 a1) λr=>.bool r:=by
 refine pO Tryz.func304 λr h _ _=>?_;refine S4 3 J ?_;refine jq h (λ_=>St.of [(4,.ptr 2001 0 0)] [(2001,vR (.bool false) 1)]) (λq7 h=>?_) λκ6 h=>?_
 ·refine S4 1 J ?_;refine b8 ?_;cases h;exact⟨J,[_],⟨oS J J J b3Z J,tr⟩,J,io⟩
 ·refine S3 1 J ?_;refine cF h c2k J J λv8 _ h=>yN<|g5<|a3e (WPE (λl=>if l=2003 then 4 else if l=2004 then 3 else l) [(3,.ptr 2004 0 0),(4,.ptr 2003 0 0),(7,.fn (.func 363) [.rptr (c8.Pc v8.1),.rptr [.I v8.2]])] [(2003,vR (.bool false) 1),(2004,vR (.I a1) 1)]) ?_
  refine a13 (fn:=Tryz.f363) (N1:=24) J Tryz.func363 J J nl J c8E J J (λl16 e17 o18 hR19=>?_);refine S3 2 J<|nL J a4a<|S2 1 J<|g5<|lq h (λs10=>St.of [(1000003,.ptr 2004 0 0),(1000004,.ptr 2003 0 0),(1000007,.fn (.func 363) [.rptr (c8.Pc v8.1),.rptr [.I v8.2]]),(0,.fn (.yield l16) []),(2,.rptr [.I v8.2]),(7,.L g9.Pv v8.1.L),(8,.I (v8.1.L.length:Int)),(9,.I s10)] [(2003,vR (.bool false) 1),(2004,vR (.I a1) 1)]) W λs10 x11 h hx22=>S4 1 J<|e6 ?_;refine cN h (λhc h=>?_) λhc h=>?_
  ·refine c4 ?_;refine e6<|g5<|sR<|iL h J J a4a K2 λv12 _ h=>S2 3 J<|S3 5 J<|k7 J (λhg=>om (d:=.fn (.yield l16) []) J)<|k7 J (λhg=>oL J J J a1H K2 nl J) ?_;rcases Bool.eq_false_or_eq_true ((v12.Kind==v8.2)==true) with hg24 | hg24
   ·have h:=ifT h hg24;refine T1 (WE [(1000003,.ptr 2004 0 0),(1000004,.ptr 2003 0 0),(1000007,.fn (.func 363) [.rptr (c8.Pc v8.1),.rptr [.I v8.2]]),(0,.fn (.yield l16) []),(2,.rptr [.I v8.2]),(7,.L g9.Pv v8.1.L),(8,.I (v8.1.L.length:Int)),(9,.I s10),(17,.bool (v12.Kind==v8.2)),(18,.fn (.yield l16) []),(19,g9.Pv v12)] [(2003,vR (.bool false) 1),(2004,vR (.I a1) 1)]) ?_;refine a7n hR19 (congrArg some hg24) J J J J J (λe25 o26 o27=>?_);refine S6 2 J ?_;refine⟨J,?_⟩;refine g5<|S4 4 J ?_;refine cN h (λhc h=>?_) λhc h=>?_
    ·refine S4 1 J ?_;refine b8 ?_;refine⟨J,?_⟩;refine T1 (WE [(1000003,.ptr 2004 0 0),(1000004,.ptr 2003 0 0),(1000007,.fn (.func 363) [.rptr (c8.Pc v8.1),.rptr [.I v8.2]]),(0,.fn (.yield l16) []),(2,.rptr [.I v8.2]),(7,.L g9.Pv v8.1.L),(8,.I (v8.1.L.length:Int)),(9,.I s10),(17,.bool (v12.Kind==v8.2)),(20,.bool false)] [(2003,vR (.bool true) 1),(2004,vR (.I a1) 1)])<|y0 (congrArg some hg24) (a1w J J)<|y0 J (a6T J J hg24)<|yN ?_;refine H9 true J (λ_=>?_) (λq=>nomatch q);refine b8 ?_;refine .inr ⟨.ret,J,c9C ?_⟩;have h:=xL hx22 h;cases h;exact⟨J,[_],⟨oS J J J b3Z J,tr⟩,J,io⟩
    ·refine c4 ?_;refine⟨J,?_⟩;refine T1 (WE [(1000003,.ptr 2004 0 0),(1000004,.ptr 2003 0 0),(1000007,.fn (.func 363) [.rptr (c8.Pc v8.1),.rptr [.I v8.2]]),(0,.fn (.yield l16) []),(2,.rptr [.I v8.2]),(7,.L g9.Pv v8.1.L),(8,.I (v8.1.L.length:Int)),(9,.I s10),(17,.bool (v12.Kind==v8.2)),(20,.bool true)] [(2003,vR (.bool false) 1),(2004,vR (.I a1) 1)])<|y0 (congrArg some hg24) (a1w J J)<|y0 J (a6T J J hg24)<|yN ?_;refine H9 false J (λq=>nomatch q) (λ_=>?_);refine c4<|S6 2 J ?_;exact eL h W
   ·have h:=ifF h hg24;refine a2e (congrArg some hg24)<|a2e (congrArg some hg24)<|y0 J (a86 J J hg24)<|yN ?_;refine H9 false J (λq=>nomatch q) (λ_=>?_);refine c4<|S6 2 J ?_;exact eL h W
  ·refine o8 ?_;refine c5<|c5<|l4 ?_;refine .inl ⟨J,?_⟩;have h:=xL hx22 h;exact eJ h (WP (λl=>if l=2001 then 2003 else l))

theorem b24{a0 a1}:PO Tryz.prog 308 [.L c9.Pv a0,.I a1] (a6k a0 a1) λr=>.bool r:=by
 refine pO Tryz.func308 λr h _ _=>?_;unfold a6k at h;refine S4 1 J<|S3 3 J<|k7 J (λhg=>mI J)<|k7 J (λhg=>om (d:=.L c9.Pv a0) J)<|k7 J (λhg=>X0 (f:=c9.Pv) (ct hg) R3)<|k7 J (λhg=>w7 (ct hg) (ct hg) J)<|y0 J (y6 J J J (λq=>eqT q))<|S2 1 J<|b8 ?_;cases h;exact f1

theorem a7D{a0}:PON Tryz.prog 319 [.L c9.Pv a0] (a0q a0) λr=>⟨List.map c9.Pv r,0,true,3,true⟩:=by
 refine pON Tryz.func319 λr h _ _=>?_;unfold a0q at h;refine S4 1 J<|S3 1 J<|nL J R3<|w8 h λv1 hv1 h=>y1 J (b4Q (f:=c9.Pv) hv1 J J J R3 V7 b67 c2D J J J) J<|S2 1 J<|S3 2 J<|w8 h λv2 hv2 h=>d5F (f:=c9.Pv) hv2 J J J (.inl ⟨_,J,J⟩) R3 V7 (λ_=>J) (by decide)<|yN<|S4 2 J<|b8 ?_
 cases h;exact⟨J,_,_,J,J,J,J⟩

theorem c0J{a0 a1 a2 a3}:PO Tryz.prog 305 [.L c9.Pv a0,.I a1,.I a2,.I a3] (b1O a0 a1 a2 a3) λr=>.tup [.L c9.Pv r.1,.I r.2.1,.I r.2.2]:=by
 refine pO Tryz.func305 λr h _ _=>?_;refine S4 3 J<|e6<|S3 2 J<|cA h b24 J J λv1 _ h=>S2 1 J ?_;refine cN h (λhc h=>?_) λhc h=>?_
 ·refine S4 4 J ?_;refine b8 ?_;cases h;exact f3
 ·refine c4 ?_;refine S3 1 J<|w8 h λv2 hv2 h=>ycN J (b6y J a7D J hv2) J J<|S2 1 J<|S3 6 J<|y0 J (p6 (cs:=[.I a2,.bool (a2 != 0),.I a3]) J c8M b67 J J J)<|w8 h λv3 hv3 h=>y0 J (a3F (f:=c9.Pv) hv3 J J J J R3 V7 J)<|b1Q (f:=c9.Pv) (v:=(⟨a2,(a2 != 0),a3⟩:c9)) hv3 J J (.inl J) V7<|yN<|dr [] u5 (by kernel_rfl) (by kernel_rfl)<|S7 3 J<|w8 h λv4 hv4 h=>d0 J (A5 (f:=c9.Pv) (cs:=c9.Pc v4) hv4 J J R3 V7 J J) J<|S8 5 J<|b8 ?_
  cases h;exact f3

theorem a79{a0 a1 a2}:PO Tryz.prog 307 [b6.Pv a0,.I a1,.I a2] (a1v a0 a1 a2) λr=>b6.Pv r:=by
 refine pO Tryz.func307 λr h _ _=>?_;refine S4 2 J<|S3 4 J<|cA h I1 J J λv1 _ h=>S2 5 J<|e6<|S4 2 J ?_;refine cN h (λhc h=>?_) λhc h=>?_
 ·refine S3 5 J ?_;refine iL h J J M4 P8 λv2 _ h=>S2 4 J<|S4 6 J<|S5 4 J<|cF h a0G J J λv3 _ h=>S2 5 J<|S4 2 J<|b8 ?_;cases h;exact⟨J,[_],⟨oL J J J s6 o9 nl J,tr⟩,J,io⟩
 ·refine c4 ?_;refine S4 2 J<|b8 ?_;cases h;exact⟨J,[_],⟨oL J J J s6 o9 nl J,tr⟩,J,io⟩

theorem a2a{a0 a1}:PO Tryz.prog 257 [c7.Pv a0,.I a1] (N3 a0 a1) λr=>.tup [c7.Pv r.1,.I r.2]:=by
 refine pO Tryz.func257 λr h _ _=>?_;refine S4 3 J<|S3 2 J<|cA h I1 J J λv1 _ h=>S2 5 J<|e6<|S4 2 J ?_;refine cN h (λhc h=>?_) λhc h=>?_
 ·refine S4 4 J ?_;refine b8 ?_;cases h;exact⟨J,[_,_],⟨oL J J J a3o a1L nl J,⟨J,tr⟩⟩,J,io⟩
 ·refine c4 ?_;refine S3 3 J<|iL h J J M4 P8 λv2 _ h=>S2 3 J<|e6<|S4 4 J ?_;refine cN h (λhc h=>?_) λhc h=>?_
  ·refine S3 3 J ?_;refine y0 J (p6 (cs:=[.I 3,.I v2.Gen,.I 0,.I 0,.I 0,.I 0,.bool false,.nl]) J b3p a8T J J J)<|cF h I2 J J λv3 _ h=>S2 2 J<|b8 ?_;cases h;exact⟨J,[_,_],⟨oL J J J a3o a1L nl J,⟨J,tr⟩⟩,J,io⟩
  ·refine c4 ?_;refine S3 4 J<|y0 J (p6 (cs:=[.I 0,.I (u6 (v2.Gen+1)),.I 0,.I 0,.I 0,.I 0,.bool false,.nl]) J b3p a8T J J J)<|cF h I2 J J λv4 _ h=>S2 2 J<|b8 ?_;cases h;exact⟨J,[_,_],⟨oL J J J a3o a1L nl J,⟨J,tr⟩⟩,J,io⟩

theorem b19{a0 a1}:PO Tryz.prog 306 [b6.Pv a0,.I a1] (a2T a0 a1) λr=>b6.Pv r:=by
 refine pO Tryz.func306 λr h _ _=>?_;refine S4 2 J<|S3 2 J<|cF h a79 J J λv1 _ h=>S2 1 J<|S3 4 J<|cA h I1 J J λv2 _ h=>S2 5 J<|e6<|S4 2 J ?_;refine cN h (λhc h=>?_) λhc h=>?_
 ·refine S4 2 J ?_;refine b8 ?_;cases h;exact⟨J,[_],⟨oL J J J s6 o9 nl J,tr⟩,J,io⟩
 ·refine c4 ?_;refine e6<|S3 5 J<|iL h J J M4 P8 λv3 _ h=>S2 3 J<|S3 4 J<|k7 J (λhg=>oF J c4b J)<|k7 J (λhg=>oF (ct hg) c39 J)<|k7 J (λhg=>oS (ct hg) J J C7 J)<|k7 J (λhg=>w7 (ct hg) J J)<|y0 J (y6 J J J (λq=>eqT q))<|yN ?_;refine cN h (λhc h=>?_) λhc h=>?_
  ·refine S5 4 J ?_;refine cF h a2a J J λv4 _ h=>S2 6 J<|S4 2 J<|b8 ?_;cases h;exact⟨J,[_],⟨oL J J J s6 o9 nl J,tr⟩,J,io⟩
  ·refine c4 ?_;refine S4 2 J<|b8 ?_;cases h;exact⟨J,[_],⟨oL J J J s6 o9 nl J,tr⟩,J,io⟩

theorem b0Z{a0 a1 a2 a3}:PO Tryz.prog 245 [b6.Pv a0,.I a1,.I a2,.I a3] (a0y a0 a1 a2 a3) λr=>.tup [b6.Pv r.1,.I r.2]:=by
 refine pO Tryz.func245 λr h _ _=>?_;unfold a0y at h;refine S4 3 J<|e6<|S3 3 J<|k7 J (λhg=>mI J)<|k7 J (λhg=>oF J b86 J)<|k7 J (λhg=>oS (ct hg) J J c5n J)<|k7 J (λhg=>X0 (f:=c9.Pv) (ct hg) R3)<|k7 J (λhg=>w7 (ct hg) (ct hg) J)<|y0 J (B6 J J J (λq=>eqF q))<|S1 1 J<|k7 J (λhg=>oF J b87 J)<|k7 J (λhg=>oL (ct hg) J J a5j a1M nl J)<|k7 J (λhg=>mI J)<|w8 h λv1 hv1 h=>k7 J (λhg=>F1 J b5W (E3 (ct hg) (E3 (ct hg) J)) (F2 hv1 hg))<|y0 J (B6 J J J (λq=>eqF q))<|yN ?_;refine cN h (λhc h=>?_) λhc h=>?_
 ·refine S4 3 J ?_;refine b8 ?_;cases h;exact⟨J,[_,_],⟨oL J J J s6 o9 nl J,⟨J,tr⟩⟩,J,io⟩
 ·refine c4 ?_;refine e6<|S3 2 J<|cA h U3 J J λv2 _ h=>S2 1 J ?_;refine cN h (λhc h=>?_) λhc h=>?_
  ·refine S4 3 J ?_;refine b8 ?_;cases h;exact⟨J,[_,_],⟨oL J J J s6 o9 nl J,⟨J,tr⟩⟩,J,io⟩
  ·refine c4 ?_;refine S3 5 J<|cF h c0J J J λv3 _ h=>S2 7 J<|S4 3 J<|S3 2 J<|cF h a79 J J λv4 _ h=>S1 1 J<|cF h b19 J J λv5 _ h=>S2 2 J<|b8 ?_;cases h;exact⟨J,[_,_],⟨oL J J J s6 o9 nl J,⟨J,tr⟩⟩,J,io⟩

theorem a11{a0}:PO Tryz.prog 156 [r8.Pv a0] (T3 a0) λr=>.tup [b6.Pv r.1,.I r.2]:=by
 refine pO Tryz.func156 λr h _ _=>?_;refine S4 3 J<|e6<|S4 4 J ?_;refine cN h (λhc h=>?_) λhc h=>?_
 ·refine S3 8 J ?_;refine cF h b0Z J J λv1 _ h=>S2 4 J<|b8 ?_;cases h;exact⟨J,[_,_],⟨oL J J J s6 o9 nl J,⟨J,tr⟩⟩,J,io⟩
 ·refine c4 ?_;refine S3 5 J<|cA h Q5 J J λv2 _ h=>S2 5 J<|e6<|S4 2 J ?_;refine cN h (λhc h=>?_) λhc h=>?_
  ·refine S4 5 J ?_;refine b8 ?_;cases h;exact⟨J,[_,_],⟨oL J J J s6 o9 nl J,⟨J,tr⟩⟩,J,io⟩
  ·refine c4 ?_;refine S3 9 J<|cF h b0Z J J λv3 _ h=>S2 4 J<|b8 ?_;cases h;exact⟨J,[_,_],⟨oL J J J s6 o9 nl J,⟨J,tr⟩⟩,J,io⟩

theorem b8S{a0 a1}:PO Tryz.prog 246 [.L c9.Pv a0,.I a1] (a6j a0 a1) λr=>.tup [.I r.1,.I r.2]:=by
 refine pO Tryz.func246 λr h _ _=>?_;refine S4 2 J<|e6<|S3 2 J<|cA h b24 J J λv1 _ h=>S2 1 J ?_;refine cN h (λhc h=>?_) λhc h=>?_
 ·refine S4 2 J ?_;refine b8 ?_;cases h;exact f2
 ·refine c4 ?_;refine e6<|S3 2 J<|iL h J J R3 V7 λv2 hv2 h=>S1 4 J<|k7 J (λhg=>om (d:=.L c9.Pv a0) J)<|k7 J (λhg=>mI J)<|k7 J (λhg=>A5 (f:=c9.Pv) (cs:=c9.Pc v2) hv2 (ct hg) (ct hg) R3 V7 J J)<|k7 J (λhg=>A8 (ct hg) c4d J)<|k7 J (λhg=>G6 (ct hg) b3Z J)<|k7 J (λhg=>a1w (ct hg) J)<|y0 J (B6 J J J (λq=>eqF q))<|yN ?_;refine cN h (λhc h=>?_) λhc h=>?_
  ·refine S4 2 J ?_;refine b8 ?_;cases h;exact f2
  ·refine c4 ?_;refine S3 2 J<|y0 J (A5 (f:=c9.Pv) (cs:=c9.Pc v2) hv2 J J R3 V7 J J)<|S2 4 J<|b8 ?_;cases h;exact f2

theorem a4o{a0}:PO Tryz.prog 157 [r8.Pv a0] (W9 a0) λr=>.tup [b6.Pv r.1,.I r.2]:=by
 refine pO Tryz.func157 λr h _ _=>?_;unfold W9 at h;refine S4 3 J<|dr [] u5 (by kernel_rfl) (by kernel_rfl)<|S7 7 J<|w8 h λv1 hv1 h=>d2 J (F1 J b8S J hv1) J<|S7 2 J<|w8 h λv2 hv2 h=>d2f J (y8 J G5 J hv2) J<|S7 2 J<|E8 (x':=b6.Pv v2.1) (cl':=true) J J (.inr J) o9<|S8 1 J<|b8 ?_
 cases h;exact⟨J,[_,_],⟨oL J J J s6 o9 nl J,⟨J,tr⟩⟩,J,io⟩

theorem b0V{a0 a1}:PO Tryz.prog 351 [.I a0,.I a1] (a30 a0 a1) λr=>.fn (.func 364) [.rptr [.I r.1],.rptr [.I r.2]]:=by
 refine pO Tryz.func351 λr h _ _=>?_;unfold a30 at h;refine S4 3 J<|S4 2 J<|b8 ?_;cases h;exact f1

theorem b0S{a0 a1}:PO Tryz.prog 365 [.I a0,.I a1] (a0w a0 a1) λr=>.I r:=by
 refine pO Tryz.func365 λr h _ _=>?_;refine S4 1 J<|e6<|S4 2 J ?_;refine cN h (λhc h=>?_) λhc h=>?_
 ·refine S4 1 J ?_;refine b8 ?_;cases h;exact f1
 ·refine c4 ?_;refine S3 4 J<|w8 h λv1 hv1 h=>y0 J (a5N J J hv1)<|S2 1 J<|e6<|S4 2 J ?_;refine cN h (λhc h=>?_) λhc h=>?_
  ·refine S6 4 J ?_;refine S4 2 J<|b8 ?_;cases h;exact f1
  ·refine c4 ?_;refine S4 2 J<|b8 ?_;cases h;exact f1

theorem a6G{a0 a1}:PO Tryz.prog 321 [.L b9.Pv a0,.I a1] (Y0 a0 a1) λr=>.I r:=by
 refine pO Tryz.func321 λr h _ _=>?_;refine S4 3 J ?_;refine jq h (λ_=>St.of [(4,.ptr 2001 0 0)] [(2001,vR (.I 0) 1)]) (λq9 h=>?_) λκ8 h=>?_
 ·refine S4 1 J ?_;refine b8 ?_;cases h;exact⟨J,[_],⟨oS J J J C7 J,tr⟩,J,io⟩
 ·refine S3 1 J ?_;refine nL J Y5<|S1 1 J<|cF h b0V J J λv10 _ h=>yN<|g5<|a3e (WPE (λl=>if l=2004 then 4 else if l=2005 then 3 else if l=2006 then 2 else l) [(2,.ptr 2006 0 0),(3,.ptr 2005 0 0),(4,.ptr 2004 0 0),(9,.fn (.func 364) [.rptr [.I v10.1],.rptr [.I v10.2]])] [(2004,vR (.I 0) 1),(2005,vR (.I a1) 1),(2006,vR (.L b9.Pv a0) 1)]) ?_
  refine a13 (fn:=Tryz.f364) (N1:=20) J Tryz.func364 J J nl J c2I J J (λl17 e18 o19 hR20=>?_);refine S4 2 J<|g5<|lq h (λs12=>St.of [(1000002,.ptr 2006 0 0),(1000003,.ptr 2005 0 0),(1000004,.ptr 2004 0 0),(1000009,.fn (.func 364) [.rptr [.I v10.1],.rptr [.I v10.2]]),(0,.fn (.yield l17) []),(1,.rptr [.I v10.1]),(2,.rptr [.I v10.2]),(5,.I v10.1),(6,.I s12)] [(2004,vR (.I 0) 1),(2005,vR (.I a1) 1),(2006,vR (.L b9.Pv a0) 1)]) W λs12 x13 h hx23=>S4 1 J<|e6 ?_;refine cN h (λhc h=>?_) λhc h=>?_
  ·refine c4 ?_;refine e6<|g5<|S4 2 J<|drY [] 8 u5 (by kernel_rfl) (by kernel_rfl) (by kernel_rfl) (by kernel_rfl) nl<|S7 3 J<|w8 h λv14 hv24 h=>d2 J (F1 J b0S J hv24) J<|S7 3 J<|w8 h λv15 hv25 h=>d7 J (λ_ hN=>a5N J J hv25) J<|O2<|c7j (WE [(1000002,.ptr 2006 0 0),(1000003,.ptr 2005 0 0),(1000004,.ptr 2004 0 0),(1000009,.fn (.func 364) [.rptr [.I v10.1],.rptr [.I v10.2]]),(0,.fn (.yield l17) []),(1,.rptr [.I v10.1]),(2,.rptr [.I v10.2]),(5,.I v10.1),(6,.I s12),(9,.fn (.yield l17) []),(16,.I v15)] [(2004,vR (.I 0) 1),(2005,vR (.I a1) 1),(2006,vR (.L b9.Pv a0) 1)]) ?_
   refine b5w J hR20 J J J J J J (λe26 o27 o28=>?_);refine S6 1 J ?_;refine⟨J,?_⟩;refine g5<|e6<|S3 2 J<|iL h J J Y5 a0t λv16 hv29 h=>S2 3 J ?_;refine cN h (λhc h=>?_) λhc h=>?_
   ·refine o8 ?_;refine c5<|a3J (by decide) ?_
    refine⟨J,?_⟩;refine⟨_,b5u [(1000002,.ptr 2006 0 0),(1000003,.ptr 2005 0 0),(1000004,.ptr 2004 0 0),(1000009,.fn (.func 364) [.rptr [.I v10.1],.rptr [.I v10.2]]),(0,.fn (.yield l17) []),(1,.rptr [.I v10.1]),(2,.rptr [.I v10.2]),(5,.I v10.1),(6,.I s12),(17,.bool false)] [(2004,vR (.I 0) 1),(2005,vR (.I a1) 1),(2006,vR (.L b9.Pv a0) 1)] ⟨J,J,J,J,J,J,J,J,J,J,J,J,J,J,J,J,J,J,J,J,J,J,J,J,J,J,J,J,J,J,tr⟩ ⟨rS,rS,rS,tr⟩,?_⟩;refine S8 1 J ?_;refine H9 true J (λ_=>?_) (λq=>nomatch q);refine b8 ?_;refine .inr ⟨.exit 0,J,d6q ?_⟩;refine l4 ?_;have h:=xL hx23 h;exact eJ h (WP (λl=>if l=2001 then 2004 else l))
   ·refine c4 ?_;refine dr [] u5 (by kernel_rfl) (by kernel_rfl)<|S7 2 J<|d0 J (A5 (f:=b9.Pv) (cs:=b9.Pc v16) hv29 J J Y5 a0t J J) J<|S7 4 J<|J0 J (λhg=>oS J J J b3Y J) J<|C8 J (λhg _ hN=>mI J) J<|J0 J (λhg=>A5 (f:=b9.Pv) (cs:=b9.Pc v16) hv29 (ct hg) (ct hg) Y5 a0t J J) J<|C8 J (λhg _ hN=>A8 (ct hg) c4e J) J<|J0 J (λhg=>G6 (ct hg) C7 J) J<|J0 J (λhg=>oS J J J C7 J) J<|C8 J (λhg _ hN=>w7 (ct hg) (ct hg) J) J<|d7 J (λ_ hN=>y6 J J J (λq=>eqT q)) J<|O2 ?_
    refine cN h (λhc h=>?_) λhc h=>?_
    ·refine S4 2 J ?_;refine b8 ?_;refine⟨J,?_⟩;refine⟨_,b5u [(1000002,.ptr 2006 0 0),(1000003,.ptr 2005 0 0),(1000004,.ptr 2004 0 0),(1000009,.fn (.func 364) [.rptr [.I v10.1],.rptr [.I v10.2]]),(0,.fn (.yield l17) []),(1,.rptr [.I v10.1]),(2,.rptr [.I v10.2]),(5,.I v10.1),(6,.I s12),(17,.bool false)] [(2004,vR (.I v15) 1),(2005,vR (.I a1) 1),(2006,vR (.L b9.Pv a0) 1)] ⟨J,J,J,J,J,J,J,J,J,J,J,J,J,J,J,J,J,J,J,J,J,J,J,J,J,J,J,J,J,J,tr⟩ ⟨rS,rS,rS,tr⟩,?_⟩;refine S8 1 J ?_;refine H9 true J (λ_=>?_) (λq=>nomatch q);refine b8 ?_;refine .inr ⟨.ret,J,c9C ?_⟩;have h:=xL hx23 h;cases h;exact⟨J,[_],⟨oS J J J C7 J,tr⟩,J,io⟩
    ·refine c4 ?_;refine⟨J,?_⟩;refine⟨_,b5u [(1000002,.ptr 2006 0 0),(1000003,.ptr 2005 0 0),(1000004,.ptr 2004 0 0),(1000009,.fn (.func 364) [.rptr [.I v10.1],.rptr [.I v10.2]]),(0,.fn (.yield l17) []),(1,.rptr [.I v10.1]),(2,.rptr [.I v10.2]),(5,.I v10.1),(6,.I s12),(17,.bool true)] [(2004,vR (.I 0) 1),(2005,vR (.I a1) 1),(2006,vR (.L b9.Pv a0) 1)] ⟨J,J,J,J,J,J,J,J,J,J,J,J,J,J,J,J,J,J,J,J,J,J,J,J,J,J,J,J,J,J,tr⟩ ⟨rS,rS,rS,tr⟩,?_⟩;refine S8 1 J ?_;refine H9 false J (λq=>nomatch q) (λ_=>?_);refine c4<|S6 2 J ?_;exact eL h W
  ·refine o8 ?_;refine c5<|c5<|l4 ?_;refine .inl ⟨J,?_⟩;have h:=xL hx23 h;exact eJ h (WP (λl=>if l=2001 then 2004 else l))

theorem a4X{a0 a1}:PO Tryz.prog 311 [.L b9.Pv a0,.I a1] (L6 a0 a1) λr=>.tup [.I r.1,.I r.2]:=by
 refine pO Tryz.func311 λr h _ _=>?_;refine S4 2 J<|S3 2 J<|cA h a6G J J λv1 _ h=>S2 1 J<|e6<|S4 2 J ?_;refine cN h (λhc h=>?_) λhc h=>?_
 ·refine S4 2 J ?_;refine b8 ?_;cases h;exact f2
 ·refine c4 ?_;refine S3 2 J<|iL h J J Y5 a0t λv2 _ h=>S2 4 J<|b8 ?_;cases h;exact f2

theorem a0n{a0}:PON Tryz.prog 352 [.L b9.Pv a0] (D7 a0) λr=>⟨List.map b9.Pv r,0,true,3,true⟩:=by
 refine pON Tryz.func352 λr h _ _=>?_;unfold D7 at h;refine S4 1 J<|e6<|S3 1 J<|b8V J Y5 λb hb=>yN ?_;refine H9 b J (λhc=>?_) (λhc=>?_)
 ·obtain rfl:a0 = []:=by simpa using hb hc
  refine S4 1 J<|a3e (G2 (t:=2) (l:=920000) (z:=3) J J)<|b8 ?_;cases h;exact⟨J,_,_,J,J,J,J⟩
 ·refine c4 ?_;refine sR<|y0 J (F9 J Y5 a0t)<|S1 1 J<|y1 J (b1b (f:=b9.Pv) h J J (.inl ⟨_,J,J⟩) Y5 a0t c2E b3r J (λ_=>J)) J<|S2 1 J<|b8 ?_;exact⟨J,_,_,J,J,J,J⟩

theorem a6H{a0 a1 a2}:PO Tryz.prog 322 [.L b9.Pv a0,.I a1,b9.Pv a2] (a1u a0 a1 a2) λr=>.L b9.Pv r:=by
 refine pO Tryz.func322 λr h _ _=>?_;unfold a1u at h;refine S4 2 J<|S3 1 J<|w8 h λv1 hv1 h=>ycN J (b6y J a0n J hv1) J J<|S2 1 J<|S3 3 J<|w8 h λv2 hv2 h=>y0 J (a3F (f:=b9.Pv) hv2 J J J J Y5 a0t J)<|b1Q (f:=b9.Pv) (v:=a2) hv2 J J (.inl J) a0t<|yN<|S4 2 J<|b8 ?_;cases h;exact f1

theorem b0R{a0 a1}:PO Tryz.prog 255 [.L b9.Pv a0,.I a1] (X9 a0 a1) λr=>.tup [.L b9.Pv r.1,.I r.2.1,.I r.2.2]:=by
 refine pO Tryz.func255 λr h _ _=>?_;refine S4 3 J<|S3 2 J<|cA h a6G J J λv1 _ h=>S2 1 J<|e6<|S4 2 J ?_;refine cN h (λhc h=>?_) λhc h=>?_
 ·refine S4 4 J ?_;refine b8 ?_;cases h;exact f3
 ·refine c4 ?_;refine dr [] u5 (by kernel_rfl) (by kernel_rfl)<|S7 2 J<|d7 J (λ_ hN=>p6 (cs:=[.I 2,.I 0,.I 0]) J c2L b3r J J J) J<|w8 h λv2 hv2 h=>d2f J (y8 J a6H J hv2) J<|S7 2 J<|w8 h λv3 hv3 h=>d0 J (A5 (f:=b9.Pv) (cs:=b9.Pc v3) hv3 J J Y5 a0t J J) J<|S8 5 J<|b8 ?_
  cases h;exact f3

theorem b9B{a0 a1 a2}:PO Tryz.prog 347 [.L b9.Pv a0,.I a1,.I a2] (a75 a0 a1 a2) λr=>.tup [.L b9.Pv r.1,.I r.2]:=by
 refine pO Tryz.func347 λr h _ _=>?_;refine S4 3 J<|S3 2 J<|y0 J (p6 (cs:=[.I 1,.I a1,.I a2]) J c2L b3r J J J)<|S2 2 J<|e6<|S3 2 J<|cA h a6G J J λv1 _ h=>S2 1 J<|S4 2 J ?_;refine cN h (λhc h=>?_) λhc h=>?_
 ·refine S3 3 J ?_;refine cF h a6H J J λv2 _ h=>S2 2 J<|b8 ?_;cases h;exact⟨J,[_,_],⟨oS J J J b3Y J,⟨oS J J J a6p J,tr⟩⟩,J,io⟩
 ·refine c4 ?_;refine jq h (λ_=>St.of [(3,.ptr 2004 0 0),(6,.ptr 2003 0 0),(7,.ptr 2002 0 0)] [(2002,vR (.I 0) 1),(2003,vR (.nl) 1),(2004,vR (.L b9.Pv a0) 1)]) (λq12 h=>?_) λκ11 h=>?_
  ·refine S4 3 J ?_;refine b8 ?_;cases h;exact⟨J,[_,_],⟨oS J J J b3Y J,⟨oS J J J a6p J,tr⟩⟩,J,io⟩
  ·refine S3 1 J ?_;refine nL J Y5<|S1 1 J<|cF h b0V J J λv13 _ h=>yN<|g5<|a3e (WPE (λl=>if l=2005 then 8 else if l=2006 then 7 else if l=2007 then 6 else if l=2008 then 3 else l) [(3,.ptr 2008 0 0),(6,.ptr 2007 0 0),(7,.ptr 2006 0 0),(8,.ptr 2005 0 0),(26,.fn (.func 364) [.rptr [.I v13.1],.rptr [.I v13.2]])] [(2005,vR (.agg [.I 1,.I a1,.I a2]) 3),(2006,vR (.I 0) 1),(2007,vR (.nl) 1),(2008,vR (.L b9.Pv a0) 1)]) ?_
   refine a13 (fn:=Tryz.f364) (N1:=20) J Tryz.func364 J J nl J c2I J J (λl20 e21 o22 hR23=>?_);refine S4 2 J<|g5<|lq h (λs15=>St.of [(1000003,.ptr 2008 0 0),(1000006,.ptr 2007 0 0),(1000007,.ptr 2006 0 0),(1000008,.ptr 2005 0 0),(1000026,.fn (.func 364) [.rptr [.I v13.1],.rptr [.I v13.2]]),(0,.fn (.yield l20) []),(1,.rptr [.I v13.1]),(2,.rptr [.I v13.2]),(5,.I v13.1),(6,.I s15)] [(2005,vR (.agg [.I 1,.I a1,.I a2]) 3),(2006,vR (.I 0) 1),(2007,vR (.nl) 1),(2008,vR (.L b9.Pv a0) 1)]) W λs15 x16 h hx26=>S4 1 J<|e6 ?_;refine cN h (λhc h=>?_) λhc h=>?_
   ·refine c4 ?_;refine e6<|g5<|S4 2 J<|drY [] 8 u5 (by kernel_rfl) (by kernel_rfl) (by kernel_rfl) (by kernel_rfl) nl<|S7 3 J<|w8 h λv17 hv27 h=>d2 J (F1 J b0S J hv27) J<|S7 3 J<|w8 h λv18 hv28 h=>d7 J (λ_ hN=>a5N J J hv28) J<|O2<|c7j (WE [(1000003,.ptr 2008 0 0),(1000006,.ptr 2007 0 0),(1000007,.ptr 2006 0 0),(1000008,.ptr 2005 0 0),(1000026,.fn (.func 364) [.rptr [.I v13.1],.rptr [.I v13.2]]),(0,.fn (.yield l20) []),(1,.rptr [.I v13.1]),(2,.rptr [.I v13.2]),(5,.I v13.1),(6,.I s15),(9,.fn (.yield l20) []),(16,.I v18)] [(2005,vR (.agg [.I 1,.I a1,.I a2]) 3),(2006,vR (.I 0) 1),(2007,vR (.nl) 1),(2008,vR (.L b9.Pv a0) 1)]) ?_
    refine b5w J hR23 J J J J J J (λe29 o30 o31=>?_);refine S6 1 J ?_;refine⟨J,?_⟩;refine g5<|S3 2 J<|iL h J J Y5 a0t λv19 _ h=>S2 3 J ?_;refine cN h (λhc h=>?_) λhc h=>?_
    ·refine S3 3 J ?_;refine cF h a6H J J λv20 _ h=>S2 2 J<|b8 ?_;refine⟨J,?_⟩;refine⟨_,b5u [(1000003,.ptr 2008 0 0),(1000006,.ptr 2007 0 0),(1000007,.ptr 2006 0 0),(1000008,.ptr 2005 0 0),(1000026,.fn (.func 364) [.rptr [.I v13.1],.rptr [.I v13.2]]),(0,.fn (.yield l20) []),(1,.rptr [.I v13.1]),(2,.rptr [.I v13.2]),(5,.I v13.1),(6,.I s15),(17,.bool false)] [(2005,vR (.agg [.I 1,.I a1,.I a2]) 3),(2006,vR (.I 0) 1),(2007,vR (.L b9.Pv v20) 1),(2008,vR (.L b9.Pv a0) 1)] ⟨J,J,J,J,J,J,J,J,J,J,J,J,J,J,J,J,J,J,J,J,J,J,J,J,J,J,J,J,J,J,J,J,J,tr⟩ ⟨rS,rS,rS,rS,tr⟩,?_⟩;refine S8 1 J ?_;refine H9 true J (λ_=>?_) (λq=>nomatch q);refine b8 ?_;refine .inr ⟨.ret,J,c9C ?_⟩;have h:=xL hx26 h;cases h;exact⟨J,[_,_],⟨oS J J J b3Y J,⟨oS J J J a6p J,tr⟩⟩,J,io⟩
    ·refine c4 ?_;refine⟨J,?_⟩;refine⟨_,b5u [(1000003,.ptr 2008 0 0),(1000006,.ptr 2007 0 0),(1000007,.ptr 2006 0 0),(1000008,.ptr 2005 0 0),(1000026,.fn (.func 364) [.rptr [.I v13.1],.rptr [.I v13.2]]),(0,.fn (.yield l20) []),(1,.rptr [.I v13.1]),(2,.rptr [.I v13.2]),(5,.I v13.1),(6,.I s15),(17,.bool true)] [(2005,vR (.agg [.I 1,.I a1,.I a2]) 3),(2006,vR (.I 0) 1),(2007,vR (.nl) 1),(2008,vR (.L b9.Pv a0) 1)] ⟨J,J,J,J,J,J,J,J,J,J,J,J,J,J,J,J,J,J,J,J,J,J,J,J,J,J,J,J,J,J,J,J,J,tr⟩ ⟨rS,rS,rS,rS,tr⟩,?_⟩;refine S8 1 J ?_;refine H9 false J (λq=>nomatch q) (λ_=>?_);refine c4<|S6 2 J ?_;exact eL h W
   ·refine o8 ?_;refine c5<|c5<|l4 ?_;refine .inl ⟨J,?_⟩;have h:=xL hx26 h;exact eJ h (WP (λl=>if l=2004 then 2008 else if l=2003 then 2007 else if l=2002 then 2006 else l))

theorem b7r{a0 a1 a2}:PO Tryz.prog 309 [.L b9.Pv a0,.I a1,.I a2] (U0 a0 a1 a2) λr=>.tup [.L b9.Pv r.1,.I r.2.1,.I r.2.2]:=by
 refine pO Tryz.func309 λr h _ _=>?_;refine S4 3 J<|e6<|S4 2 J ?_;refine cN h (λhc h=>?_) λhc h=>?_
 ·refine S4 4 J ?_;refine b8 ?_;cases h;exact f3
 ·refine c4 ?_;refine S3 2 J<|cA h a4X J J λv1 _ h=>S2 5 J<|e6<|S4 2 J ?_;refine cN h (λhc h=>?_) λhc h=>?_
  ·refine S3 2 J ?_;refine cF h b0R J J λv2 _ h=>S2 7 J<|S4 5 J<|b8 ?_;cases h;exact f3
  ·refine c4 ?_;refine S3 3 J<|cF h b9B J J λv3 _ h=>S2 5 J<|e6<|S4 2 J ?_;refine cN h (λhc h=>?_) λhc h=>?_
   ·refine S4 5 J ?_;refine b8 ?_;cases h;exact f3
   ·refine c4 ?_;refine S4 5 J<|b8 ?_;cases h;exact f3

theorem a7H{a0 a1}:PO Tryz.prog 310 [H5.Pv a0,b6.Pv a1] (W1 a0 a1) λr=>b6.Pv r:=by
 refine pO Tryz.func310 λr h _ _=>?_;unfold W1 at h;refine S4 3 J<|S4 4 J<|S4 2 J<|b8 ?_;cases h;exact⟨J,[_],⟨oL J J J s6 o9 nl J,tr⟩,J,io⟩

theorem a1g{a0 a1 a2 a3}:PO Tryz.prog 302 [b6.Pv a0,.I a1,.I a2,.abs (BFn 310 [H5.Pv a3])] (I7 a0 a1 a2 a3) λr=>b6.Pv r:=by
 refine pO Tryz.func302 λr h _ _=>?_;refine S4 2 J<|S3 3 J<|cF h a1X J J λv1 _ h=>w8 h λv2 hv2 h=>b8U (xs:=[b6.Pv v1]) J J c8z J (a7H.2 _ hv2)<|S1 1 J<|cF h W8 J J λv3 _ h=>S2 1 J<|b8 ?_;cases h;exact⟨J,[_],⟨oL J J J s6 o9 nl J,tr⟩,J,io⟩

theorem b7H{a0 a1 a2}:PO Tryz.prog 247 [b6.Pv a0,.I a1,.I a2] (a31 a0 a1 a2) λr=>.tup [b6.Pv r.1,.I r.2]:=by
 refine pO Tryz.func247 λr h _ _=>?_;refine S4 3 J<|e6<|S4 2 J ?_;refine cN h (λhc h=>?_) λhc h=>?_
 ·refine S4 3 J ?_;refine b8 ?_;cases h;exact⟨J,[_,_],⟨oL J J J s6 o9 nl J,⟨J,tr⟩⟩,J,io⟩
 ·refine c4 ?_;refine e6<|S3 2 J<|cA h U3 J J λv1 _ h=>S1 2 J<|k7 J (λhg=>oL J J J s6 o9 nl J)<|k7 J (λhg=>mI J)<|w8 h λv2 hv2 h=>k7 J (λhg=>F1 J U3 (E3 (ct hg) (E3 (ct hg) J)) (F2 hv2 hg))<|k7 J (λhg=>a1w (ct hg) J)<|y0 J (B6 J J J (λq=>eqF q))<|yN ?_;refine cN h (λhc h=>?_) λhc h=>?_
  ·refine S4 3 J ?_;refine b8 ?_;cases h;exact⟨J,[_,_],⟨oL J J J s6 o9 nl J,⟨J,tr⟩⟩,J,io⟩
  ·refine c4 ?_;refine S3 4 J<|cF h b7r J J λv3 _ h=>S2 7 J<|e6<|S4 2 J ?_;refine cN h (λhc h=>?_) λhc h=>?_
   ·refine S4 4 J ?_;refine b8 ?_;cases h;exact⟨J,[_,_],⟨oL J J J s6 o9 nl J,⟨J,tr⟩⟩,J,io⟩
   ·refine c4 ?_;refine S3 4 J<|y0 J (p6 (cs:=[.L b9.Pv v3.1]) J c8R c86 J J J)<|y0 J (b2g (d:=.agg [.L b9.Pv v3.1]) J)<|cF h a1g J J λv4 _ h=>S2 2 J<|b8 ?_;cases h;exact⟨J,[_,_],⟨oL J J J s6 o9 nl J,⟨J,tr⟩⟩,J,io⟩

theorem a3c{a0}:PO Tryz.prog 158 [r8.Pv a0] (Z9 a0) λr=>.tup [b6.Pv r.1,.I r.2]:=by
 refine pO Tryz.func158 λr h _ _=>?_;refine S4 3 J<|S3 5 J<|cA h Q5 J J λv1 _ h=>S2 5 J<|e6<|S4 2 J ?_;refine cN h (λhc h=>?_) λhc h=>?_
 ·refine S4 5 J ?_;refine b8 ?_;cases h;exact⟨J,[_,_],⟨oL J J J s6 o9 nl J,⟨J,tr⟩⟩,J,io⟩
 ·refine c4 ?_;refine dr [] u5 (by kernel_rfl) (by kernel_rfl)<|S7 8 J<|w8 h λv2 hv2 h=>d2 J (F1 J M9 J hv2) J<|w8 h λv3 hv3 h=>d2f J (y8 J b7H J hv3) J<|S7 2 J<|E8 (x':=b6.Pv v3.1) (cl':=true) J J (.inr J) o9<|S8 1 J<|b8 ?_
  cases h;exact⟨J,[_,_],⟨oL J J J s6 o9 nl J,⟨J,tr⟩⟩,J,io⟩

theorem b7q{a0 a1}:PO Tryz.prog 248 [.L b9.Pv a0,.I a1] (b10 a0 a1) λr=>.tup [.I r.1,.I r.2]:=by
 refine pO Tryz.func248 λr h _ _=>?_;refine S4 2 J<|S3 2 J<|cA h a4X J J λv1 _ h=>S2 4 J<|b8 ?_;cases h;exact f2

theorem a3E{a0}:PO Tryz.prog 159 [r8.Pv a0] (a0z a0) λr=>.tup [b6.Pv r.1,.I r.2]:=by
 refine pO Tryz.func159 λr h _ _=>?_;refine S4 3 J<|S3 5 J<|cA h Q5 J J λv1 _ h=>S2 5 J<|e6<|S4 2 J ?_;refine cN h (λhc h=>?_) λhc h=>?_
 ·refine S4 5 J ?_;refine b8 ?_;cases h;exact⟨J,[_,_],⟨oL J J J s6 o9 nl J,⟨J,tr⟩⟩,J,io⟩
 ·refine c4 ?_;refine dr [] u5 (by kernel_rfl) (by kernel_rfl)<|S7 5 J<|w8 h λv2 hv2 h=>d2 J (F1 J b7q J hv2) J<|S7 2 J<|w8 h λv3 hv3 h=>d2f J (y8 J G5 J hv3) J<|S7 2 J<|E8 (x':=b6.Pv v3.1) (cl':=true) J J (.inr J) o9<|S8 1 J<|b8 ?_
  cases h;exact⟨J,[_,_],⟨oL J J J s6 o9 nl J,⟨J,tr⟩⟩,J,io⟩

theorem a2k{a0}:PO Tryz.prog 160 [r8.Pv a0] (P0 a0) λr=>.tup [b6.Pv r.1,.I r.2]:=by
 refine pO Tryz.func160 λr h _ _=>?_;unfold P0 at h;refine S4 3 J<|S4 4 J<|b8 ?_;cases h;exact⟨J,[_,_],⟨oL J J J s6 o9 nl J,⟨J,tr⟩⟩,J,io⟩

theorem c1n{f:Fv}{a0:r8}{r:b6 × Int}(h:b3y f a0=some r):∃n,f=some n∧B5 Tryz.prog n∧Y4 Tryz.prog n [r8.Pv a0] (.tup [b6.Pv r.1,.I r.2]):=by
 unfold b3y at h;by_cases e151:f=some 151
 ·rw[if_pos e151] at h;exact⟨151,e151,(@a10 a0).1,(@a10 a0).2 _ h⟩
 rw[if_neg e151] at h;by_cases e152:f=some 152
 ·rw[if_pos e152] at h;exact⟨152,e152,(@a0L a0).1,(@a0L a0).2 _ h⟩
 rw[if_neg e152] at h;by_cases e153:f=some 153
 ·rw[if_pos e153] at h;exact⟨153,e153,(@a3a a0).1,(@a3a a0).2 _ h⟩
 rw[if_neg e153] at h;by_cases e154:f=some 154
 ·rw[if_pos e154] at h;exact⟨154,e154,(@a3b a0).1,(@a3b a0).2 _ h⟩
 rw[if_neg e154] at h;by_cases e155:f=some 155
 ·rw[if_pos e155] at h;exact⟨155,e155,(@a2l a0).1,(@a2l a0).2 _ h⟩
 rw[if_neg e155] at h;by_cases e156:f=some 156
 ·rw[if_pos e156] at h;exact⟨156,e156,(@a11 a0).1,(@a11 a0).2 _ h⟩
 rw[if_neg e156] at h;by_cases e157:f=some 157
 ·rw[if_pos e157] at h;exact⟨157,e157,(@a4o a0).1,(@a4o a0).2 _ h⟩
 rw[if_neg e157] at h;by_cases e158:f=some 158
 ·rw[if_pos e158] at h;exact⟨158,e158,(@a3c a0).1,(@a3c a0).2 _ h⟩
 rw[if_neg e158] at h;by_cases e159:f=some 159
 ·rw[if_pos e159] at h;exact⟨159,e159,(@a3E a0).1,(@a3E a0).2 _ h⟩
 rw[if_neg e159] at h;by_cases e160:f=some 160
 ·rw[if_pos e160] at h;exact⟨160,e160,(@a2k a0).1,(@a2k a0).2 _ h⟩
 rw[if_neg e160] at h;cases h

theorem a5D{a0}:PO Tryz.prog 209 [.I a0] (a0W a0) λr=>.bool r:=by
 refine pO Tryz.func209 λr h _ _=>?_;unfold a0W at h;refine S4 1 J<|S4 4 J<|b8 ?_;cases h;exact f1

theorem a9Y{a0 a1}:PO Tryz.prog 125 [.I a0,.I a1] (a3p a0 a1) λr=>.I r:=by
 refine pO Tryz.func125 λr h _ _=>?_;refine S4 1 J<|S3 1 J<|cA h a5D J J λv1 _ h=>S2 1 J<|S3 1 J<|cA h a5D J J λv2 _ h=>S2 1 J<|e6<|S4 1 J ?_;refine cN h (λhc h=>?_) λhc h=>?_
 ·refine e6 ?_;refine S4 1 J ?_;refine cN h (λhc h=>?_) λhc h=>?_
  ·refine S4 1 J ?_;refine b8 ?_;cases h;exact f1
  ·refine c4 ?_;refine S4 1 J<|b8 ?_;cases h;exact f1
 ·refine c4 ?_;refine e6<|S4 1 J ?_;refine cN h (λhc h=>?_) λhc h=>?_
  ·refine S4 1 J ?_;refine b8 ?_;cases h;exact f1
  ·refine c4 ?_;refine e6<|S4 3 J ?_;refine cN h (λhc h=>?_) λhc h=>?_
   ·refine S4 1 J ?_;refine b8 ?_;cases h;exact f1
   ·refine c4 ?_;refine e6<|S4 3 J ?_;refine cN h (λhc h=>?_) λhc h=>?_
    ·refine S4 1 J ?_;refine b8 ?_;cases h;exact f1
    ·refine c4 ?_;refine S4 1 J<|b8 ?_;cases h;exact f1

theorem b3h{a0 a1 a2}:PO Tryz.prog 124 [.I a0,.I a1,.rptr [.abs (W6 (List.map (ent iF iF) a2))]] (a3W a0 a1 a2) λr=>.I r:=by
 refine pO Tryz.func124 λr h _ _=>?_;refine S4 1 J<|S3 2 J<|y0 J (b9R (es:=a2) (k:=a0) (E:=iF) (EK:=iF) (d:=.I ((B4 a2 a0).getD (0:Int))) J J b33 (A1 L4) A3 J (lk1 _ _ _))<|S1 2 J<|y0 J (b9R (es:=a2) (k:=a1) (E:=iF) (EK:=iF) (d:=.I ((B4 a2 a1).getD (0:Int))) J J b33 (A1 L4) A3 J (lk1 _ _ _))<|cA h a9Y J J λv1 _ h=>S2 1 J<|b8 ?_;cases h;exact f1

theorem L2{a0}:PO Tryz.prog 68 [a7.Pv a0] (D8 a0) λr=>.L iF r:=by
 refine pO Tryz.func68 λr h _ _=>?_;refine S4 2 J<|S4 1 J<|sR<|c0M (KT:=Int) (VT:=Int) (EK:=iF) (E:=iF) 5000008 J J<|S2 2 J ?_;refine jq h (λq=>St.of [(3,.sl 910003),(4,.ptr 4 0 0)] [(4,vS (.mp 5000008) 1),(5000008,⟨[.mapc (List.map (ent iF iF) q.1)],0,false,0,false⟩),(910003,⟨List.map iF q.2,0,true,1,true⟩)]) (λq20 h=>?_) λκ17 h=>?_
 ·obtain⟨j18,j19⟩:=q20;refine S3 2 J<|T1 (Wk.trans (d0I 5000008 nl J) (d3V 4 0 5000008 J J J J))<|w8 h λv21 hv12 h=>d3Y hv12 J J c8v d3K J J J c8w J J J J J (λp q r h=>b3h.2 r h)<|yN<|S4 2 J<|b8 ?_;cases h;exact f1
 ·refine S3 3 J ?_;refine nL J M4<|S2 1 J<|g5<|lq h (λq=>St.of [(3,.sl 910003),(4,.ptr 4 0 0),(11,.L b7.Pv a0.S.a8),(12,.I (a0.S.a8.length:Int)),(13,.I q.1)] [(4,vS (.mp 5000008) 1),(5000008,⟨[.mapc (List.map (ent iF iF) q.2.1)],0,false,0,false⟩),(910003,⟨List.map iF q.2.2,0,true,1,true⟩)]) (Wk.trans (G2 (t:=3) (l:=920003) (z:=1) J J) (WP (λl=>if l=910003 then 920003 else l))) λq27 x26 h hx15=>?_
  obtain⟨s23,s24,s25⟩:=q27;refine S4 1 J<|e6 ?_;refine cN h (λhc h=>?_) λhc h=>?_
  ·refine c4 ?_;refine jq h (λq=>St.of [(3,.sl 33),(4,.ptr 4 0 0),(11,.L b7.Pv a0.S.a8),(12,.I (a0.S.a8.length:Int)),(13,.I s23)] [(4,vS (.mp 5000008) 1),(5000008,⟨[.mapc (List.map (ent iF iF) q.1)],0,false,0,false⟩),(33,⟨List.map iF q.2,0,true,1,true⟩)]) (λq34 h=>?_) λκ31 h=>?_
   ·obtain⟨j32,j33⟩:=q34;refine S6 2 J ?_;exact eL h (WP (λl=>if l=910003 then 33 else l))
   ·refine g5 ?_;refine S3 1 J<|iL h J J M4 P8 λv35 _ h=>S2 4 J<|S4 3 J ?_;refine cN h (λhc h=>?_) λhc h=>?_
    ·refine S3 3 J ?_;refine cA h a73 J J λv36 _ h=>S2 1 J<|S3 5 J<|a0U (es:=s24) (k:=v36) (v:=v35.Val.Serial) (E:=iF) (EK:=iF) (.inl J) J J J J J J b33 (A1 L4)<|yN<|S5 2 J<|y0 J (H2 (f:=iF) (l:=[v36]) J j5 o5 A3 J J nl J J)<|w8 h λv37 hv22 h=>d1q (f:=iF) (b:=8) [(4,.ptr 4 0 0),(11,.L b7.Pv a0.S.a8),(12,.I (a0.S.a8.length:Int)),(13,.I s23),(14,.bool (decide (s23<(a0.S.a8.length:Int)))),(15,.I s23),(16,.rptr (b7.Pc v35)),(17,b7.Pv v35),(6,.ptr 6 0 0),(5,.I s23),(18,.ptr 6 0 0),(19,.I v35.State),(20,.bool (v35.State==1)),(21,.I s23),(22,.ptr 6 0 1),(23,.I v35.Gen),(24,.I v36),(7,.I v36),(25,.mp 5000008),(26,.I v36),(27,.ptr 6 0 2),(28,.ptr 6 0 2),(29,.I v35.Val.Serial),(31,.I v36),(32,.lst true (List.map iF [v36]))] [(6,vR (b7.Pv v35) 8),(5000008,⟨[.mapc (List.map (ent iF iF) (r7 s24 v36 v35.Val.Serial))],0,false,0,false⟩),(4,vS (.mp 5000008) 1)] J hv22 ⟨J,J,J,J,J,J,J,J,J,J,J,J,J,J,J,J,J,J,J,J,J,J,J,J,J,J,J,J,J,J,J,J,J,J,J,J,J,J,J,J,J,J,J,J,J,J,J,J,J,J,J,J,J,J,J,J,J,J,J,J,J,J,J,J,J,J,J,J,J,J,J,J,J,J,J,tr⟩ ⟨rS,a2G J J J (λq=>nomatch q) J J J J,a2G J J J (λq=>nomatch q) J J J J,tr⟩ J J J J (.inl ⟨_,J,J⟩) j5 o5 K1 A3 J (λ_=>J)<|S2 1 J ?_;exact eJ h W
    ·refine c4 ?_;exact eJ h (WP (λl=>if l=33 then 910003 else l))
  ·refine o8 ?_;refine c5<|c5<|l4 ?_;have h:=xL hx15 h;exact eJ h W

theorem b5h{a0}:PO Tryz.prog 161 [b6.Pv a0] (a1C a0) λr=>.L iF r:=by
 refine pO Tryz.func161 λr h _ _=>?_;refine S4 2 J<|S4 1 J ?_;refine jq h (λj16=>St.of [(3,.sl 910003)] [(910003,⟨List.map iF j16,(List.map iF j16).length,true,1,true⟩)]) (λj16 h=>?_) λκ15 h=>?_
 ·refine S4 2 J ?_;refine b8 ?_;cases h;exact f1
 ·refine S3 2 J ?_;refine cF h L2 J J λv17 _ h=>nL J j5<|S2 1 J<|g5<|lq h (λq=>St.of [(1,.ptr 1 0 0),(3,.sl 910003),(10,.L iF v17),(11,.I (v17.length:Int)),(12,.I q.1)] [(1,vR (b6.Pv a0) 8),(910003,⟨List.map iF q.2,(List.map iF q.2).length,true,1,true⟩)]) (Wk.trans (G2 (t:=3) (l:=920003) (z:=1) J J) (WP (λl=>if l=910003 then 920003 else l))) λq22 x21 h hx16=>?_
  obtain⟨s19,s20⟩:=q22;refine S4 1 J<|e6 ?_;refine cN h (λhc h=>?_) λhc h=>?_
  ·refine c4 ?_;refine jq h (λj27=>St.of [(1,.ptr 1 0 0),(3,.sl 29),(10,.L iF v17),(11,.I (v17.length:Int)),(12,.I s19)] [(29,⟨List.map iF j27,(List.map iF j27).length,true,1,true⟩),(1,vR (b6.Pv a0) 8)]) (λj27 h=>?_) λκ26 h=>?_
   ·refine S6 2 J ?_;exact eL h (Wk.trans (n8 _ [29]) (WP (λl=>if l=910003 then 29 else l)))
   ·refine g5 ?_;refine sR<|iL h J J j5 o5 λv28 _ h=>S2 2 J<|S3 3 J<|cF h C0 J J λv29 _ h=>S2 6 J<|S4 3 J ?_;refine cN h (λhc h=>?_) λhc h=>?_
    ·refine S5 2 J ?_;refine y0 J (H2 (f:=iF) (l:=[v28]) J j5 o5 A3 J J nl J J)<|w8 h λv30 hv23 h=>O5 J (J1 (f:=iF) hv23 J J J J J J (.inl ⟨_,J,J⟩) j5 o5 K1 A3 J (λ_=>J)) J J J<|S2 1 J ?_;exact eJ h (Wk.trans (n8 _ [29]) W)
    ·refine c4 ?_;exact eJ h (Wk.trans (n8 _ [910003]) (WP (λl=>if l=29 then 910003 else l)))
  ·refine o8 ?_;refine c5<|c5<|l4 ?_;have h:=xL hx16 h;exact eJ h (Wk.trans (n8 _ [910003]) W)

theorem a5d{a0}:PO Tryz.prog 162 [m7.Pv a0] (L8 a0) λr=>.bool r:=by
 refine pO Tryz.func162 λr h _ _=>?_;unfold L8 at h;refine S4 2 J<|S3 4 J<|k7 J (λhg=>oF J b51 J)<|k7 J (λhg=>oS (ct hg) J J b3Z J)<|k7 J (λhg=>a1w (ct hg) J)<|y0 J (y6 J J J (λq=>eqT q))<|S2 1 J<|b8 ?_;cases h;exact f1

theorem O0{a0}:PO Tryz.prog 313 [c8.Pv a0] (I3 a0) λr=>.I r:=by
 refine pO Tryz.func313 λr h _ _=>?_;unfold I3 at h;refine S4 2 J<|S3 2 J<|nL J a4a<|S2 1 J<|b8 ?_;cases h;exact f1

theorem U9{a0 a1 a2}:PO Tryz.prog 314 [.L g9.Pv a0,.I a1,.I a2] (E9 a0 a1 a2) λr=>.lst true (List.map g9.Pv r):=by
 refine pO Tryz.func314 λr h _ _=>?_;unfold E9 at h;refine S4 1 J<|S3 4 J<|w8 h λv1 hv1 h=>y0 J (c65 (f:=g9.Pv) hv1 J ⟨_,J⟩ ⟨_,J⟩ ⟨_,J⟩ J J a4a K2 (λ_=>J))<|S2 1 J<|b8 ?_;cases h;exact f1

theorem a5R{a0 a1}:PO Tryz.prog 250 [c8.Pv a0,g9.Pv a1] (Q7 a0 a1) λr=>.tup [c8.Pv r.1,.I r.2]:=by
 refine pO Tryz.func250 λr h _ _=>?_;unfold Q7 at h;refine S4 4 J<|e6<|dr [] u5 (by kernel_rfl) (by kernel_rfl)<|S7 1 J<|w8 h λv1 hv1 h=>d2 J (F1 J O0 J hv1) J<|S8 3 J ?_
 refine cN h (λhc h=>?_) λhc h=>?_
 ·refine S4 3 J ?_;refine b8 ?_;cases h;exact⟨J,[_,_],⟨oL J J J a5j a1M nl J,⟨J,tr⟩⟩,J,io⟩
 ·refine c4 ?_;refine dr [] u5 (by kernel_rfl) (by kernel_rfl)<|S7 3 J<|d2 J (F1 J O0 J hv1) J<|w8 h λv2 hv2 h=>d2f J (y8 J U9 J hv2) J<|S7 1 J<|d1n J (H2 (f:=g9.Pv) (l:=[a1]) J a4a K2 b0x J J nl J J) J<|w8 h λv3 hv3 h=>d3 J (b1b (f:=g9.Pv) hv3 J J (.inl ⟨_,J,J⟩) a4a K2 c8s b0x J (λ_=>J)) J J J<|S7 1 J<|E8 (x':=.agg [.sl 19,.I a0.Cap]) (cl':=false) J J (.inl J) c5G<|O2<|S4 3 J<|b8 ?_
  cases h;exact⟨J,[_,_],⟨oL J J J a5j a1M nl J,⟨J,tr⟩⟩,J,io⟩

theorem b21{a0 a1}:PO Tryz.prog 168 [c8.Pv a0,g9.Pv a1] (a8J a0 a1) λr=>.tup [c8.Pv r.1,.I r.2]:=by
 refine pO Tryz.func168 λr h _ _=>?_;refine S4 4 J<|S3 2 J<|cF h a5R J J λv1 _ h=>S2 4 J<|b8 ?_;cases h;exact⟨J,[_,_],⟨oL J J J a5j a1M nl J,⟨J,tr⟩⟩,J,io⟩

theorem a6d{a0 a1}:PO Tryz.prog 106 [b6.Pv a0,.I a1] (S0 a0 a1) λr=>b6.Pv r:=by
 refine pO Tryz.func106 λr h _ _=>?_;refine S4 2 J<|S3 3 J<|cF h C0 J J λv1 _ h=>S2 6 J<|e6<|S3 3 J<|k7 J (λhg=>oL J J J b0p a4O nl J)<|w8 h λv2 hv2 h=>k7 J (λhg=>F1 J a5d (E3 (ct hg) J) (F2 hv2 hg))<|k7 J (λhg=>a1w (ct hg) J)<|y0 J (B6 J J J (λq=>eqF q))<|yN ?_;refine cN h (λhc h=>?_) λhc h=>?_
 ·refine S4 2 J ?_;refine b8 ?_;cases h;exact⟨J,[_],⟨oL J J J s6 o9 nl J,tr⟩,J,io⟩
 ·refine c4 ?_;refine S4 2 J<|S3 4 J<|cF h a0G J J λv3 _ h=>S2 5 J<|S3 5 J<|y0 J (p6 (cs:=[.I 1,.I a1,.I v1.1.Prog]) J b63 b0x J J J)<|cF h b21 J J λv4 _ h=>S2 5 J<|S3 2 J<|cF h a1X J J λv5 _ h=>S2 1 J<|b8 ?_;cases h;exact⟨J,[_],⟨oL J J J s6 o9 nl J,tr⟩,J,io⟩

theorem a9x{a0 a1}:PO Tryz.prog 170 [b6.Pv a0,.L iF a1] (V1 a0 a1) λr=>.L iF r:=by
 refine pO Tryz.func170 λr h _ _=>?_;refine S4 2 J<|sR<|c0M (KT:=Int) (VT:=Bool) (EK:=iF) (E:=PV.bool) 5000011 J J<|S2 1 J<|S4 1 J ?_;refine jq h (λj18=>St.of [(6,.sl 910006)] [(910006,⟨List.map iF j18,(List.map iF j18).length,true,1,true⟩)]) (λj18 h=>?_) λκ17 h=>?_
 ·refine S4 2 J ?_;refine b8 ?_;cases h;exact f1
 ·refine S3 1 J ?_;refine nL J j5<|S2 1 J<|g5<|lq h (λq=>St.of [(2,.ptr 2 0 0),(5,.mp 5000011),(6,.sl 910006),(12,.L iF a1),(13,.I (a1.length:Int)),(14,.I q.1)] [(5000011,⟨[.mapc (List.map (ent iF PV.bool) q.2.1)],0,false,0,false⟩),(2,vR (b6.Pv a0) 8),(910006,⟨List.map iF q.2.2,(List.map iF q.2.2).length,true,1,true⟩)]) (Wk.trans (G2 (t:=6) (l:=920006) (z:=1) J J) (WP (λl=>if l=910006 then 920006 else l))) λq24 x23 h hx16=>?_
  obtain⟨s20,s21,s22⟩:=q24;refine S4 1 J<|e6 ?_;refine cN h (λhc h=>?_) λhc h=>?_
  ·refine c4 ?_;refine jq h (λq=>St.of [(2,.ptr 2 0 0),(5,.mp 5000011),(6,.sl 38),(12,.L iF a1),(13,.I (a1.length:Int)),(14,.I s20)] [(38,⟨List.map iF q.1,(List.map iF q.1).length,true,1,true⟩),(5000011,⟨[.mapc (List.map (ent iF PV.bool) q.2)],0,false,0,false⟩),(2,vR (b6.Pv a0) 8)]) (λq31 h=>?_) λκ28 h=>?_
   ·obtain⟨j29,j30⟩:=q31;refine S6 2 J ?_;exact eL h (Wk.trans (n8 _ [38]) (WP (λl=>if l=910006 then 38 else l)))
   ·refine g5 ?_;refine sR<|iL h J J j5 o5 λv32 _ h=>S2 2 J<|S3 3 J<|cF h C0 J J λv33 _ h=>S2 6 J<|S3 3 J<|k7 J (λhg=>om (d:=.mp 5000011) J)<|k7 J (λhg=>mI J) ?_;rcases Bool.eq_false_or_eq_true ((v33.2==0)==true) with hg24 | hg24
    ·have h:=ifT h hg24;refine c8e (es:=s21) (k:=v32) (E:=PV.bool) (EK:=iF) (d:=.bool ((B4 s21 v32).getD (false:Bool))) (congrArg some hg24) (ct hg24) J (ct hg24) a2Z (A1 L4) b9k J (lk1 _ _ _)<|y0 (congrArg some hg24) (a1w J J)<|y0 J (a6T J J hg24)<|yN ?_;refine cN h (λhc h=>?_) λhc h=>?_
     ·refine S3 2 J ?_;refine a0U (es:=s21) (k:=v32) (v:=true) (E:=PV.bool) (EK:=iF) (.inl J) J J J J J J a2Z (A1 L4)<|yN<|S5 2 J<|y0 J (H2 (f:=iF) (l:=[v32]) J j5 o5 A3 J J nl J J)<|w8 h λv34 hv25 h=>O5 J (J1 (f:=iF) hv25 J J J J J J (.inl ⟨_,J,J⟩) j5 o5 K1 A3 J (λ_=>J)) J J J<|S2 1 J ?_;exact eJ h (Wk.trans (n8 _ [38]) W)
     ·refine c4 ?_;exact eJ h (Wk.trans (n8 _ [910006]) (WP (λl=>if l=38 then 910006 else l)))
    ·have h:=ifF h hg24;refine a2e (congrArg some hg24)<|a2e (congrArg some hg24)<|y0 J (a86 J J hg24)<|yN ?_;refine H9 false J (λq=>nomatch q) (λ_=>?_);refine c4 ?_;exact eJ h (Wk.trans (n8 _ [910006]) (WP (λl=>if l=38 then 910006 else l)))
  ·refine o8 ?_;refine c5<|c5<|l4 ?_;have h:=xL hx16 h;exact eJ h (Wk.trans (n8 _ [910006]) W)

theorem a6f{a0 a1}:PO Tryz.prog 350 [.L iF a0,.I a1] (Q9 a0 a1) λr=>.I r:=by
 refine pO Tryz.func350 λr h _ _=>?_;refine S4 1 J ?_;refine jq h (λ_=>St.of [] []) (λq6 h=>?_) λκ5 h=>?_
 ·refine S4 1 J ?_;refine b8 ?_;cases h;exact f1
 ·refine S3 1 J ?_;refine nL J j5<|S2 1 J<|g5<|lq h (λs8=>St.of [(0,.L iF a0),(1,.I a1),(7,.I (a0.length:Int)),(8,.I s8)] []) W λs8 x9 h hx8=>S4 1 J<|e6 ?_;refine cN h (λhc h=>?_) λhc h=>?_
  ·refine c4 ?_;refine e6<|g5<|S4 2 J<|S3 3 J<|iL h J J j5 o5 λv10 _ h=>S2 2 J ?_;refine cN h (λhc h=>?_) λhc h=>?_
   ·refine S4 2 J ?_;refine b8 ?_;have h:=xL hx8 h;cases h;exact f1
   ·refine c4 ?_;refine S6 2 J ?_;exact eL h W
  ·refine o8 ?_;refine c5<|c5<|l4 ?_;have h:=xL hx8 h;exact eJ h W

theorem P6{a0 a1}:PO Tryz.prog 318 [.L iF a0,.I a1] (E6 a0 a1) λr=>.bool r:=by
 refine pO Tryz.func318 λr h _ _=>?_;refine S4 1 J<|S3 2 J<|cA h a6f J J λv1 _ h=>S2 2 J<|b8 ?_;cases h;exact f1

theorem b3k{a0 a1}:PO Tryz.prog 317 [c9.Pv a0,.rptr [.L iF a1]] (a0J a0 a1) λr=>.bool r:=by
 refine pO Tryz.func317 λr h _ _=>?_;unfold a0J at h;refine S4 2 J<|S3 3 J<|k7 J (λhg=>oF J b53 J)<|k7 J (λhg=>oS (ct hg) J J C7 J)<|k7 J (λhg=>w7 (ct hg) J J)<|y0 J (y6 J J J (λq=>eqT q))<|S1 1 J<|k7 J (λhg=>G6 J a7O J)<|k7 J (λhg=>oF J b53 J)<|k7 J (λhg=>oS (ct hg) J J C7 J)<|w8 h λv1 hv1 h=>k7 J (λhg=>F1 J P6 (E3 (ct hg) (E3 (ct hg) J)) (F2 hv1 hg))<|y0 J (y6 J J J (λq=>eqT q))<|S2 1 J<|b8 ?_;cases h;exact f1

theorem a3D{a0 a1}:PO Tryz.prog 316 [.L c9.Pv a0,.fn (.func 317) [.rptr [.L iF a1]]] (I9 a0 a1) λr=>.L iF r:=by
 refine pO Tryz.func316 λr h _ _=>?_;refine S4 1 J<|S4 1 J ?_;refine jq h (λj15=>St.of [(5,.sl 910005)] [(910005,⟨List.map iF j15,(List.map iF j15).length,true,1,true⟩)]) (λj15 h=>?_) λκ14 h=>?_
 ·refine S4 2 J ?_;refine b8 ?_;cases h;exact f1
 ·refine S3 1 J ?_;refine nL J R3<|S2 1 J<|g5<|lq h (λq=>St.of [(1,.fn (.func 317) [.rptr [.L iF a1]]),(5,.sl 910005),(8,.L c9.Pv a0),(9,.I (a0.length:Int)),(10,.I q.1)] [(910005,⟨List.map iF q.2,(List.map iF q.2).length,true,1,true⟩)]) (Wk.trans (G2 (t:=5) (l:=920005) (z:=1) J J) (WP (λl=>if l=910005 then 920005 else l))) λq20 x19 h hx14=>?_
  obtain⟨s17,s18⟩:=q20;refine S4 1 J<|e6 ?_;refine cN h (λhc h=>?_) λhc h=>?_
  ·refine c4 ?_;refine jq h (λj25=>St.of [(1,.fn (.func 317) [.rptr [.L iF a1]]),(5,.sl 21),(8,.L c9.Pv a0),(9,.I (a0.length:Int)),(10,.I s17)] [(21,⟨List.map iF j25,(List.map iF j25).length,true,1,true⟩)]) (λj25 h=>?_) λκ24 h=>?_
   ·refine S6 2 J ?_;exact eL h (Wk.trans (n8 _ [21]) (WP (λl=>if l=910005 then 21 else l)))
   ·refine g5 ?_;refine S3 1 J<|iL h J J R3 V7 λv26 _ h=>S2 4 J<|S3 2 J<|cA h b3k J J λv27 _ h=>yN ?_;refine cN h (λhc h=>?_) λhc h=>?_
    ·refine S5 2 J ?_;refine y0 J (H2 (f:=iF) (l:=[s17]) J j5 o5 A3 J J nl J J)<|w8 h λv28 hv21 h=>O5 J (J1 (f:=iF) hv21 J J J J J J (.inl ⟨_,J,J⟩) j5 o5 K1 A3 J (λ_=>J)) J J J<|S2 1 J ?_;exact eJ h (Wk.trans (n8 _ [21]) W)
    ·refine c4 ?_;exact eJ h (Wk.trans (n8 _ [910005]) (WP (λl=>if l=21 then 910005 else l)))
  ·refine o8 ?_;refine c5<|c5<|l4 ?_;have h:=xL hx14 h;exact eJ h (Wk.trans (n8 _ [910005]) W)

theorem b5Z{a0 a1}:PO Tryz.prog 253 [.L c9.Pv a0,.L iF a1] (a4E a0 a1) λr=>.tup [.L c9.Pv r.1,.L iF r.2]:=by
 refine pO Tryz.func253 λr h _ _=>?_;unfold a4E at h;refine S4 3 J<|S3 2 J<|w8 h λv1 hv1 h=>ycL J (y8 J a3D J hv1) J<|S2 1 J<|S3 1 J<|w8 h λv2 hv2 h=>ycN J (b6y J a7D J hv2) J J<|S2 1 J<|S4 1 J ?_;refine jq h (λq=>St.of [(7,.sl 15),(8,.sl 910008)] [(910008,⟨List.map iF q.1,(List.map iF q.1).length,true,1,true⟩),(15,⟨List.map c9.Pv q.2,0,true,3,true⟩)]) (λq24 h=>?_) λκ21 h=>?_
 ·obtain⟨j22,j23⟩:=q24;refine S4 4 J<|b8 ?_;cases h;exact f2
 ·refine S3 1 J ?_;refine nL J j5<|S2 1 J<|g5<|lq h (λq=>St.of [(7,.sl 15),(8,.sl 910008),(16,.L iF v1),(17,.I (v1.length:Int)),(18,.I q.1)] [(15,⟨List.map c9.Pv q.2.1,0,true,3,true⟩),(910008,⟨List.map iF q.2.2,(List.map iF q.2.2).length,true,1,true⟩)]) (Wk.trans (G2 (t:=8) (l:=920008) (z:=1) J J) (WP (λl=>if l=910008 then 920008 else l))) λq30 x29 h hx18=>?_
  obtain⟨s26,s27,s28⟩:=q30;refine S4 1 J<|e6 ?_;refine cN h (λhc h=>?_) λhc h=>?_
  ·refine c4 ?_;refine jq h (λq=>St.of [(7,.sl 15),(8,.sl 35),(16,.L iF v1),(17,.I (v1.length:Int)),(18,.I s26)] [(35,⟨List.map iF q.1,(List.map iF q.1).length,true,1,true⟩),(15,⟨List.map c9.Pv q.2,0,true,3,true⟩)]) (λq38 h=>?_) λκ35 h=>?_
   ·obtain⟨j36,j37⟩:=q38;refine S6 2 J ?_;exact eL h (Wk.trans (n8 _ [35]) (WP (λl=>if l=910008 then 35 else l)))
   ·refine g5 ?_;refine sR<|iL h J J j5 o5 λv39 _ h=>S2 2 J<|S3 2 J<|w8 h λv40 hv25 h=>y0 J (a3F (f:=c9.Pv) hv25 J J J J R3 V7 J)<|S1 1 J<|b1Q (f:=c9.Pv) (v:=(⟨v40.Target,false,v40.Call⟩:c9)) hv25 J J (.inl J) d4k<|yN<|S3 2 J<|w8 h λv41 hv26 h=>y0 J (a3F (f:=c9.Pv) hv26 J J J J R3 V7 J)<|S1 1 J<|y0 J (b4P (f:=c9.Pv) hv26 J J J C7 J)<|S2 1 J ?_;refine cN h (λhc h=>?_) λhc h=>?_
    ·refine S5 2 J ?_;refine y0 J (H2 (f:=iF) (l:=[v39]) J j5 o5 A3 J J nl J J)<|w8 h λv42 hv27 h=>O5 J (J1 (f:=iF) hv27 J J J J J J (.inl ⟨_,J,J⟩) j5 o5 K1 A3 J (λ_=>J)) J J J<|S2 1 J ?_;exact eJ h (Wk.trans (n8 _ [35]) W)
    ·refine c4 ?_;exact eJ h (Wk.trans (n8 _ [910008]) (WP (λl=>if l=35 then 910008 else l)))
  ·refine o8 ?_;refine c5<|c5<|l4 ?_;have h:=xL hx18 h;exact eJ h (Wk.trans (n8 _ [910008]) W)

theorem b1E{a0 a1}:PO Tryz.prog 171 [b6.Pv a0,.L iF a1] (a19 a0 a1) λr=>b6.Pv r:=by
 refine pO Tryz.func171 λr h _ _=>?_;refine S4 2 J<|S3 3 J<|cF h b5Z J J λv1 _ h=>S2 5 J<|S4 3 J ?_;refine jq h (λj11=>St.of [(2,.ptr 2 0 0),(4,.ptr 4 0 0)] [(4,vR (.agg [.nl,.I 0,.I 0,.nl,.nl,.nl,.nl,.I 0]) 8),(2,vR (.agg [.L b7.Pv a0.S.S.a8,.I a0.S.S.Last,.I a0.S.Serial,.L iF a0.Roots,.L c9.Pv v1.1,.L b9.Pv a0.T,.L g9.Pv j11.L,.I j11.Cap]) 8)]) (λj11 h=>?_) λκ10 h=>?_
 ·refine S4 2 J ?_;refine b8 ?_;cases h;exact⟨J,[_],⟨oL J J J s6 o9 nl J,tr⟩,J,io⟩
 ·refine S3 1 J ?_;refine nL J j5<|S2 1 J<|g5<|lq h (λq=>St.of [(2,.ptr 2 0 0),(4,.ptr 4 0 0),(5,.L c9.Pv v1.1),(18,.L iF v1.2),(19,.I (v1.2.length:Int)),(20,.I q.1)] [(4,vR (.agg [.nl,.I 0,.I 0,.nl,.nl,.nl,.nl,.I 0]) 8),(2,vR (.agg [.L b7.Pv a0.S.S.a8,.I a0.S.S.Last,.I a0.S.Serial,.L iF a0.Roots,.L c9.Pv v1.1,.L b9.Pv a0.T,.L g9.Pv q.2.L,.I q.2.Cap]) 8)]) W λq16 x15 h hx11=>?_;obtain⟨s13,s14⟩:=q16;refine S4 1 J<|e6 ?_;refine cN h (λhc h=>?_) λhc h=>?_
  ·refine c4 ?_;refine e6<|g5<|sR<|iL h J J j5 o5 λv17 _ h=>S2 2 J<|b0e [] u5 (by kernel_rfl) (by kernel_rfl)<|S7 5 J<|w8 h λv18 hv13 h=>d0 J (A5 (f:=c9.Pv) (cs:=c9.Pc v18) hv13 J J R3 V7 J J) J<|S7 2 J<|d7 J (λ_ hN=>p6 (cs:=[.I 2,.I v17,.I v18.Call]) J b63 b0x J J J) J<|w8 h λv19 hv14 h=>d2f J (y8 J b21 J hv14) J<|S7 4 J<|E8 (x':=.agg [.L b7.Pv a0.S.S.a8,.I a0.S.S.Last,.I a0.S.Serial,.L iF a0.Roots,.L c9.Pv v1.1,.L b9.Pv a0.T,.L g9.Pv v19.1.L,.I v19.1.Cap]) (cl':=true) J J (.inr J) a1M<|O2<|S6 2 J ?_
   exact eL h W
  ·refine o8 ?_;refine c5<|c5<|l4 ?_;have h:=xL hx11 h;exact eJ h W

theorem b8N{a0}:PO Tryz.prog 254 [.L iF a0] (a9m a0) λr=>.fn (.func 320) [.rptr [.L iF r]]:=by
 refine pO Tryz.func254 λr h _ _=>?_;unfold a9m at h;refine S4 2 J<|S4 2 J<|b8 ?_;cases h;exact f1

theorem b1N{a0}:PO Tryz.prog 173 [.L iF a0] (a38 a0) λr=>.L iF r:=by
 refine pO Tryz.func173 λr h _ _=>?_;refine S4 1 J<|S4 1 J ?_;refine jq h (λj10=>St.of [(3,.ptr 2001 0 0)] [(2001,vS (.sl 912501) 1),(912501,⟨List.map iF j10,(List.map iF j10).length,true,1,true⟩)]) (λj10 h=>?_) λκ9 h=>?_
 ·refine S4 2 J ?_;refine b8 ?_;cases h;exact f1
 ·refine S3 1 J ?_;refine cF h b8N J J λv11 _ h=>yN<|g5<|a3e (WPE (λl=>if l=2011 then 3 else l) [(3,.ptr 2011 0 0),(6,.fn (.func 320) [.rptr [.L iF v11]])] [(2011,vR (.nl) 1)]) ?_
  refine a13 (fn:=Tryz.f320) (N1:=20) J Tryz.func320 J J nl J c8A J J (λl17 e18 o19 hR20=>?_);refine S3 1 J<|nL J j5<|S2 1 J<|g5<|lq h (λq=>St.of [(1000003,.ptr 2011 0 0),(1000006,.fn (.func 320) [.rptr [.L iF v11]]),(0,.fn (.yield l17) []),(5,.L iF v11),(6,.I (v11.length:Int)),(7,.I q.1)] [(2011,vS (.sl 912511) 1),(912511,⟨List.map iF q.2,(List.map iF q.2).length,true,1,true⟩)]) (Wk.trans (b1P (l0:=2011) (j:=0) (l:=922511) (z:=1) J J J J J) (WP (λl=>if l=912511 then 922511 else l))) λq16 x15 h hx23=>?_
  obtain⟨s13,s14⟩:=q16;refine S4 1 J<|e6 ?_;refine cN h (λhc h=>?_) λhc h=>?_
  ·refine c4 ?_;refine e6<|g5<|sR<|iL h J J j5 o5 λv17 _ h=>S2 2 J<|S3 3 J<|k7 J (λhg=>om (d:=.fn (.yield l17) []) J)<|k7 J (λhg=>mI J) ?_;rcases Bool.eq_false_or_eq_true ((v17 != 0)==true) with hg25 | hg25
   ·have h:=ifT h hg25;refine T1 (WPE (λl=>if l=2019 then 912511 else l) [(1000003,.ptr 2011 0 0),(1000006,.fn (.func 320) [.rptr [.L iF v11]]),(0,.fn (.yield l17) []),(5,.L iF v11),(6,.I (v11.length:Int)),(7,.I s13),(13,.bool (v17 != 0)),(14,.fn (.yield l17) []),(15,.I v17)] [(2011,vS (.sl 2019) 1),(2019,⟨List.map iF s14,(List.map iF s14).length,true,1,true⟩)]) ?_
    refine a7n hR20 (congrArg some hg25) J J J J J (λe26 o27 o28=>?_);refine S6 1 J ?_;refine⟨J,?_⟩;refine g5<|S5 2 J<|y0 J (H2 (f:=iF) (l:=[v17]) J j5 o5 A3 J J nl J J)<|w8 h λv18 hv29 h=>O5 J (J1 (f:=iF) hv29 J J J J J J (.inl ⟨_,J,J⟩) j5 o5 K1 A3 J (λ_=>J)) J J J<|S2 1 J ?_;refine⟨J,?_⟩;refine T1 (WPE (λl=>if l=2020 then 11 else l) [(1000003,.ptr 2011 0 0),(1000006,.fn (.func 320) [.rptr [.L iF v11]]),(0,.fn (.yield l17) []),(5,.L iF v11),(6,.I (v11.length:Int)),(7,.I s13),(13,.bool (v17 != 0)),(16,.bool true)] [(2011,vS (.sl 2020) 1),(2020,⟨List.map iF v18,s14.length,true,1,true⟩)])<|y0 (congrArg some hg25) (a1w J J)<|y0 J (a6T J J hg25)<|yN ?_
    refine H9 false J (λq=>nomatch q) (λ_=>?_);refine c4<|S6 2 J ?_;exact eL h (Wk.trans (n8 _ [2020]) (WP (λl=>if l=912511 then 2020 else l)))
   ·have h:=ifF h hg25;refine a2e (congrArg some hg25)<|a2e (congrArg some hg25)<|y0 J (a86 J J hg25)<|yN ?_;refine H9 false J (λq=>nomatch q) (λ_=>?_);refine c4<|S6 2 J ?_;exact eL h (Wk.trans (n8 _ [912511]) W)
  ·refine o8 ?_;refine c5<|c5<|l4 ?_;refine .inl ⟨J,?_⟩;have h:=xL hx23 h;exact eJ h (Wk.trans (n8 _ [912511]) (WP (λl=>if l=2001 then 2011 else if l=912501 then 912511 else l)))

theorem b13{a0 a1}:PO Tryz.prog 174 [.L b9.Pv a0,.L iF a1] (O3 a0 a1) λr=>.tup [.L b9.Pv r.1,.L iF r.2]:=by
 refine pO Tryz.func174 λr h _ _=>?_;refine S4 2 J<|S4 1 J ?_;refine jq h (λq=>St.of [(0,.L b9.Pv q.1),(6,.sl 910006)] [(910006,⟨List.map iF q.2,(List.map iF q.2).length,true,1,true⟩)]) (λq20 h=>?_) λκ17 h=>?_
 ·obtain⟨j18,j19⟩:=q20;refine S4 4 J<|b8 ?_;cases h;exact f2
 ·refine S3 1 J ?_;refine nL J j5<|S2 1 J<|g5<|lq h (λq=>St.of [(0,.L b9.Pv q.1),(6,.sl 910006),(12,.L iF a1),(13,.I (a1.length:Int)),(14,.I q.2.1)] [(910006,⟨List.map iF q.2.2,(List.map iF q.2.2).length,true,1,true⟩)]) (Wk.trans (G2 (t:=6) (l:=920006) (z:=1) J J) (WP (λl=>if l=910006 then 920006 else l))) λq26 x25 h hx14=>?_
  obtain⟨s22,s23,s24⟩:=q26;refine S4 1 J<|e6 ?_;refine cN h (λhc h=>?_) λhc h=>?_
  ·refine c4 ?_;refine jq h (λq=>St.of [(0,.L b9.Pv q.1),(6,.sl 31),(12,.L iF a1),(13,.I (a1.length:Int)),(14,.I s23)] [(31,⟨List.map iF q.2,(List.map iF q.2).length,true,1,true⟩)]) (λq33 h=>?_) λκ30 h=>?_
   ·obtain⟨j31,j32⟩:=q33;refine S6 2 J ?_;exact eL h (Wk.trans (n8 _ [31]) (WP (λl=>if l=910006 then 31 else l)))
   ·refine g5 ?_;refine sR<|iL h J J j5 o5 λv34 _ h=>S2 2 J<|S3 2 J<|cF h b0R J J λv35 _ h=>S2 7 J<|S4 2 J ?_;refine cN h (λhc h=>?_) λhc h=>?_
    ·refine S5 3 J ?_;refine y0 J (H2 (f:=iF) (l:=[v35.2.1]) J j5 o5 A3 J J nl J J)<|w8 h λv36 hv21 h=>O5 J (J1 (f:=iF) hv21 J J J J J J (.inl ⟨_,J,J⟩) j5 o5 K1 A3 J (λ_=>J)) J J J<|S2 2 J ?_;exact eJ h (Wk.trans (n8 _ [31]) W)
    ·refine c4 ?_;exact eJ h (Wk.trans (n8 _ [910006]) (WP (λl=>if l=31 then 910006 else l)))
  ·refine o8 ?_;refine c5<|c5<|l4 ?_;have h:=xL hx14 h;exact eJ h (Wk.trans (n8 _ [910006]) W)

theorem a7b{a0 a1}:PO Tryz.prog 256 [c7.Pv a0,.I a1] (T4 a0 a1) λr=>.tup [c7.Pv r.1,.I r.2]:=by
 refine pO Tryz.func256 λr h _ _=>?_;refine S4 3 J<|S3 2 J<|cF h a2m J J λv1 _ h=>S2 6 J<|e6<|S4 2 J ?_;refine cN h (λhc h=>?_) λhc h=>?_
 ·refine S4 4 J ?_;refine b8 ?_;cases h;exact⟨J,[_,_],⟨oL J J J a3o a1L nl J,⟨J,tr⟩⟩,J,io⟩
 ·refine c4 ?_;refine dr [] u5 (by kernel_rfl) (by kernel_rfl)<|S7 2 J<|w8 h λv2 hv2 h=>d2 J (F1 J a74 J hv2) J<|S7 1 J<|w8 h λv3 hv3 h=>d2 J (F1 J a9J J hv3) J<|S7 1 J<|d7 J (λ_ hN=>p6 (cs:=[.I 2,.I v3,.I v1.1.Serial,.I v1.1.Strong,.I v1.1.Weak,.I v1.1.Prog,.bool v1.1.Started,.L iF v1.1.Fields]) J b3p a8T J J J) J<|w8 h λv4 hv4 h=>d2f J (y8 J I2 J hv4) J<|E8 (x':=c7.Pv v4) (cl':=true) J J (.inr J) a1L<|S8 1 J<|b8 ?_
  cases h;exact⟨J,[_,_],⟨oL J J J a3o a1L nl J,⟨J,tr⟩⟩,J,io⟩

theorem b2A{a0 a1}:PO Tryz.prog 175 [b6.Pv a0,.I a1] (Y3 a0 a1) λr=>b6.Pv r:=by
 refine pO Tryz.func175 λr h _ _=>?_;refine S4 2 J<|S3 3 J<|cF h C0 J J λv1 _ h=>S2 6 J<|S3 1 J<|a2p (x':=.agg [.I v1.1.Serial,.I v1.1.Strong,.I v1.1.Weak,.I v1.1.Prog,.bool v1.1.Started,.nl]) (cl':=true) J J (.inl J) b1V<|S1 1 J<|a2p (x':=.agg [.I v1.1.Serial,.I 0,.I v1.1.Weak,.I v1.1.Prog,.bool v1.1.Started,.nl]) (cl':=true) J J (.inl J) o5<|yN<|S3 4 J<|cF h a0G J J λv2 _ h=>S2 5 J<|S3 4 J<|cF h a7b J J λv3 _ h=>S2 6 J<|e6<|S4 3 J ?_;refine cN h (λhc h=>?_) λhc h=>?_
 ·refine S5 4 J ?_;refine cF h a2a J J λv4 _ h=>S2 6 J<|S4 2 J<|b8 ?_;cases h;exact⟨J,[_],⟨oL J J J s6 o9 nl J,tr⟩,J,io⟩
 ·refine c4 ?_;refine S4 2 J<|b8 ?_;cases h;exact⟨J,[_],⟨oL J J J s6 o9 nl J,tr⟩,J,io⟩

end Go.Proofs.YtjlokngooekbcaaGreat.Ok
