/-
 The functions of the program do as the plain functions do.
-/
import Derived.Test.YtjlokngooekbcaaGreatP21dPwC
import Derived.Test.YtjlokngooekbcaaGreatP21dPwD
import Derived.Test.YtjlokngooekbcaaGreatSrt
import Derived.Test.YtjlokngooekbcaaGreatSrtI
import Derived.Test.YtjlokngooekbcaaGreatP21dSh
import Derived.Test.YtjlokngooekbcaaGreatProg
set_option linter.unusedVariables false
set_option linter.unusedSimpArgs false
set_option linter.unusedSectionVars false
namespace Go.Proofs.YtjlokngooekbcaaGreat.Ok
open Go Go.Pw Go.Sh Go.Proofs
set_option maxRecDepth 100000
set_option maxHeartbeats 4000000
abbrev _root_.Go.Sh.g8.Pc(x:g8):List PV:=[.I x.Kind,.I x.A,.I x.B,.I x.C]
abbrev _root_.Go.Sh.g8.Pv(x:g8):PV:=.agg x.Pc
abbrev _root_.Go.Sh.m9.Pc(x:m9):List PV:=[.I x.Serial,.I x.Strong,.I x.Weak,.I x.Prog,.bool x.Started,.L iF x.Fields]
abbrev _root_.Go.Sh.m9.Pv(x:m9):PV:=.agg x.Pc
abbrev _root_.Go.Sh.b9.Pc(x:b9):List PV:=[.I x.State,.I x.Gen,.I x.Val.Serial,.I x.Val.Strong,.I x.Val.Weak,.I x.Val.Prog,.bool x.Val.Started,.L iF x.Val.Fields]
abbrev _root_.Go.Sh.b9.Pv(x:b9):PV:=.agg x.Pc
abbrev _root_.Go.Sh.g6.Pc(x:g6):List PV:=[.I x.Target,.bool x.Intact,.I x.Call]
abbrev _root_.Go.Sh.g6.Pv(x:g6):PV:=.agg x.Pc
abbrev _root_.Go.Sh.c5.Pc(x:c5):List PV:=[.I x.State,.I x.Key,.I x.Val]
abbrev _root_.Go.Sh.c5.Pv(x:c5):PV:=.agg x.Pc
abbrev _root_.Go.Sh.k9.Pc(x:k9):List PV:=[.I x.Kind,.I x.At,.I x.Prog]
abbrev _root_.Go.Sh.k9.Pv(x:k9):PV:=.agg x.Pc
abbrev _root_.Go.Sh.j5.Pc(x:j5):List PV:=[fvE x.part,.I x.least,.I x.most,.I x.e]
abbrev _root_.Go.Sh.j5.Pv(x:j5):PV:=.agg x.Pc
abbrev _root_.Go.Sh.e6.Pc(x:e6):List PV:=[.L b9.Pv x.a8,.I x.Last]
abbrev _root_.Go.Sh.e6.Pv(x:e6):PV:=.agg x.Pc
abbrev _root_.Go.Sh.a7.Pc(x:a7):List PV:=[.L b9.Pv x.S.a8,.I x.S.Last,.I x.Serial]
abbrev _root_.Go.Sh.a7.Pv(x:a7):PV:=.agg x.Pc
abbrev _root_.Go.Sh.g5.Pc(x:g5):List PV:=[.L k9.Pv x.L,.I x.Cap]
abbrev _root_.Go.Sh.g5.Pv(x:g5):PV:=.agg x.Pc
abbrev _root_.Go.Sh.b7.Pc(x:b7):List PV:=[.L b9.Pv x.S.S.a8,.I x.S.S.Last,.I x.S.Serial,.L iF x.Roots,.L g6.Pv x.a8,.L c5.Pv x.T,.L k9.Pv x.Q.L,.I x.Q.Cap]
abbrev _root_.Go.Sh.b7.Pv(x:b7):PV:=.agg x.Pc
abbrev _root_.Go.Sh.p6.Pc(x:p6):List PV:=[.L b9.Pv x.X.S.S.a8,.I x.X.S.S.Last,.I x.X.S.Serial,.L iF x.X.Roots,.L g6.Pv x.X.a8,.L c5.Pv x.X.T,.L k9.Pv x.X.Q.L,.I x.X.Q.Cap,.L (Ls g8.Pv) x.Progs]
abbrev _root_.Go.Sh.p6.Pv(x:p6):PV:=.agg x.Pc
abbrev _root_.Go.Sh.l6.Pc(x:l6):List PV:=[.I x.V,.I x.E]
abbrev _root_.Go.Sh.l6.Pv(x:l6):PV:=.agg x.Pc
abbrev _root_.Go.Sh.s7.Pc(x:s7):List PV:=[.L b9.Pv x.x.S.S.a8,.I x.x.S.S.Last,.I x.x.S.Serial,.L iF x.x.Roots,.L g6.Pv x.x.a8,.L c5.Pv x.x.T,.L k9.Pv x.x.Q.L,.I x.x.Q.Cap,.I x.o.Kind,.I x.o.A,.I x.o.B,.I x.o.C]
abbrev _root_.Go.Sh.s7.Pv(x:s7):PV:=.agg x.Pc
abbrev _root_.Go.Sh.I7.Pc(x:I7):List PV:=[.I x.r,.I x.h]
abbrev _root_.Go.Sh.I7.Pv(x:I7):PV:=.agg x.Pc
abbrev _root_.Go.Sh.H4.Pc(x:H4):List PV:=[.I x.h,.I x.k,.I x.v]
abbrev _root_.Go.Sh.H4.Pv(x:H4):PV:=.agg x.Pc
abbrev _root_.Go.Sh.I6.Pc(x:I6):List PV:=[.L c5.Pv x.t]
abbrev _root_.Go.Sh.I6.Pv(x:I6):PV:=.agg x.Pc
abbrev _root_.Go.Sh.o0.Pc(x:o0):List PV:=[.I x.Key,.I x.Val]
abbrev _root_.Go.Sh.o0.Pv(x:o0):PV:=.agg x.Pc
abbrev _root_.Go.Sh.l5.Pc(x:l5):List PV:=[.L iF x.L,.I x.Cap]
abbrev _root_.Go.Sh.l5.Pv(x:l5):PV:=.agg x.Pc
abbrev _root_.Go.Sh.C6.Pc(x:C6):List PV:=[.I x.Serial,.I x.Strong,.I x.Weak,.I x.Prog,.bool x.Started,.L iF x.Fields]
abbrev _root_.Go.Sh.C6.Pv(x:C6):PV:=.agg x.Pc
abbrev _root_.Go.Sh.n8.Pc(x:n8):List PV:=[.I x.State,.I x.Gen,.I x.Val.Serial,.I x.Val.Strong,.I x.Val.Weak,.I x.Val.Prog,.bool x.Val.Started,.L iF x.Val.Fields]
abbrev _root_.Go.Sh.n8.Pv(x:n8):PV:=.agg x.Pc
abbrev _root_.Go.Sh.m8.Pc(x:m8):List PV:=[.I x.Target,.bool x.Intact,.I x.Call]
abbrev _root_.Go.Sh.m8.Pv(x:m8):PV:=.agg x.Pc
abbrev _root_.Go.Sh.g9.Pc(x:g9):List PV:=[.I x.State,.I x.Key,.I x.Val]
abbrev _root_.Go.Sh.g9.Pv(x:g9):PV:=.agg x.Pc
abbrev _root_.Go.Sh.o6.Pc(x:o6):List PV:=[.I x.Kind,.I x.At,.I x.Prog]
abbrev _root_.Go.Sh.o6.Pv(x:o6):PV:=.agg x.Pc
abbrev _root_.Go.Sh.r8.Pc(x:r8):List PV:=[.I x.Kind,.I x.A,.I x.B,.I x.C]
abbrev _root_.Go.Sh.r8.Pv(x:r8):PV:=.agg x.Pc
abbrev _root_.Go.Sh.k8.Pc(x:k8):List PV:=[.L n8.Pv x.a8,.I x.Last,.I x.Serial]
abbrev _root_.Go.Sh.k8.Pv(x:k8):PV:=.agg x.Pc
abbrev _root_.Go.Sh.w7.Pc(x:w7):List PV:=[.L o6.Pv x.L,.I x.Cap]
abbrev _root_.Go.Sh.w7.Pv(x:w7):PV:=.agg x.Pc
abbrev _root_.Go.Sh.c7.Pc(x:c7):List PV:=[.L n8.Pv x.S.a8,.I x.S.Last,.I x.S.Serial,.L iF x.Roots,.L m8.Pv x.a8,.L g9.Pv x.T,.L o6.Pv x.Q.L,.I x.Q.Cap]
abbrev _root_.Go.Sh.c7.Pv(x:c7):PV:=.agg x.Pc
abbrev _root_.Go.Sh.w8.Pc(x:w8):List PV:=[.L n8.Pv x.X.S.a8,.I x.X.S.Last,.I x.X.S.Serial,.L iF x.X.Roots,.L m8.Pv x.X.a8,.L g9.Pv x.X.T,.L o6.Pv x.X.Q.L,.I x.X.Q.Cap,.L (Ls r8.Pv) x.Progs]
abbrev _root_.Go.Sh.w8.Pv(x:w8):PV:=.agg x.Pc
abbrev _root_.Go.Sh.p7.Pc(x:p7):List PV:=[.I x.V,.I x.E]
abbrev _root_.Go.Sh.p7.Pv(x:p7):PV:=.agg x.Pc
abbrev _root_.Go.Sh.x4.Pc(x:x4):List PV:=[.I x.State,.I x.Gen,.I x.Val]
abbrev _root_.Go.Sh.x4.Pv(x:x4):PV:=.agg x.Pc
abbrev _root_.Go.Sh.y7.Pc(x:y7):List PV:=[.L x4.Pv x.a8,.I x.Last]
abbrev _root_.Go.Sh.y7.Pv(x:y7):PV:=.agg x.Pc
abbrev _root_.Go.Sh.B9.Pc(x:B9):List PV:=[.I x.Key,.I x.Val]
abbrev _root_.Go.Sh.B9.Pv(x:B9):PV:=.agg x.Pc
def b0y(t:Nat):Nat:=if t=132 then 4 else if t=136 then 0 else if t=140 then 1 else 0
theorem C5:G3 Tryz.prog 3=some false:=by kernel_rfl
theorem b05:G3 Tryz.prog 4=some false:=by kernel_rfl
theorem d2q:G3 Tryz.prog 25=some false:=by kernel_rfl
theorem a3B:G3 Tryz.prog 27=some true:=by kernel_rfl
theorem a6W:G3 Tryz.prog 29=some true:=by kernel_rfl
theorem a8k:G3 Tryz.prog 30=some false:=by kernel_rfl
theorem c6n:G3 Tryz.prog 31=some false:=by kernel_rfl
theorem b4L:G3 Tryz.prog 32=some false:=by kernel_rfl
theorem d2r:G3 Tryz.prog 33=some false:=by kernel_rfl
theorem a5O:G3 Tryz.prog 35=some true:=by kernel_rfl
theorem u9:G3 Tryz.prog 37=some true:=by kernel_rfl
theorem a3C:G3 Tryz.prog 39=some true:=by kernel_rfl
theorem b0x:G3 Tryz.prog 40=some false:=by kernel_rfl
theorem a8l:G3 Tryz.prog 43=some false:=by kernel_rfl
theorem a0l:G3 Tryz.prog 45=some true:=by kernel_rfl
theorem c6o:G3 Tryz.prog 46=some false:=by kernel_rfl
theorem c6p:G3 Tryz.prog 47=some false:=by kernel_rfl
theorem b7H:G3 Tryz.prog 48=some false:=by kernel_rfl
theorem a8m:G3 Tryz.prog 50=some true:=by kernel_rfl
theorem A6:G3 Tryz.prog 52=some true:=by kernel_rfl
theorem b2I:G3 Tryz.prog 55=some true:=by kernel_rfl
theorem a5P:G3 Tryz.prog 66=some true:=by kernel_rfl
theorem b7I:G3 Tryz.prog 69=some true:=by kernel_rfl
theorem c6q:G3 Tryz.prog 73=some true:=by kernel_rfl
theorem b4M:G3 Tryz.prog 96=some true:=by kernel_rfl
theorem b7G:G3 Tryz.prog 104=some true:=by kernel_rfl
theorem b4b:G3 Tryz.prog 110=some true:=by kernel_rfl
theorem b04:G3 Tryz.prog 150=some true:=by kernel_rfl
theorem c9e:G3 Tryz.prog 152=some false:=by kernel_rfl
theorem a3V:G3 Tryz.prog 154=some true:=by kernel_rfl
theorem a5c:G3 Tryz.prog 187=some true:=by kernel_rfl
theorem a1X:G3 Tryz.prog 191=some true:=by kernel_rfl
theorem a3W:G3 Tryz.prog 251=some true:=by kernel_rfl
theorem c3u:G3 Tryz.prog 331=some false:=by kernel_rfl
theorem a9k:G3 Tryz.prog 430=some true:=by kernel_rfl
theorem F9:G9 Tryz.prog 3=some 8:=by kernel_rfl
theorem d2s:G9 Tryz.prog 66=some 16:=by kernel_rfl
theorem c6r:G9 Tryz.prog 69=some 16:=by kernel_rfl
theorem b7J:G9 Tryz.prog 101=some 80:=by kernel_rfl
theorem c9f:G9 Tryz.prog 104=some 32:=by kernel_rfl
theorem c9g:G9 Tryz.prog 113=some 24:=by kernel_rfl
theorem c3v:G9 Tryz.prog 180=some 80:=by kernel_rfl
theorem b7K:G9 Tryz.prog 183=some 24:=by kernel_rfl
theorem c3w:G9 Tryz.prog 185=some 24:=by kernel_rfl
theorem b7L:G9 Tryz.prog 187=some 24:=by kernel_rfl
theorem c3x:G9 Tryz.prog 189=some 24:=by kernel_rfl
theorem c3y:G9 Tryz.prog 190=some 24:=by kernel_rfl
theorem c9h:G9 Tryz.prog 191=some 24:=by kernel_rfl
theorem c3z:G9 Tryz.prog 221=some 24:=by kernel_rfl
theorem c9i:G9 Tryz.prog 238=some 16:=by kernel_rfl
theorem c3A:G9 Tryz.prog 445=some 16:=by kernel_rfl
theorem a3D:A9 Tryz.prog 22=some 109:=by kernel_rfl
theorem N3:A9 Tryz.prog 25=some 180:=by kernel_rfl
theorem g7:A9 Tryz.prog 30=some 3:=by kernel_rfl
theorem R7:A9 Tryz.prog 31=some 189:=by kernel_rfl
theorem Z2:A9 Tryz.prog 32=some 190:=by kernel_rfl
theorem a4u:A9 Tryz.prog 33=some 191:=by kernel_rfl
theorem H6:A9 Tryz.prog 43=some 101:=by kernel_rfl
theorem P1:A9 Tryz.prog 46=some 183:=by kernel_rfl
theorem R8:A9 Tryz.prog 47=some 185:=by kernel_rfl
theorem R9:A9 Tryz.prog 48=some 187:=by kernel_rfl
theorem b4N:A9 Tryz.prog 53=some 113:=by kernel_rfl
theorem a8n:A9 Tryz.prog 82=some 30:=by kernel_rfl
theorem a2D:A9 Tryz.prog 84=some 66:=by kernel_rfl
theorem a4v:A9 Tryz.prog 87=some 69:=by kernel_rfl
theorem a21:A9 Tryz.prog 109=some 110:=by kernel_rfl
theorem a9l:A9 Tryz.prog 113=some 104:=by kernel_rfl
theorem Q7:A9 Tryz.prog 152=some 221:=by kernel_rfl
theorem a23:A9 Tryz.prog 235=some 238:=by kernel_rfl
theorem a0I:A9 Tryz.prog 245=some 251:=by kernel_rfl
theorem a6X:A9 Tryz.prog 443=some 445:=by kernel_rfl
theorem c6s:I3 Tryz.prog 27 0=some (0,25):=by kernel_rfl
theorem c6t:I3 Tryz.prog 35 0=some (0,33):=by kernel_rfl
theorem b4O:I3 Tryz.prog 37 1=some (3,30):=by kernel_rfl
theorem b9V:I3 Tryz.prog 37 2=some (4,31):=by kernel_rfl
theorem c6u:I3 Tryz.prog 37 3=some (5,32):=by kernel_rfl
theorem b9W:I3 Tryz.prog 37 4=some (6,35):=by kernel_rfl
theorem b9X:I3 Tryz.prog 39 0=some (0,37):=by kernel_rfl
theorem a3i:I3 Tryz.prog 45 0=some (0,43):=by kernel_rfl
theorem b9Y:I3 Tryz.prog 45 2=some (2,3):=by kernel_rfl
theorem b4P:I3 Tryz.prog 50 0=some (0,48):=by kernel_rfl
theorem b9Z:I3 Tryz.prog 52 1=some (3,30):=by kernel_rfl
theorem b90:I3 Tryz.prog 52 2=some (4,46):=by kernel_rfl
theorem b91:I3 Tryz.prog 52 3=some (5,47):=by kernel_rfl
theorem b4Q:I3 Tryz.prog 52 4=some (6,50):=by kernel_rfl
theorem c6v:I3 Tryz.prog 55 0=some (0,52):=by kernel_rfl
theorem a8o:I3 Tryz.prog 66 0=some (0,3):=by kernel_rfl
theorem b92:I3 Tryz.prog 66 1=some (1,40):=by kernel_rfl
theorem b93:I3 Tryz.prog 96 0=some (0,3):=by kernel_rfl
theorem b94:I3 Tryz.prog 96 1=some (1,3):=by kernel_rfl
theorem b4R:I3 Tryz.prog 96 2=some (2,3):=by kernel_rfl
theorem b4S:I3 Tryz.prog 96 3=some (3,3):=by kernel_rfl
theorem b4T:I3 Tryz.prog 96 4=some (4,4):=by kernel_rfl
theorem b95:I3 Tryz.prog 96 5=some (5,30):=by kernel_rfl
theorem b6H:I3 Tryz.prog 101 1=some (1,3):=by kernel_rfl
theorem a9m:I3 Tryz.prog 101 2=some (2,96):=by kernel_rfl
theorem c41:I3 Tryz.prog 104 0=some (0,3):=by kernel_rfl
theorem c42:I3 Tryz.prog 104 2=some (2,3):=by kernel_rfl
theorem c43:I3 Tryz.prog 110 0=some (0,3):=by kernel_rfl
theorem c44:I3 Tryz.prog 150 1=some (1,3):=by kernel_rfl
theorem c45:I3 Tryz.prog 150 2=some (2,3):=by kernel_rfl
theorem b6I:I3 Tryz.prog 150 4=some (4,4):=by kernel_rfl
theorem c46:I3 Tryz.prog 154 0=some (0,152):=by kernel_rfl
theorem b6J:I3 Tryz.prog 180 0=some (0,3):=by kernel_rfl
theorem c47:I3 Tryz.prog 180 2=some (2,150):=by kernel_rfl
theorem c48:I3 Tryz.prog 183 0=some (0,3):=by kernel_rfl
theorem c49:I3 Tryz.prog 183 1=some (1,4):=by kernel_rfl
theorem c5a:I3 Tryz.prog 185 1=some (1,3):=by kernel_rfl
theorem c5b:I3 Tryz.prog 187 1=some (1,3):=by kernel_rfl
theorem b6K:I3 Tryz.prog 189 0=some (0,3):=by kernel_rfl
theorem c5c:I3 Tryz.prog 189 1=some (1,4):=by kernel_rfl
theorem c5d:I3 Tryz.prog 190 1=some (1,3):=by kernel_rfl
theorem b6L:I3 Tryz.prog 221 0=some (0,3):=by kernel_rfl
theorem c5e:I3 Tryz.prog 238 0=some (0,3):=by kernel_rfl
theorem c5f:I3 Tryz.prog 238 1=some (1,3):=by kernel_rfl
theorem c5g:I3 Tryz.prog 251 2=some (2,3):=by kernel_rfl
theorem c5h:I3 Tryz.prog 445 0=some (0,3):=by kernel_rfl
theorem b6M:I3 Tryz.prog 445 1=some (1,3):=by kernel_rfl
theorem d2t:C1 Tryz.prog 70:=kC Tryz.func70 J
theorem c9j:C1 Tryz.prog 109:=kC Tryz.func109 J
theorem c9k:C1 Tryz.prog 123:=kC Tryz.func123 J
theorem c9l:C1 Tryz.prog 124:=kC Tryz.func124 J
theorem c3B:C1 Tryz.prog 172:=kC Tryz.func172 J
theorem c9m:C1 Tryz.prog 178:=kC Tryz.func178 J
theorem c9n:C1 Tryz.prog 303:=kC Tryz.func303 J
theorem c9o:C1 Tryz.prog 310:=kC Tryz.func310 J
theorem c9p:C1 Tryz.prog 320:=kC Tryz.func320 J
theorem c9q:C1 Tryz.prog 331:=kC Tryz.func331 J
theorem c9r:C1 Tryz.prog 332:=kC Tryz.func332 J
theorem c9s:C1 Tryz.prog 361:=kC Tryz.func361 J
theorem c9t:C1 Tryz.prog 363:=kC Tryz.func363 J
theorem c3C:C1 Tryz.prog 364:=kC Tryz.func364 J
theorem c3D:C1 Tryz.prog 367:=kC Tryz.func367 J
theorem c9u:C1 Tryz.prog 387:=kC Tryz.func387 J
theorem c3E:C1 Tryz.prog 388:=kC Tryz.func388 J
theorem a0m:b2v Tryz.prog 196=some (3,194):=by kernel_rfl
theorem b4U:b2v Tryz.prog 222=some (3,3):=by kernel_rfl
theorem U5:b2v Tryz.prog 247=some (3,245):=by kernel_rfl
theorem a3j:b2v Tryz.prog 331=some (3,4):=by kernel_rfl
theorem c6w:B1 Tryz.prog 27=some (λi=>(#[(0,1),(1,1)]:Array (Nat × Nat))[i]?):=by kernel_rfl
theorem c6x:B1 Tryz.prog 29=some (λi=>(#[(0,2),(2,1)]:Array (Nat × Nat))[i]?):=by kernel_rfl
theorem d2u:B1 Tryz.prog 35=some (λi=>(#[(0,1),(1,1)]:Array (Nat × Nat))[i]?):=by kernel_rfl
theorem c6y:B1 Tryz.prog 37=some (λi=>(#[(0,3),(3,1),(4,1),(5,1),(6,2)]:Array (Nat × Nat))[i]?):=by kernel_rfl
theorem c1Y:B1 Tryz.prog 39=some (λi=>(#[(0,8),(8,1)]:Array (Nat × Nat))[i]?):=by kernel_rfl
theorem c1Z:B1 Tryz.prog 45=some (λi=>(#[(0,1),(1,1),(2,1)]:Array (Nat × Nat))[i]?):=by kernel_rfl
theorem c10:B1 Tryz.prog 50=some (λi=>(#[(0,1),(1,1)]:Array (Nat × Nat))[i]?):=by kernel_rfl
theorem d2v:B1 Tryz.prog 52=some (λi=>(#[(0,3),(3,1),(4,1),(5,1),(6,2)]:Array (Nat × Nat))[i]?):=by kernel_rfl
theorem b7P:B1 Tryz.prog 55=some (λi=>(#[(0,8),(8,1)]:Array (Nat × Nat))[i]?):=by kernel_rfl
theorem c6z:B1 Tryz.prog 66=some (λi=>(#[(0,1),(1,1)]:Array (Nat × Nat))[i]?):=by kernel_rfl
theorem b7Q:B1 Tryz.prog 69=some (λi=>(#[(0,1),(1,1)]:Array (Nat × Nat))[i]?):=by kernel_rfl
theorem d2w:B1 Tryz.prog 73=some (λi=>some (i*1,1)):=by kernel_rfl
theorem b7R:B1 Tryz.prog 96=some (λi=>(#[(0,1),(1,1),(2,1),(3,1),(4,1),(5,1)]:Array (Nat × Nat))[i]?):=by kernel_rfl
theorem c3F:B1 Tryz.prog 101=some (λi=>(#[(0,1),(1,1),(2,6)]:Array (Nat × Nat))[i]?):=by kernel_rfl
theorem b7M:B1 Tryz.prog 104=some (λi=>(#[(0,1),(1,1),(2,1),(3,1)]:Array (Nat × Nat))[i]?):=by kernel_rfl
theorem b4c:B1 Tryz.prog 110=some (λi=>(#[(0,1),(1,1),(2,1),(3,1)]:Array (Nat × Nat))[i]?):=by kernel_rfl
theorem c9v:B1 Tryz.prog 132=some (λi=>(#[(0,4)]:Array (Nat × Nat))[i]?):=by kernel_rfl
theorem c9w:B1 Tryz.prog 136=some (λi=>(#[]:Array (Nat × Nat))[i]?):=by kernel_rfl
theorem c9x:B1 Tryz.prog 140=some (λi=>(#[(0,1)]:Array (Nat × Nat))[i]?):=by kernel_rfl
theorem c9y:B1 Tryz.prog 150=some (λi=>(#[(0,1),(1,1),(2,1),(3,1),(4,1),(5,1)]:Array (Nat × Nat))[i]?):=by kernel_rfl
theorem c3G:B1 Tryz.prog 154=some (λi=>(#[(0,1),(1,1)]:Array (Nat × Nat))[i]?):=by kernel_rfl
theorem b4d:B1 Tryz.prog 180=some (λi=>(#[(0,1),(1,1),(2,6)]:Array (Nat × Nat))[i]?):=by kernel_rfl
theorem c9z:B1 Tryz.prog 183=some (λi=>(#[(0,1),(1,1),(2,1)]:Array (Nat × Nat))[i]?):=by kernel_rfl
theorem b7N:B1 Tryz.prog 185=some (λi=>(#[(0,1),(1,1),(2,1)]:Array (Nat × Nat))[i]?):=by kernel_rfl
theorem b4e:B1 Tryz.prog 187=some (λi=>(#[(0,1),(1,1),(2,1)]:Array (Nat × Nat))[i]?):=by kernel_rfl
theorem c9A:B1 Tryz.prog 189=some (λi=>(#[(0,1),(1,1),(2,1)]:Array (Nat × Nat))[i]?):=by kernel_rfl
theorem c3H:B1 Tryz.prog 190=some (λi=>(#[(0,1),(1,1),(2,1)]:Array (Nat × Nat))[i]?):=by kernel_rfl
theorem b7O:B1 Tryz.prog 191=some (λi=>(#[(0,1),(1,1),(2,1)]:Array (Nat × Nat))[i]?):=by kernel_rfl
theorem c9B:B1 Tryz.prog 200=some (λi=>(#[(0,8),(8,4)]:Array (Nat × Nat))[i]?):=by kernel_rfl
theorem b06:B1 Tryz.prog 221=some (λi=>(#[(0,1),(1,1),(2,1)]:Array (Nat × Nat))[i]?):=by kernel_rfl
theorem c9C:B1 Tryz.prog 238=some (λi=>(#[(0,1),(1,1)]:Array (Nat × Nat))[i]?):=by kernel_rfl
theorem a1Y:B1 Tryz.prog 251=some (λi=>(#[(0,1),(1,1),(2,1),(3,1)]:Array (Nat × Nat))[i]?):=by kernel_rfl
theorem c9D:B1 Tryz.prog 374=some (λi=>(#[(0,1),(1,1),(2,1)]:Array (Nat × Nat))[i]?):=by kernel_rfl
theorem c9E:B1 Tryz.prog 382=some (λi=>(#[(0,1)]:Array (Nat × Nat))[i]?):=by kernel_rfl
theorem c9F:B1 Tryz.prog 398=some (λi=>(#[(0,1)]:Array (Nat × Nat))[i]?):=by kernel_rfl
theorem c9G:B1 Tryz.prog 400=some (λi=>(#[(0,1),(1,1)]:Array (Nat × Nat))[i]?):=by kernel_rfl
theorem c9H:B1 Tryz.prog 430=some (λi=>(#[(0,1),(1,1)]:Array (Nat × Nat))[i]?):=by kernel_rfl
theorem c3I:B1 Tryz.prog 445=some (λi=>(#[(0,1),(1,1)]:Array (Nat × Nat))[i]?):=by kernel_rfl
theorem d2x:a3H Tryz.prog 66=some [1,1]:=by kernel_rfl
theorem d2y:a3H Tryz.prog 69=some [1,1]:=by kernel_rfl
theorem d2z:a3H Tryz.prog 73=some [1,1,1,1]:=by kernel_rfl
theorem c3J:b0M Tryz.prog 132=true:=by kernel_rfl
theorem c3K:b0M Tryz.prog 136=true:=by kernel_rfl
theorem c3L:b0M Tryz.prog 140=true:=by kernel_rfl
theorem c9I:a3H Tryz.prog 183=some [1,0,1]:=by kernel_rfl
theorem c9J:a3H Tryz.prog 185=some [1,1,1]:=by kernel_rfl
theorem c9K:a3H Tryz.prog 187=some [1,1,1]:=by kernel_rfl
theorem c6A:c3e Tryz.prog 73=some (4,3):=by kernel_rfl
theorem m7:r7 Tryz.prog 3=some 1:=by kernel_rfl
theorem d5j:r7 Tryz.prog 4=some 1:=by kernel_rfl
theorem a10:r7 Tryz.prog 27=some 2:=by kernel_rfl
theorem a6Y:r7 Tryz.prog 29=some 3:=by kernel_rfl
theorem a8p:r7 Tryz.prog 30=some 1:=by kernel_rfl
theorem c6B:r7 Tryz.prog 33=some 1:=by kernel_rfl
theorem a11:r7 Tryz.prog 35=some 2:=by kernel_rfl
theorem p9:r7 Tryz.prog 37=some 8:=by kernel_rfl
theorem Z3:r7 Tryz.prog 39=some 9:=by kernel_rfl
theorem Z4:r7 Tryz.prog 45=some 3:=by kernel_rfl
theorem a4w:r7 Tryz.prog 50=some 2:=by kernel_rfl
theorem u5:r7 Tryz.prog 52=some 8:=by kernel_rfl
theorem a8q:r7 Tryz.prog 55=some 9:=by kernel_rfl
theorem N4:r7 Tryz.prog 66=some 2:=by kernel_rfl
theorem a2E:r7 Tryz.prog 69=some 2:=by kernel_rfl
theorem c6C:r7 Tryz.prog 73=some 4:=by kernel_rfl
theorem a6Z:r7 Tryz.prog 96=some 6:=by kernel_rfl
theorem H2:r7 Tryz.prog 101=some 8:=by kernel_rfl
theorem a5d:r7 Tryz.prog 104=some 4:=by kernel_rfl
theorem a9n:r7 Tryz.prog 109=some 1:=by kernel_rfl
theorem a3X:r7 Tryz.prog 110=some 4:=by kernel_rfl
theorem b4f:r7 Tryz.prog 113=some 1:=by kernel_rfl
theorem c9L:r7 Tryz.prog 136=some 0:=by kernel_rfl
theorem a5e:r7 Tryz.prog 150=some 6:=by kernel_rfl
theorem c9M:r7 Tryz.prog 152=some 1:=by kernel_rfl
theorem a1Z:r7 Tryz.prog 154=some 2:=by kernel_rfl
theorem Q0:r7 Tryz.prog 180=some 8:=by kernel_rfl
theorem Q1:r7 Tryz.prog 183=some 3:=by kernel_rfl
theorem T9:r7 Tryz.prog 185=some 3:=by kernel_rfl
theorem H3:r7 Tryz.prog 187=some 3:=by kernel_rfl
theorem W4:r7 Tryz.prog 189=some 3:=by kernel_rfl
theorem a0J:r7 Tryz.prog 190=some 3:=by kernel_rfl
theorem K8:r7 Tryz.prog 191=some 3:=by kernel_rfl
theorem U0:r7 Tryz.prog 221=some 3:=by kernel_rfl
theorem a5f:r7 Tryz.prog 238=some 2:=by kernel_rfl
theorem K9:r7 Tryz.prog 251=some 4:=by kernel_rfl
theorem a5g:r7 Tryz.prog 430=some 2:=by kernel_rfl
theorem b07:r7 Tryz.prog 445=some 2:=by kernel_rfl
theorem L7:Tryz.prog.underlying 3=some (.int .i64):=by kernel_rfl
theorem d1z:Tryz.prog.underlying 4=some (.bool):=by kernel_rfl
theorem y6:y8 Tryz.prog 3=some ((.I 0)):=by kernel_rfl
theorem b96:y8 Tryz.prog 4=some ((.bool false)):=by kernel_rfl
theorem c6D:y8 Tryz.prog 27=some ((.agg #[(.slice none 0 0),(.I 0)])):=by kernel_rfl
theorem c6E:y8 Tryz.prog 29=some ((.agg #[(.slice none 0 0),(.I 0),(.I 0)])):=by kernel_rfl
theorem d2A:y8 Tryz.prog 30=some ((.slice none 0 0)):=by kernel_rfl
theorem d2B:y8 Tryz.prog 35=some ((.agg #[(.slice none 0 0),(.I 0)])):=by kernel_rfl
theorem c6F:y8 Tryz.prog 37=some ((.agg #[(.slice none 0 0),(.I 0),(.I 0),(.slice none 0 0),(.slice none 0 0),(.slice none 0 0),(.slice none 0 0),(.I 0)])):=by kernel_rfl
theorem c11:y8 Tryz.prog 39=some ((.agg #[(.slice none 0 0),(.I 0),(.I 0),(.slice none 0 0),(.slice none 0 0),(.slice none 0 0),(.slice none 0 0),(.I 0),(.slice none 0 0)])):=by kernel_rfl
theorem c12:y8 Tryz.prog 45=some ((.agg #[(.slice none 0 0),(.I 0),(.I 0)])):=by kernel_rfl
theorem c13:y8 Tryz.prog 50=some ((.agg #[(.slice none 0 0),(.I 0)])):=by kernel_rfl
theorem d2C:y8 Tryz.prog 52=some ((.agg #[(.slice none 0 0),(.I 0),(.I 0),(.slice none 0 0),(.slice none 0 0),(.slice none 0 0),(.slice none 0 0),(.I 0)])):=by kernel_rfl
theorem b7U:y8 Tryz.prog 55=some ((.agg #[(.slice none 0 0),(.I 0),(.I 0),(.slice none 0 0),(.slice none 0 0),(.slice none 0 0),(.slice none 0 0),(.I 0),(.slice none 0 0)])):=by kernel_rfl
theorem b7V:y8 Tryz.prog 66=some ((.agg #[(.I 0),(.I 0)])):=by kernel_rfl
theorem a8r:y8 Tryz.prog 69=some ((.agg #[(.I 0),(.I 0)])):=by kernel_rfl
theorem d2D:y8 Tryz.prog 73=some ((.agg #[(.I 0),(.I 0),(.I 0),(.I 0)])):=by kernel_rfl
theorem b7W:y8 Tryz.prog 96=some ((.agg #[(.I 0),(.I 0),(.I 0),(.I 0),(.bool false),(.slice none 0 0)])):=by kernel_rfl
theorem a60:y8 Tryz.prog 101=some ((.agg #[(.I 0),(.I 0),(.I 0),(.I 0),(.I 0),(.I 0),(.bool false),(.slice none 0 0)])):=by kernel_rfl
theorem b08:y8 Tryz.prog 104=some ((.agg #[(.I 0),(.I 0),(.I 0),(.I 0)])):=by kernel_rfl
theorem c9N:y8 Tryz.prog 109=some ((.slice none 0 0)):=by kernel_rfl
theorem b09:y8 Tryz.prog 110=some ((.agg #[(.I 0),(.I 0),(.I 0),(.I 0)])):=by kernel_rfl
theorem c3M:y8 Tryz.prog 113=some ((.slice none 0 0)):=by kernel_rfl
theorem c3N:y8 Tryz.prog 132=some ((.agg #[(.I 0),(.I 0),(.I 0),(.I 0)])):=by kernel_rfl
theorem c3O:y8 Tryz.prog 136=some ((.agg #[])):=by kernel_rfl
theorem c3P:y8 Tryz.prog 140=some ((.agg #[(.I 0)])):=by kernel_rfl
theorem c9O:y8 Tryz.prog 150=some ((.agg #[(.I 0),(.I 0),(.I 0),(.I 0),(.bool false),(.slice none 0 0)])):=by kernel_rfl
theorem c3Q:y8 Tryz.prog 154=some ((.agg #[(.slice none 0 0),(.I 0)])):=by kernel_rfl
theorem a9o:y8 Tryz.prog 180=some ((.agg #[(.I 0),(.I 0),(.I 0),(.I 0),(.I 0),(.I 0),(.bool false),(.slice none 0 0)])):=by kernel_rfl
theorem a9p:y8 Tryz.prog 183=some ((.agg #[(.I 0),(.bool false),(.I 0)])):=by kernel_rfl
theorem a9q:y8 Tryz.prog 185=some ((.agg #[(.I 0),(.I 0),(.I 0)])):=by kernel_rfl
theorem a3Y:y8 Tryz.prog 187=some ((.agg #[(.I 0),(.I 0),(.I 0)])):=by kernel_rfl
theorem b7S:y8 Tryz.prog 189=some ((.agg #[(.I 0),(.bool false),(.I 0)])):=by kernel_rfl
theorem b4g:y8 Tryz.prog 190=some ((.agg #[(.I 0),(.I 0),(.I 0)])):=by kernel_rfl
theorem b1a:y8 Tryz.prog 191=some ((.agg #[(.I 0),(.I 0),(.I 0)])):=by kernel_rfl
theorem c9P:y8 Tryz.prog 194=some (.nilFunc):=by kernel_rfl
theorem c9Q:y8 Tryz.prog 200=some ((.agg #[(.slice none 0 0),(.I 0),(.I 0),(.slice none 0 0),(.slice none 0 0),(.slice none 0 0),(.slice none 0 0),(.I 0),(.I 0),(.I 0),(.I 0),(.I 0)])):=by kernel_rfl
theorem a5h:y8 Tryz.prog 221=some ((.agg #[(.I 0),(.I 0),(.I 0)])):=by kernel_rfl
theorem b7T:y8 Tryz.prog 238=some ((.agg #[(.I 0),(.I 0)])):=by kernel_rfl
theorem c9R:y8 Tryz.prog 245=some ((.slice none 0 0)):=by kernel_rfl
theorem J9:y8 Tryz.prog 251=some ((.agg #[.nilFunc,(.I 0),(.I 0),(.I 0)])):=by kernel_rfl
theorem c9S:y8 Tryz.prog 374=some ((.agg #[(.I 0),(.I 0),(.I 0)])):=by kernel_rfl
theorem c9T:y8 Tryz.prog 382=some ((.agg #[(.slice none 0 0)])):=by kernel_rfl
theorem c9U:y8 Tryz.prog 398=some ((.agg #[.nilFunc])):=by kernel_rfl
theorem c9V:y8 Tryz.prog 400=some ((.agg #[(.I 0),(.I 0)])):=by kernel_rfl
theorem c9W:y8 Tryz.prog 430=some ((.agg #[(.slice none 0 0),(.I 0)])):=by kernel_rfl
theorem a9r:y8 Tryz.prog 445=some ((.agg #[(.I 0),(.I 0)])):=by kernel_rfl
theorem o9:Tryz.prog.follows .mixedOrders=true:=by kernel_rfl
def tb:TB:=⟨[((27,0),(0,25)),((27,1),(1,3)),((29,0),(0,27)),((29,1),(2,3)),((35,0),(0,33)),((35,1),(1,3)),((37,0),(0,29)),((37,1),(3,30)),((37,2),(4,31)),((37,3),(5,32)),((37,4),(6,35)),((39,0),(0,37)),((39,1),(8,22)),((45,0),(0,43)),((45,1),(1,3)),((45,2),(2,3)),((50,0),(0,48)),((50,1),(1,3)),((52,0),(0,45)),((52,1),(3,30)),((52,2),(4,46)),((52,3),(5,47)),((52,4),(6,50)),((55,0),(0,52)),((55,1),(8,53)),((66,0),(0,3)),((66,1),(1,40)),((96,0),(0,3)),((96,1),(1,3)),((96,2),(2,3)),((96,3),(3,3)),((96,4),(4,4)),((96,5),(5,30)),((101,0),(0,3)),((101,1),(1,3)),((101,2),(2,96)),((104,0),(0,3)),((104,1),(1,3)),((104,2),(2,3)),((104,3),(3,3)),((110,0),(0,3)),((110,1),(1,3)),((110,2),(2,3)),((110,3),(3,3)),((132,0),(0,110)),((140,0),(0,3)),((150,0),(0,3)),((150,1),(1,3)),((150,2),(2,3)),((150,3),(3,3)),((150,4),(4,4)),((150,5),(5,30)),((154,0),(0,152)),((154,1),(1,3)),((180,0),(0,3)),((180,1),(1,3)),((180,2),(2,150)),((183,0),(0,3)),((183,1),(1,4)),((183,2),(2,3)),((185,0),(0,3)),((185,1),(1,3)),((185,2),(2,3)),((187,0),(0,3)),((187,1),(1,3)),((187,2),(2,3)),((189,0),(0,3)),((189,1),(1,4)),((189,2),(2,3)),((190,0),(0,3)),((190,1),(1,3)),((190,2),(2,3)),((191,0),(0,3)),((191,1),(1,3)),((191,2),(2,3)),((200,0),(0,37)),((200,1),(8,110)),((221,0),(0,3)),((221,1),(1,3)),((221,2),(2,3)),((238,0),(0,3)),((238,1),(1,3)),((251,0),(0,249)),((251,1),(1,3)),((251,3),(3,40)),((374,0),(0,3)),((374,1),(1,3)),((374,2),(2,3)),((382,0),(0,32)),((398,0),(0,396)),((400,0),(0,3)),((400,1),(1,3)),((430,0),(0,30)),((430,1),(1,3)),((445,0),(0,3)),((445,1),(1,3))],[(3,false),(4,false),(22,false),(25,false),(27,true),(29,true),(30,false),(31,false),(32,false),(33,false),(35,true),(37,true),(39,true),(40,false),(43,false),(45,true),(46,false),(47,false),(48,false),(50,true),(52,true),(53,false),(55,true),(66,true),(69,true),(73,true),(96,true),(104,true),(109,false),(110,true),(113,false),(150,true),(152,false),(154,true),(180,true),(183,true),(185,true),(187,true),(189,true),(190,true),(191,true),(200,true),(221,true),(222,false),(249,false),(251,true),(331,false),(396,false),(398,true),(430,true),(443,false),(445,true),(453,false)],[(3,1),(4,1),(25,1),(27,2),(29,3),(30,1),(31,1),(32,1),(35,2),(37,8),(39,9),(40,1),(45,3),(46,1),(47,1),(50,2),(52,8),(55,9),(66,2),(69,2),(73,4),(96,6),(104,4),(110,4),(132,4),(140,1),(150,6),(154,2),(180,8),(183,3),(185,3),(187,3),(189,3),(190,3),(191,3),(200,12),(221,3),(222,1),(251,4),(331,1),(398,1),(430,2),(443,1),(445,2)],[(3,.I 0),(4,.bool false),(27,.agg [.lst true (List.map b9.Pv []),.I 0]),(29,.agg [.lst true (List.map b9.Pv []),.I 0,.I 0]),(30,.lst true (List.map iF [])),(32,.lst true (List.map c5.Pv [])),(35,.agg [.lst true (List.map k9.Pv []),.I 0]),(37,.agg [.lst true (List.map b9.Pv []),.I 0,.I 0,.lst true (List.map iF []),.lst true (List.map g6.Pv []),.lst true (List.map c5.Pv []),.lst true (List.map k9.Pv []),.I 0]),(39,.agg [.lst true (List.map b9.Pv []),.I 0,.I 0,.lst true (List.map iF []),.lst true (List.map g6.Pv []),.lst true (List.map c5.Pv []),.lst true (List.map k9.Pv []),.I 0,.lst true (List.map (Ls g8.Pv) [])]),(40,.I 0),(45,.agg [.lst true (List.map n8.Pv []),.I 0,.I 0]),(50,.agg [.lst true (List.map o6.Pv []),.I 0]),(52,.agg [.lst true (List.map n8.Pv []),.I 0,.I 0,.lst true (List.map iF []),.lst true (List.map m8.Pv []),.lst true (List.map g9.Pv []),.lst true (List.map o6.Pv []),.I 0]),(55,.agg [.lst true (List.map n8.Pv []),.I 0,.I 0,.lst true (List.map iF []),.lst true (List.map m8.Pv []),.lst true (List.map g9.Pv []),.lst true (List.map o6.Pv []),.I 0,.lst true (List.map (Ls r8.Pv) [])]),(66,.agg [.I 0,.I 0]),(69,.agg [.I 0,.I 0]),(73,.agg [.I 0,.I 0,.I 0,.I 0]),(96,.agg [.I 0,.I 0,.I 0,.I 0,.bool false,.lst true (List.map iF [])]),(104,.agg [.I 0,.I 0,.I 0,.I 0]),(110,.agg [.I 0,.I 0,.I 0,.I 0]),(132,.agg [.I 0,.I 0,.I 0,.I 0]),(136,.agg []),(140,.agg [.I 0]),(150,.agg [.I 0,.I 0,.I 0,.I 0,.bool false,.lst true (List.map iF [])]),(154,.agg [.lst true (List.map x4.Pv []),.I 0]),(180,.agg [.I 0,.I 0,.I 0,.I 0,.I 0,.I 0,.bool false,.lst true (List.map iF [])]),(183,.agg [.I 0,.bool false,.I 0]),(187,.agg [.I 0,.I 0,.I 0]),(189,.agg [.I 0,.bool false,.I 0]),(190,.agg [.I 0,.I 0,.I 0]),(191,.agg [.I 0,.I 0,.I 0]),(221,.agg [.I 0,.I 0,.I 0]),(222,.abs c1V),(251,.agg [.nilfn,.I 0,.I 0,.I 0]),(331,.abs c1V),(398,.agg [.nilfn]),(430,.agg [.lst true (List.map iF []),.I 0]),(443,.lst true (List.map o0.Pv [])),(445,.agg [.I 0,.I 0])]⟩
theorem Tb:TB.Ok Tryz.prog tb:=⟨by kernel_rfl,by kernel_rfl,by kernel_rfl,by kernel_rfl⟩
section
variable{X:Ctx}{ops:Array Oper}{K:Ctx→St→Prop}{i n:Nat}{l l':List Oper}{env env':Nat→PV}{σ σ':Nat→Option Row}{Q:PX→Ctx→St→Prop}{y:Code}{KD:St→Prop}{bar:List Nat}
theorem S1(n:Nat)(h:run tb n l env σ=some (l',env',σ'))(k:Sq X ops (i+n) l' K ⟨env',σ'⟩)(hb:TB.Ok X.P tb:=by exact Tb):Sq X ops i l K ⟨env,σ⟩:=seg hb n h k
theorem S2(n:Nat)(h:run tb n l env σ=some ([],env',σ'))(k:K X ⟨env',σ'⟩)(hb:TB.Ok X.P tb:=by exact Tb):Sq X ops i l K ⟨env,σ⟩:=seg hb n h (yN k)
theorem S3{id:Nat}(n:Nat)(h:run tb n l env σ=some (l',env',σ'))(k:Sq X l.toArray (0+n) l' (λX' s=>W2 X' y Q s) ⟨env',σ'⟩)(hd:a3m X.N l.toArray=true:=by kernel_rfl)(hb:TB.Ok X.P tb:=by exact Tb):W2 X (.seq (.region id l.toArray false) y) Q ⟨env,σ⟩:=sr hd (seg hb n h k)
theorem S4{id:Nat}(n:Nat)(h:run tb n l env σ=some ([],env',σ'))(k:W2 X y Q ⟨env',σ'⟩)(hd:a3m X.N l.toArray=true:=by kernel_rfl)(hb:TB.Ok X.P tb:=by exact Tb):W2 X (.seq (.region id l.toArray false) y) Q ⟨env,σ⟩:=sr hd (seg hb n h (yN k))
theorem S5{id:Nat}(n:Nat)(h:run tb n l env σ=some (l',env',σ'))(k:Sq X l.toArray (0+n) l' (Q .normal) ⟨env',σ'⟩)(hd:a3m X.N l.toArray=true:=by kernel_rfl)(hb:TB.Ok X.P tb:=by exact Tb):W2 X (.region id l.toArray false) Q ⟨env,σ⟩:=sr1 hd (seg hb n h k)
theorem S6{id:Nat}(n:Nat)(h:run tb n l env σ=some ([],env',σ'))(k:Q .normal X ⟨env',σ'⟩)(hd:a3m X.N l.toArray=true:=by kernel_rfl)(hb:TB.Ok X.P tb:=by exact Tb):W2 X (.region id l.toArray false) Q ⟨env,σ⟩:=sr1 hd (seg hb n h (yN k))
theorem S7(n:Nat)(h:d05 tb bar n i l env σ=some (l',env',σ'))(k:Ex X.P ops bar true (i+n) l' ⟨env',σ'⟩ KD)(hb:TB.Ok X.P tb:=by exact Tb):Ex X.P ops bar true i l ⟨env,σ⟩ KD:=dG hb n h k
theorem S8(n:Nat)(h:d05 tb bar n i l env σ=some ([],env',σ'))(k:KD ⟨env',σ'⟩)(hb:TB.Ok X.P tb:=by exact Tb):Ex X.P ops bar true i l ⟨env,σ⟩ KD:=dG hb n h k
end
theorem d4F:b7F Tryz.prog (Tryz.sortF_ren.f 6):=c59 Tryz.sortF
theorem d1e:b4a Tryz.prog (Tryz.sortI_ren.f 5):=c3c Tryz.sortI
theorem c1I{a0}:PO Tryz.prog 10 [.L (Ls g8.Pv) a0] (a9j a0) λr=>.bool r:=by
 refine pO Tryz.func10 λr h _ _=>?_;refine S4 1 J ?_;refine jq h (λ_=>St.of [(0,.L (Ls g8.Pv) a0)] []) (λq6 h=>?_) λκ5 h=>?_
 ·refine S3 1 J ?_;refine nL J a3D<|S2 2 J<|b6 ?_;cases h;exact f1
 ·refine S4 1 J ?_;refine c9<|lq h (λs8=>St.of [(0,.L (Ls g8.Pv) a0),(3,.I s8)] []) W λs8 x9 h hx8=>c8<|S3 2 J<|nL J a3D<|S1 2 J<|l4 J (λhg=>mI J)<|l4 J (λhg=>y5 (ct hg) J J)<|y0 J (z7 J J J (λq=>eqT q))<|yN ?_;refine cN h (λhc h=>?_) λhc h=>?_
  ·refine b8 ?_;refine c8<|c9<|S3 2 J<|iL h J J a3D a9n λv10 _ h=>S1 1 J<|nL J a21<|S2 1 J ?_;refine cN h (λhc h=>?_) λhc h=>?_
   ·refine S4 1 J ?_;refine b6 ?_;have h:=xL hx8 h;cases h;exact f1
   ·refine b8 ?_;refine S6 3 J ?_;exact eL h W
  ·refine o5 ?_;refine c4<|c4<|k7 ?_;have h:=xL hx8 h;exact eJ h W

theorem b9D{a0 a1}:PO Tryz.prog 31 [.L (Ls iF) a0,.I a1] (a2Z a0 a1) λr=>.bool r:=by
 refine pO Tryz.func31 λr h _ _=>?_;refine S4 1 J ?_;refine jq h (λ_=>St.of [(0,.L (Ls iF) a0),(1,.I a1)] []) (λq6 h=>?_) λκ5 h=>?_
 ·refine S3 1 J ?_;refine nL J a8n<|S2 3 J<|b6 ?_;cases h;exact f1
 ·refine S4 1 J ?_;refine c9<|lq h (λs8=>St.of [(0,.L (Ls iF) a0),(1,.I a1),(5,.I s8)] []) W λs8 x9 h hx8=>c8<|S3 2 J<|nL J a8n<|S1 2 J<|l4 J (λhg=>mI J)<|l4 J (λhg=>y5 (ct hg) J J)<|y0 J (z7 J J J (λq=>eqT q))<|yN ?_;refine cN h (λhc h=>?_) λhc h=>?_
  ·refine b8 ?_;refine c8<|c9<|S3 2 J<|iL h J J a8n a8p λv10 _ h=>S1 1 J<|nL J g7<|S2 1 J ?_;refine cN h (λhc h=>?_) λhc h=>?_
   ·refine S4 1 J ?_;refine b6 ?_;have h:=xL hx8 h;cases h;exact f1
   ·refine b8 ?_;refine S6 3 J ?_;exact eL h W
  ·refine o5 ?_;refine c4<|c4<|k7 ?_;have h:=xL hx8 h;exact eJ h W

theorem b6l{a0}:PO Tryz.prog 88 [g8.Pv a0] (a2F a0) λr=>.bool r:=by
 refine pO Tryz.func88 λr h _ _=>?_;unfold a2F at h;refine S4 2 J<|S3 4 J<|l4 J (λhg=>oF J c43 J)<|l4 J (λhg=>oS (ct hg) J J C5 J)<|l4 J (λhg=>y5 (ct hg) J J)<|y0 J (z7 J J J (λq=>eqT q))<|S2 1 J<|b6 ?_;cases h;exact f1

theorem B2:PO Tryz.prog 232 [.fn (.func 233) []] (Z8) λr=>j5.Pv r:=by
 refine pO Tryz.func232 λr h _ _=>?_;unfold Z8 at h;refine S4 1 J<|S3 1 J<|y0 J (o8 (cs:=[.fn (.func 233) [],.I 0,.I 5,.I 6]) J a1Y J9 J J J)<|T7 (a8b 4 (d':=.agg [fvE (some 233),.I 0,.I 5,.I 6]) J)<|S2 1 J<|b6 ?_;cases h;exact⟨J,[_],⟨oL J J J a3W K9 nl J,tr⟩,J,io⟩

theorem a0d:PO Tryz.prog 235 [.fn (.func 236) []] (S9) λr=>j5.Pv r:=by
 refine pO Tryz.func235 λr h _ _=>?_;unfold S9 at h;refine S4 1 J<|S3 1 J<|y0 J (o8 (cs:=[.fn (.func 236) [],.I (-1),.I 5,.I 13]) J a1Y J9 J J J)<|T7 (a8b 4 (d':=.agg [fvE (some 236),.I (-1),.I 5,.I 13]) J)<|S2 1 J<|b6 ?_;cases h;exact⟨J,[_],⟨oL J J J a3W K9 nl J,tr⟩,J,io⟩

theorem E6{a0}:PO Tryz.prog 231 [.L j5.Pv a0] (J6 a0) λr=>.L j5.Pv r:=by
 refine pO Tryz.func231 λr h _ _=>?_;unfold J6 at h;refine S4 1 J<|S4 2 J<|b6 ?_;cases h;exact f1

theorem L1:PO Tryz.prog 232 [.fn (.func 234) []] (Z9) λr=>j5.Pv r:=by
 refine pO Tryz.func232 λr h _ _=>?_;unfold Z9 at h;refine S4 1 J<|S3 1 J<|y0 J (o8 (cs:=[.fn (.func 234) [],.I 0,.I 5,.I 6]) J a1Y J9 J J J)<|T7 (a8b 4 (d':=.agg [fvE (some 234),.I 0,.I 5,.I 6]) J)<|S2 1 J<|b6 ?_;cases h;exact⟨J,[_],⟨oL J J J a3W K9 nl J,tr⟩,J,io⟩

theorem a49:PO Tryz.prog 237 [.fn (.func 236) []] (W6) λr=>j5.Pv r:=by
 refine pO Tryz.func237 λr h _ _=>?_;unfold W6 at h;refine S4 1 J<|S3 1 J<|y0 J (o8 (cs:=[.fn (.func 236) [],.I 0,.I 3,.I 5]) J a1Y J9 J J J)<|T7 (a8b 4 (d':=.agg [fvE (some 236),.I 0,.I 3,.I 5]) J)<|S2 1 J<|b6 ?_;cases h;exact⟨J,[_],⟨oL J J J a3W K9 nl J,tr⟩,J,io⟩

theorem a48:PO Tryz.prog 237 [.fn (.func 234) []] (W5) λr=>j5.Pv r:=by
 refine pO Tryz.func237 λr h _ _=>?_;unfold W5 at h;refine S4 1 J<|S3 1 J<|y0 J (o8 (cs:=[.fn (.func 234) [],.I 0,.I 3,.I 5]) J a1Y J9 J J J)<|T7 (a8b 4 (d':=.agg [fvE (some 234),.I 0,.I 3,.I 5]) J)<|S2 1 J<|b6 ?_;cases h;exact⟨J,[_],⟨oL J J J a3W K9 nl J,tr⟩,J,io⟩

theorem a2G:PO Tryz.prog 238 [.fn (.func 236) []] (O4) λr=>j5.Pv r:=by
 refine pO Tryz.func238 λr h _ _=>?_;unfold O4 at h;refine S4 1 J<|S3 1 J<|y0 J (o8 (cs:=[.fn (.func 236) [],.I (-1),.I 5,.I 6]) J a1Y J9 J J J)<|T7 (a8b 4 (d':=.agg [fvE (some 236),.I (-1),.I 5,.I 6]) J)<|S2 1 J<|b6 ?_;cases h;exact⟨J,[_],⟨oL J J J a3W K9 nl J,tr⟩,J,io⟩

theorem a5S:PO Tryz.prog 239 [.fn (.func 233) []] (Z6) λr=>j5.Pv r:=by
 refine pO Tryz.func239 λr h _ _=>?_;unfold Z6 at h;refine S4 1 J<|S3 1 J<|y0 J (o8 (cs:=[.fn (.func 233) [],.I 0,.I 5,.I 7]) J a1Y J9 J J J)<|T7 (a8b 4 (d':=.agg [fvE (some 233),.I 0,.I 5,.I 7]) J)<|S2 1 J<|b6 ?_;cases h;exact⟨J,[_],⟨oL J J J a3W K9 nl J,tr⟩,J,io⟩

theorem U6:PO Tryz.prog 238 [.fn (.func 234) []] (O3) λr=>j5.Pv r:=by
 refine pO Tryz.func238 λr h _ _=>?_;unfold O3 at h;refine S4 1 J<|S3 1 J<|y0 J (o8 (cs:=[.fn (.func 234) [],.I (-1),.I 5,.I 6]) J a1Y J9 J J J)<|T7 (a8b 4 (d':=.agg [fvE (some 234),.I (-1),.I 5,.I 6]) J)<|S2 1 J<|b6 ?_;cases h;exact⟨J,[_],⟨oL J J J a3W K9 nl J,tr⟩,J,io⟩

theorem a5T:PO Tryz.prog 239 [.fn (.func 234) []] (Z7) λr=>j5.Pv r:=by
 refine pO Tryz.func239 λr h _ _=>?_;unfold Z7 at h;refine S4 1 J<|S3 1 J<|y0 J (o8 (cs:=[.fn (.func 234) [],.I 0,.I 5,.I 7]) J a1Y J9 J J J)<|T7 (a8b 4 (d':=.agg [fvE (some 234),.I 0,.I 5,.I 7]) J)<|S2 1 J<|b6 ?_;cases h;exact⟨J,[_],⟨oL J J J a3W K9 nl J,tr⟩,J,io⟩

theorem b3W:PO Tryz.prog 147 [] (a65) λr=>.abs (X5 (List.map (ent iF (Ls j5.Pv)) r)):=by
 refine pO Tryz.func147 λr h _ _=>?_;refine S4 1 J<|sR<|c1Q (KT:=Int) (VT:=List j5) (EK:=iF) (E:=(Ls j5.Pv)) 5000001 J J<|cF h B2 J J λv1 hv1 h=>y0 J (o8 (cs:=[.fn (.func 234) [],.I 0,.I 4,.I 1]) J a1Y J9 J J J)<|T7 (a8b 3 (d':=.agg [fvE (some 234),.I 0,.I 4,.I 1]) J)<|cF h a0d J J λv2 hv2 h=>y0 J (G1 (f:=j5.Pv) (l:=[v1,(⟨(some 234),0,4,1⟩:j5),v2]) J a0I K9 J9 J J nl J J)<|cF h E6 J J λv3 _ h=>a09 (es:=[]) (k:=1) (v:=v3) (E:=(Ls j5.Pv)) (EK:=iF) (.inr J) J J J J J J U5 (B3 L7)<|yc J (u6 J B2 J hv1)<|cF h L1 J J λv4 hv4 h=>y0 J (G1 (f:=j5.Pv) (l:=[v1,v4]) J a0I K9 J9 J J nl J J)<|cF h E6 J J λv5 hv5 h=>a09 (es:=(s6 [] 1 v3)) (k:=2) (v:=v5) (E:=(Ls j5.Pv)) (EK:=iF) (.inr J) J J J J J J U5 (B3 L7)<|yc J (u6 J B2 J hv1)<|y0 J (G1 (f:=j5.Pv) (l:=[v1]) J a0I K9 J9 J J nl J J)<|cF h E6 J J λv6 _ h=>a09 (es:=(s6 (s6 [] 1 v3) 2 v5)) (k:=3) (v:=v6) (E:=(Ls j5.Pv)) (EK:=iF) (.inr J) J J J J J J U5 (B3 L7)<|yc J (u6 J B2 J hv1)<|yc J (u6 J L1 J hv4)<|cF h a49 J J λv7 _ h=>y0 J (G1 (f:=j5.Pv) (l:=[v1,v4,v7]) J a0I K9 J9 J J nl J J)<|cF h E6 J J λv8 _ h=>a09 (es:=(s6 (s6 (s6 [] 1 v3) 2 v5) 3 v6)) (k:=4) (v:=v8) (E:=(Ls j5.Pv)) (EK:=iF) (.inr J) J J J J J J U5 (B3 L7)<|yc J (u6 J B2 J hv1)<|cF h a48 J J λv9 _ h=>cF h a2G J J λv10 _ h=>y0 J (G1 (f:=j5.Pv) (l:=[v1,v9,v10]) J a0I K9 J9 J J nl J J)<|cF h E6 J J λv11 _ h=>?_;refine a09 (es:=(s6 (s6 (s6 (s6 [] 1 v3) 2 v5) 3 v6) 4 v8)) (k:=5) (v:=v11) (E:=(Ls j5.Pv)) (EK:=iF) (.inr J) J J J J J J U5 (B3 L7)<|cF h a5S J J λv12 _ h=>cF h U6 J J λv13 hv13 h=>yc J (u6 J a0d J hv2)<|y0 J (G1 (f:=j5.Pv) (l:=[v12,v13,v2]) J a0I K9 J9 J J nl J J)<|cF h E6 J J λv14 _ h=>a09 (es:=(s6 (s6 (s6 (s6 (s6 [] 1 v3) 2 v5) 3 v6) 4 v8) 5 v11)) (k:=6) (v:=v14) (E:=(Ls j5.Pv)) (EK:=iF) (.inr J) J J J J J J U5 (B3 L7)<|yc J (u6 J B2 J hv1)<|cF h a5T J J λv15 _ h=>y0 J (G1 (f:=j5.Pv) (l:=[v1,v15]) J a0I K9 J9 J J nl J J)<|cF h E6 J J λv16 _ h=>a09 (es:=(s6 (s6 (s6 (s6 (s6 (s6 [] 1 v3) 2 v5) 3 v6) 4 v8) 5 v11) 6 v14)) (k:=7) (v:=v16) (E:=(Ls j5.Pv)) (EK:=iF) (.inr J) J J J J J J U5 (B3 L7)<|yc J (u6 J B2 J hv1)<|yc J (u6 J U6 J hv13)<|y0 J (G1 (f:=j5.Pv) (l:=[v1,v13]) J a0I K9 J9 J J nl J J)<|cF h E6 J J λv17 _ h=>a09 (es:=(s6 (s6 (s6 (s6 (s6 (s6 (s6 [] 1 v3) 2 v5) 3 v6) 4 v8) 5 v11) 6 v14) 7 v16)) (k:=8) (v:=v17) (E:=(Ls j5.Pv)) (EK:=iF) (.inr J) J J J J J J U5 (B3 L7)<|yc J (u6 J B2 J hv1)<|yc J (u6 J L1 J hv4)<|y0 J (G1 (f:=j5.Pv) (l:=[v1,v4]) J a0I K9 J9 J J nl J J)<|yc J (u6 J E6 J hv5)<|a09 (es:=(s6 (s6 (s6 (s6 (s6 (s6 (s6 (s6 [] 1 v3) 2 v5) 3 v6) 4 v8) 5 v11) 6 v14) 7 v16) 8 v17)) (k:=9) (v:=v5) (E:=(Ls j5.Pv)) (EK:=iF) (.inr J) J J J J J J U5 (B3 L7)<|yc J (u6 J B2 J hv1)<|yc J (u6 J L1 J hv4)<|y0 J (G1 (f:=j5.Pv) (l:=[v1,v4]) J a0I K9 J9 J J nl J J)<|yc J (u6 J E6 J hv5)<|a09 (es:=(s6 (s6 (s6 (s6 (s6 (s6 (s6 (s6 (s6 [] 1 v3) 2 v5) 3 v6) 4 v8) 5 v11) 6 v14) 7 v16) 8 v17) 9 v5)) (k:=10) (v:=v5) (E:=(Ls j5.Pv)) (EK:=iF) (.inr J) J J J J J J U5 (B3 L7)<|cF h E6 J J λv18 _ h=>a09 (es:=(s6 (s6 (s6 (s6 (s6 (s6 (s6 (s6 (s6 (s6 [] 1 v3) 2 v5) 3 v6) 4 v8) 5 v11) 6 v14) 7 v16) 8 v17) 9 v5) 10 v5)) (k:=11) (v:=v18) (E:=(Ls j5.Pv)) (EK:=iF) (.inr J) J J J J J J U5 (B3 L7)<|y0 J (o8 (cs:=[.fn (.func 233) [],.I 0,.I 200,.I 12]) J a1Y J9 J J J) ?_;refine T7 (a8b 46 (d':=.agg [fvE (some 233),.I 0,.I 200,.I 12]) J)<|y0 J (G1 (f:=j5.Pv) (l:=[(⟨(some 233),0,200,12⟩:j5)]) J a0I K9 J9 J J nl J J)<|cF h E6 J J λv19 _ h=>a09 (es:=(s6 (s6 (s6 (s6 (s6 (s6 (s6 (s6 (s6 (s6 (s6 [] 1 v3) 2 v5) 3 v6) 4 v8) 5 v11) 6 v14) 7 v16) 8 v17) 9 v5) 10 v5) 11 v18)) (k:=12) (v:=v19) (E:=(Ls j5.Pv)) (EK:=iF) (.inr J) J J J J J J U5 (B3 L7)<|S2 2 J<|a3v (c3p 0 5000001 J J)<|b6 ?_;cases h;exact f1

theorem b0e{a0}:PO Tryz.prog 233 [g8.Pv a0] (b0D a0) λr=>.I r:=by
 refine pO Tryz.func233 λr h _ _=>?_;unfold b0D at h;refine S4 2 J<|S4 3 J<|b6 ?_;cases h;exact f1

theorem b0f{a0}:PO Tryz.prog 234 [g8.Pv a0] (b0E a0) λr=>.I r:=by
 refine pO Tryz.func234 λr h _ _=>?_;unfold b0E at h;refine S4 2 J<|S4 3 J<|b6 ?_;cases h;exact f1

theorem b0g{a0}:PO Tryz.prog 236 [g8.Pv a0] (b0F a0) λr=>.I r:=by
 refine pO Tryz.func236 λr h _ _=>?_;unfold b0F at h;refine S4 2 J<|S4 3 J<|b6 ?_;cases h;exact f1

theorem c2l{f:Fv}{a0:g8}{r:Int}(h:b1p f a0=some r):∃n,f=some n∧C1 Tryz.prog n∧Z1 Tryz.prog n [g8.Pv a0] (.I r):=by
 unfold b1p at h;by_cases e233:f=some 233
 ·rw[if_pos e233] at h;exact⟨233,e233,(@b0e a0).1,(@b0e a0).2 _ h⟩
 rw[if_neg e233] at h;by_cases e234:f=some 234
 ·rw[if_pos e234] at h;exact⟨234,e234,(@b0f a0).1,(@b0f a0).2 _ h⟩
 rw[if_neg e234] at h;by_cases e236:f=some 236
 ·rw[if_pos e236] at h;exact⟨236,e236,(@b0g a0).1,(@b0g a0).2 _ h⟩
 rw[if_neg e236] at h;cases h

theorem a5R{a0}:PO Tryz.prog 89 [g8.Pv a0] (S0 a0) λr=>.I r:=by
 refine pO Tryz.func89 λr h _ _=>?_;unfold S0 at h;refine S4 2 J<|dr [] o9 (by kernel_rfl) (by kernel_rfl)<|r9 h λv1 hv1 h=>d2f J (u6 J b3W J hv1) J<|S7 2 J<|d4 J (c0E (es:=v1) (k:=a0.Kind) (E:=(Ls j5.Pv)) (EK:=iF) (d:=.tup [.L j5.Pv ((C0 v1 a0.Kind).getD ([]:List j5)),.bool ((C0 v1 a0.Kind).isSome)]) J J U5 (B3 L7) c9R J (lk2 _ _ ([]:List j5))) J<|S8 5 J<|c8<|S4 2 J ?_
 refine cN h (λhc h=>?_) λhc h=>?_
 ·refine S4 1 J ?_;refine b6 ?_;cases h;exact f1
 ·refine b8 ?_;refine jq h (λ_=>St.of [] []) (λq9 h=>?_) λκ8 h=>?_
  ·refine S4 1 J ?_;refine b6 ?_;cases h;exact f1
  ·refine S3 1 J ?_;refine nL J a0I<|S2 1 J<|c9<|lq h (λs11=>St.of [(1,.ptr 1 0 0),(17,.L j5.Pv ((C0 v1 a0.Kind).getD ([]:List j5))),(18,.I (((C0 v1 a0.Kind).getD ([]:List j5)).length:Int)),(19,.I s11)] [(1,vR (g8.Pv a0) 4)]) W λs11 x12 h hx13=>S4 1 J<|c8 ?_;refine cN h (λhc h=>?_) λhc h=>?_
   ·refine b8 ?_;refine c8<|c9<|sR<|iL h J J a0I K9 λv13 _ h=>S2 3 J<|S3 3 J ?_;obtain⟨v14,hv15,h⟩:=a8s h;obtain⟨n15,he16,hk17,hp18⟩:=c2l hv15;refine T7 (d2l 24 J he16)<|y0 J (c2z J hk17 J hp18)<|S2 1 J<|S3 5 J<|l4 J (λhg=>mI J)<|l4 J (λhg=>oF J c5g J)<|l4 J (λhg=>oS (ct hg) J J C5 J)<|l4 J (λhg=>y5 (ct hg) (ct hg) J)<|y0 J (C7 J J J (λq=>eqF q))<|yN ?_;refine cN h (λhc h=>?_) λhc h=>?_
    ·refine S4 3 J ?_;refine b6 ?_;have h:=xL hx13 h;cases h;exact f1
    ·refine b8 ?_;refine S6 2 J ?_;exact eL h W
   ·refine o5 ?_;refine c4<|c4<|k7 ?_;have h:=xL hx13 h;exact eJ h W

theorem b6m{a0}:PO Tryz.prog 42 [.L (Ls g8.Pv) a0] (a4x a0) λr=>.bool r:=by
 refine pO Tryz.func42 λr h _ _=>?_;refine S4 1 J<|c8<|S3 1 J<|nL J a3D<|S2 1 J ?_;refine cN h (λhc h=>?_) λhc h=>?_
 ·refine S4 1 J ?_;refine b6 ?_;cases h;exact f1
 ·refine b8 ?_;refine jq h (λ_=>St.of [] []) (λq21 h=>?_) λκ20 h=>?_
  ·refine S4 1 J ?_;refine b6 ?_;cases h;exact f1
  ·refine S3 1 J ?_;refine nL J a3D<|S2 1 J<|c9<|lq h (λs23=>St.of [(10,.L (Ls g8.Pv) a0),(11,.I (a0.length:Int)),(12,.I s23)] []) W λs23 x24 h hx22=>S4 1 J<|c8 ?_;refine cN h (λhc h=>?_) λhc h=>?_
   ·refine b8 ?_;refine jq h (λ_=>St.of [(10,.L (Ls g8.Pv) a0),(11,.I (a0.length:Int)),(12,.I s23)] []) (λq33 h=>?_) λκ32 h=>?_
    ·refine S6 2 J ?_;exact eL h W
    ·refine c9 ?_;refine sR<|iL h J J a3D a9n λv34 _ h=>S2 2 J<|c8<|S3 1 J<|nL J a21<|S2 1 J ?_;refine cN h (λhc h=>?_) λhc h=>?_
     ·refine S4 1 J ?_;refine b6 ?_;have h:=xL hx22 h;cases h;exact f1
     ·refine b8 ?_;refine S3 1 J<|nL J a21<|S2 1 J<|c9<|lq h (λs36=>St.of [(10,.L (Ls g8.Pv) a0),(11,.I (a0.length:Int)),(12,.I s23),(19,.L g8.Pv v34),(20,.I (v34.length:Int)),(21,.I s36)] []) W λs36 x37 h hx34=>S4 1 J<|c8 ?_;refine cN h (λhc h=>?_) λhc h=>?_
      ·refine b8 ?_;refine c8<|c9<|sR<|iL h J J a21 a3X λv38 _ h=>S2 3 J<|S3 1 J<|cA h b6l J J λv39 _ h=>S1 2 J<|l4 J (λhg=>oL J J J b4b a3X nl J)<|r9 h λv40 hv37 h=>l4 J (λhg=>D4 J a5R (D8 (ct hg) J) (G8 hv37 hg))<|l4 J (λhg=>y5 (ct hg) J J)<|y0 J (C7 J J J (λq=>eqF q))<|yN ?_;refine cN h (λhc h=>?_) λhc h=>?_
       ·refine S4 1 J ?_;refine b6 ?_;have h:=xL hx34 h;have h:=xL hx22 h;cases h;exact f1
       ·refine b8 ?_;refine S6 2 J ?_;exact eL h W
      ·refine o5 ?_;refine c4<|c4<|k7 ?_;have h:=xL hx34 h;exact eJ h W
   ·refine o5 ?_;refine c4<|c4<|k7 ?_;have h:=xL hx22 h;exact eJ h W

theorem a8g{a0 a1}:PO Tryz.prog 148 [.I a0,.I a1] (P7 a0 a1) λr=>e6.Pv r:=by
 refine pO Tryz.func148 λr h _ _=>?_;refine S4 1 J<|c8<|S3 3 J<|l4 J (λhg=>mI J)<|l4 J (λhg=>y5 (ct hg) J J)<|y0 J (C7 J J J (λq=>eqF q))<|S1 1 J<|l4 J (λhg=>mI J)<|l4 J (λhg=>y5 (ct hg) J J)<|y0 J (C7 J J J (λq=>eqF q))<|S1 1 J<|l4 J (λhg=>mI J)<|l4 J (λhg=>y5 (ct hg) J J)<|y0 J (C7 J J J (λq=>eqF q))<|yN ?_;refine cN h (λhc h=>?_) λhc h=>?_
 ·refine sR ?_;refine y0 J (o8 (cs:=[.nl,.I 0]) J c6w c6D J J J)<|a44 (x':=.agg [.nl,.I 0]) (cl':=true) J J (.inl J) a10<|yN<|b6 ?_;cases h;exact⟨J,[_],⟨oL J J J a3B a10 nl J,tr⟩,J,io⟩
 ·refine b8 ?_;refine S3 1 J<|r9 h λv1 hv1 h=>y1 J (c0G (f:=b9.Pv) hv1 J J J N3 Q0 a9o c3v J J J) J<|S1 1 J<|y0 J (o8 (cs:=[.sl 21,.I a1]) J c6w c6D J J J)<|S2 1 J<|b6 ?_;cases h;exact⟨J,[_],⟨oL J J J a3B a10 nl J,tr⟩,J,io⟩

theorem b9r{a0 a1}:PO Tryz.prog 90 [.I a0,.I a1] (a1R a0 a1) λr=>a7.Pv r:=by
 refine pO Tryz.func90 λr h _ _=>?_;refine S4 1 J<|S3 2 J<|cF h a8g J J λv1 _ h=>y0 J (o8 (cs:=[.L b9.Pv v1.a8,.I v1.Last,.I 0]) J c6x c6E J J J)<|S2 1 J<|b6 ?_;cases h;exact⟨J,[_],⟨oL J J J a6W a6Y nl J,tr⟩,J,io⟩

theorem c1M{a0}:PO Tryz.prog 91 [.I a0] (c1L a0) λr=>.L g6.Pv r:=by
 refine pO Tryz.func91 λr h _ _=>?_;refine S4 1 J<|c8<|S3 3 J<|l4 J (λhg=>mI J)<|l4 J (λhg=>y5 (ct hg) J J)<|y0 J (C7 J J J (λq=>eqF q))<|yN ?_;refine cN h (λhc h=>?_) λhc h=>?_
 ·refine S4 1 J ?_;refine b6 ?_;cases h;exact f1
 ·refine b8 ?_;refine S3 1 J<|r9 h λv1 hv1 h=>y1 J (c0G (f:=g6.Pv) hv1 J J J R7 W4 b7S c3x J J J) J<|S2 1 J ?_;refine jq h (λj9=>St.of [(3,.sl 12)] [(12,⟨List.map g6.Pv j9,0,true,3,true⟩)]) (λj9 h=>?_) λκ8 h=>?_
  ·refine S4 2 J ?_;refine b6 ?_;cases h;exact f1
  ·refine S3 1 J ?_;refine y0 J (c0F (f:=g6.Pv) J J J R7)<|S2 1 J<|c9<|lq h (λq=>St.of [(3,.sl 12),(14,.I (v1.length:Int)),(15,.I q.1)] [(12,⟨List.map g6.Pv q.2,0,true,3,true⟩)]) W λq14 x13 h hx9=>?_;obtain⟨s11,s12⟩:=q14;refine S4 1 J<|c8 ?_;refine cN h (λhc h=>?_) λhc h=>?_
   ·refine b8 ?_;refine c8<|c9<|S4 2 J<|S5 2 J<|r9 h λv15 hv10 h=>y0 J (a0r (f:=g6.Pv) hv10 J J J J R7 W4 J)<|S1 1 J<|a43 (f:=g6.Pv) (v:=(⟨v15.Target,v15.Intact,(-1)⟩:g6)) hv10 J J (.inl J) m7<|yN<|S6 2 J ?_;exact eL h W
   ·refine o5 ?_;refine c4<|c4<|k7 ?_;have h:=xL hx9 h;exact eJ h W

theorem c0o{a0}:PO Tryz.prog 92 [.I a0] (b1x a0) λr=>.L c5.Pv r:=by
 refine pO Tryz.func92 λr h _ _=>?_;refine S4 1 J<|c8<|S3 3 J<|l4 J (λhg=>mI J)<|l4 J (λhg=>y5 (ct hg) J J)<|y0 J (C7 J J J (λq=>eqF q))<|yN ?_;refine cN h (λhc h=>?_) λhc h=>?_
 ·refine S4 1 J ?_;refine b6 ?_;cases h;exact f1
 ·refine b8 ?_;refine S3 1 J<|r9 h λv1 hv1 h=>y1 J (c0G (f:=c5.Pv) hv1 J J J Z2 a0J b4g c3y J J J) J<|S2 1 J<|b6 ?_;cases h;exact f1

theorem a7t{a0}:PO Tryz.prog 149 [.I a0] (a05 a0) λr=>g5.Pv r:=by
 refine pO Tryz.func149 λr h _ _=>?_;unfold a05 at h;refine S4 1 J<|S3 1 J<|y0 J (o8 (cs:=[.nl,.I a0]) J d2u d2B J J J)<|a44 (x':=.agg [.nl,.I a0]) (cl':=true) J J (.inl J) a11<|yN<|b6 ?_;cases h;exact⟨J,[_],⟨oL J J J a5O a11 nl J,tr⟩,J,io⟩

theorem c1z:PO Tryz.prog 93 [] (c1y) λr=>g5.Pv r:=by
 refine pO Tryz.func93 λr h _ _=>?_;refine S4 1 J<|sR<|cF h a7t J J λv1 _ h=>S2 1 J<|b6 ?_;cases h;exact⟨J,[_],⟨oL J J J a5O a11 nl J,tr⟩,J,io⟩

theorem c0q{a0 a1 a2}:PO Tryz.prog 43 [.I a0,.I a1,.I a2] (a17 a0 a1 a2) λr=>b7.Pv r:=by
 refine pO Tryz.func43 λr h _ _=>?_;refine S4 1 J<|c8<|S3 3 J<|l4 J (λhg=>mI J)<|l4 J (λhg=>y5 (ct hg) J J)<|y0 J (C7 J J J (λq=>eqF q))<|S1 1 J<|l4 J (λhg=>mI J)<|l4 J (λhg=>y5 (ct hg) J J)<|y0 J (C7 J J J (λq=>eqF q))<|S1 1 J<|l4 J (λhg=>mI J)<|l4 J (λhg=>y5 (ct hg) J J)<|y0 J (C7 J J J (λq=>eqF q))<|S1 1 J<|l4 J (λhg=>mI J)<|l4 J (λhg=>y5 (ct hg) J J)<|y0 J (C7 J J J (λq=>eqF q))<|S1 1 J<|l4 J (λhg=>mI J)<|l4 J (λhg=>y5 (ct hg) J J)<|y0 J (C7 J J J (λq=>eqF q))<|yN ?_;refine cN h (λhc h=>?_) λhc h=>?_
 ·refine sR ?_;refine y0 J (o8 (cs:=[.nl,.I 0,.I 0,.nl,.nl,.nl,.nl,.I 0]) J c6y c6F J J J)<|a44 (x':=.agg [.nl,.I 0,.I 0,.nl,.nl,.nl,.nl,.I 0]) (cl':=true) J J (.inl J) p9<|yN<|b6 ?_;cases h;exact⟨J,[_],⟨oL J J J u9 p9 nl J,tr⟩,J,io⟩
 ·refine b8 ?_;refine dr [] o9 (by kernel_rfl) (by kernel_rfl)<|S7 2 J<|r9 h λv1 hv1 h=>d2f J (u6 J b9r J hv1) J<|r9 h λv2 hv2 h=>d1 J (c0G (f:=iF) hv2 J J J g7 m7 y6 F9 J J J) J J J<|r9 h λv3 hv3 h=>d2f J (u6 J c1M J hv3) J<|S7 1 J<|r9 h λv4 hv4 h=>d2f J (u6 J c0o J hv4) J<|r9 h λv5 hv5 h=>d2f J (u6 J c1z J hv5) J<|d7 J (λ_ hN=>o8 (cs:=[.L b9.Pv v1.S.a8,.I v1.S.Last,.I v1.Serial,.sl 33,.L g6.Pv v3,.L c5.Pv v4,.L k9.Pv v5.L,.I v5.Cap]) J c6y c6F J J J) J<|A3 (x':=.agg [.L b9.Pv v1.S.a8,.I v1.S.Last,.I v1.Serial,.sl 33,.L g6.Pv v3,.L c5.Pv v4,.L k9.Pv v5.L,.I v5.Cap]) (cl':=false) J J (.inr J) p9<|G0<|b6 ?_
  cases h;exact⟨J,[_],⟨oL J J J u9 p9 nl J,tr⟩,J,io⟩

theorem a29{a0 a1 a2 a3}:PO Tryz.prog 12 [.I a0,.I a1,.I a2,.L (Ls g8.Pv) a3] (W7 a0 a1 a2 a3) λr=>.tup [p6.Pv r.1,.I r.2]:=by
 refine pO Tryz.func12 λr h _ _=>?_;refine S4 2 J<|c8<|S3 1 J<|cA h b6m J J λv1 _ h=>S2 1 J ?_;refine cN h (λhc h=>?_) λhc h=>?_
 ·refine sR ?_;refine y0 J (o8 (cs:=[.nl,.I 0,.I 0,.nl,.nl,.nl,.nl,.I 0,.nl]) J c1Y c11 J J J)<|a44 (x':=.agg [.nl,.I 0,.I 0,.nl,.nl,.nl,.nl,.I 0,.nl]) (cl':=true) J J (.inl J) Z3<|S2 1 J<|b6 ?_;cases h;exact⟨J,[_,_],⟨oL J J J a3C Z3 nl J,⟨J,tr⟩⟩,J,io⟩
 ·refine b8 ?_;refine S3 3 J<|cF h c0q J J λv2 _ h=>S2 2 J<|c8<|S3 2 J<|nL J g7<|S2 1 J ?_;refine cN h (λhc h=>?_) λhc h=>?_
  ·refine sR ?_;refine y0 J (o8 (cs:=[.nl,.I 0,.I 0,.nl,.nl,.nl,.nl,.I 0,.nl]) J c1Y c11 J J J)<|a44 (x':=.agg [.nl,.I 0,.I 0,.nl,.nl,.nl,.nl,.I 0,.nl]) (cl':=true) J J (.inl J) Z3<|S2 1 J<|b6 ?_;cases h;exact⟨J,[_,_],⟨oL J J J a3C Z3 nl J,⟨J,tr⟩⟩,J,io⟩
  ·refine b8 ?_;refine S3 2 J<|y0 J (o8 (cs:=[.L b9.Pv v2.S.S.a8,.I v2.S.S.Last,.I v2.S.Serial,.L iF v2.Roots,.L g6.Pv v2.a8,.L c5.Pv v2.T,.L k9.Pv v2.Q.L,.I v2.Q.Cap,.L (Ls g8.Pv) a3]) J c1Y c11 J J J)<|S2 2 J<|b6 ?_;cases h;exact⟨J,[_,_],⟨oL J J J a3C Z3 nl J,⟨J,tr⟩⟩,J,io⟩

theorem b4Y{a0}:PO Tryz.prog 57 [.L iF a0] (W3 a0) λr=>.tup [g8.Pv r.1,.I r.2]:=by
 refine pO Tryz.func57 λr h _ _=>?_;refine S4 2 J<|c8<|S3 1 J<|nL J g7<|S2 1 J ?_;refine cN h (λhc h=>?_) λhc h=>?_
 ·refine sR ?_;refine y0 J (o8 (cs:=[.I 0,.I 0,.I 0,.I 0]) J b4c b09 J J J)<|S2 2 J<|b6 ?_;cases h;exact⟨J,[_,_],⟨oL J J J b4b a3X nl J,⟨J,tr⟩⟩,J,io⟩
 ·refine b8 ?_;refine dr [] o9 (by kernel_rfl) (by kernel_rfl)<|S7 1 J<|r9 h λv1 hv1 h=>d0 J (u7 (f:=iF) (cs:=[.I v1]) hv1 J J g7 m7 J J) J<|S7 2 J<|r9 h λv2 hv2 h=>d0 J (u7 (f:=iF) (cs:=[.I v2]) hv2 J J g7 m7 J J) J<|S7 2 J<|r9 h λv3 hv3 h=>d0 J (u7 (f:=iF) (cs:=[.I v3]) hv3 J J g7 m7 J J) J<|S7 2 J<|r9 h λv4 hv4 h=>d0 J (u7 (f:=iF) (cs:=[.I v4]) hv4 J J g7 m7 J J) J<|S7 1 J<|d7 J (λ_ hN=>o8 (cs:=[.I v1,.I v2,.I v3,.I v4]) J b4c b09 J J J) J<|S7 1 J<|A3 (x':=.agg [.I v1,.I v2,.I v3,.I v4]) (cl':=true) J J (.inl J) a3X<|G0<|c8<|S3 1 J<|cA h a5R J J λv5 _ h=>S2 1 J<|S4 2 J ?_
  refine cN h (λhc h=>?_) λhc h=>?_
  ·refine sR ?_;refine y0 J (o8 (cs:=[.I 0,.I 0,.I 0,.I 0]) J b4c b09 J J J)<|S2 3 J<|b6 ?_;cases h;exact⟨J,[_,_],⟨oL J J J b4b a3X nl J,⟨J,tr⟩⟩,J,io⟩
  ·refine b8 ?_;refine S4 3 J<|b6 ?_;cases h;exact⟨J,[_,_],⟨oL J J J b4b a3X nl J,⟨J,tr⟩⟩,J,io⟩

theorem b30{a0}:PO Tryz.prog 58 [g8.Pv a0] (a69 a0) λr=>ifE b0y r:=by
 refine pO Tryz.func58 λr h _ _=>?_;refine S4 2 J<|c8<|S4 2 J<|c9<|S4 2 J ?_;refine cN h (λhc h=>?_) λhc h=>?_
 ·refine sR ?_;refine y0 J (o8 (cs:=[]) J c9w c3O J J J)<|y0 J (c2B (n:=b0y) (T:=136) (xs:=[]) J c3K J)<|S2 1 J<|b6 ?_;cases h;exact f1
 ·refine S4 2 J ?_;refine cN h (λhc h=>?_) λhc h=>?_
  ·refine S3 2 J ?_;refine y0 J (o8 (cs:=[.I a0.A]) J c9x c3P J J J)<|y0 J (c2B (n:=b0y) (T:=140) (xs:=[a0.A]) J c3L J)<|S2 1 J<|b6 ?_;cases h;exact f1
  ·refine b8 ?_;refine S3 1 J<|y0 J (o8 (cs:=[.I a0.Kind,.I a0.A,.I a0.B,.I a0.C]) J c9v c3N J J J)<|y0 J (c2B (n:=b0y) (T:=132) (xs:=[a0.Kind,a0.A,a0.B,a0.C]) J c3J J)<|S2 1 J<|b6 ?_;cases h;exact f1

theorem b2X:PO Tryz.prog 102 [] (a3d) λr=>.abs (X5 (List.map (ent iF fvE) r)):=by
 refine pO Tryz.func102 λr h _ _=>?_;unfold a3d at h;refine S4 1 J<|sR<|c1Q (KT:=Int) (VT:=Fv) (EK:=iF) (E:=fvE) 5000001 J J<|a56 (es:=[]) (k:=1) (v:=(some 151)) (E:=fvE) (EK:=iF) (.inr J) J J J J J J a0m (B3 L7)<|a56 (es:=(s6 [] 1 (some 151))) (k:=2) (v:=(some 152)) (E:=fvE) (EK:=iF) (.inr J) J J J J J J a0m (B3 L7)<|a56 (es:=(s6 (s6 [] 1 (some 151)) 2 (some 152))) (k:=3) (v:=(some 153)) (E:=fvE) (EK:=iF) (.inr J) J J J J J J a0m (B3 L7)<|a56 (es:=(s6 (s6 (s6 [] 1 (some 151)) 2 (some 152)) 3 (some 153))) (k:=4) (v:=(some 154)) (E:=fvE) (EK:=iF) (.inr J) J J J J J J a0m (B3 L7)<|a56 (es:=(s6 (s6 (s6 (s6 [] 1 (some 151)) 2 (some 152)) 3 (some 153)) 4 (some 154))) (k:=5) (v:=(some 155)) (E:=fvE) (EK:=iF) (.inr J) J J J J J J a0m (B3 L7)<|a56 (es:=(s6 (s6 (s6 (s6 (s6 [] 1 (some 151)) 2 (some 152)) 3 (some 153)) 4 (some 154)) 5 (some 155))) (k:=6) (v:=(some 156)) (E:=fvE) (EK:=iF) (.inr J) J J J J J J a0m (B3 L7)<|a56 (es:=(s6 (s6 (s6 (s6 (s6 (s6 [] 1 (some 151)) 2 (some 152)) 3 (some 153)) 4 (some 154)) 5 (some 155)) 6 (some 156))) (k:=7) (v:=(some 157)) (E:=fvE) (EK:=iF) (.inr J) J J J J J J a0m (B3 L7)<|a56 (es:=(s6 (s6 (s6 (s6 (s6 (s6 (s6 [] 1 (some 151)) 2 (some 152)) 3 (some 153)) 4 (some 154)) 5 (some 155)) 6 (some 156)) 7 (some 157))) (k:=8) (v:=(some 158)) (E:=fvE) (EK:=iF) (.inr J) J J J J J J a0m (B3 L7)<|a56 (es:=(s6 (s6 (s6 (s6 (s6 (s6 (s6 (s6 [] 1 (some 151)) 2 (some 152)) 3 (some 153)) 4 (some 154)) 5 (some 155)) 6 (some 156)) 7 (some 157)) 8 (some 158))) (k:=9) (v:=(some 159)) (E:=fvE) (EK:=iF) (.inr J) J J J J J J a0m (B3 L7)<|a56 (es:=(s6 (s6 (s6 (s6 (s6 (s6 (s6 (s6 (s6 [] 1 (some 151)) 2 (some 152)) 3 (some 153)) 4 (some 154)) 5 (some 155)) 6 (some 156)) 7 (some 157)) 8 (some 158)) 9 (some 159))) (k:=10) (v:=(some 160)) (E:=fvE) (EK:=iF) (.inr J) J J J J J J a0m (B3 L7)<|S2 2 J<|a3v (c3p 0 5000001 J J)<|b6 ?_;cases h;exact f1

theorem c3j{a0}:PO Tryz.prog 297 [.I a0] (b9z a0) λr=>.tup [.L iF r.1,.I r.2]:=by
 refine pO Tryz.func297 λr h _ _=>?_;refine S4 2 J<|c8<|S3 3 J<|l4 J (λhg=>mI J)<|l4 J (λhg=>y5 (ct hg) J J)<|y0 J (C7 J J J (λq=>eqF q))<|yN ?_;refine cN h (λhc h=>?_) λhc h=>?_
 ·refine S4 2 J ?_;refine b6 ?_;cases h;exact f2
 ·refine b8 ?_;refine S3 1 J<|r9 h λv1 hv1 h=>y1 J (c0G (f:=iF) hv1 J J J g7 m7 y6 F9 J J J) J<|S2 2 J<|b6 ?_;cases h;exact f2

theorem a9d{a0}:PO Tryz.prog 298 [.I a0] (R5 a0) λr=>.bool r:=by
 refine pO Tryz.func298 λr h _ _=>?_;unfold R5 at h;refine S4 1 J<|S3 3 J<|l4 J (λhg=>mI J)<|l4 J (λhg=>y5 (ct hg) J J)<|y0 J (z7 J J J (λq=>eqT q))<|S2 1 J<|b6 ?_;cases h;exact f1

theorem a7K{a0}:PO Tryz.prog 342 [e6.Pv a0] (O2 a0) λr=>.fn (.func 361) [.rptr (e6.Pc r)]:=by
 refine pO Tryz.func342 λr h _ _=>?_;unfold O2 at h;refine S4 2 J<|S4 2 J<|b6 ?_;cases h;exact f1

theorem M4{a0}:PON Tryz.prog 348 [.L b9.Pv a0] (z6 a0) λr=>⟨List.map b9.Pv r,0,true,8,true⟩:=by
 refine pON Tryz.func348 λr h _ _=>?_;unfold z6 at h;refine S4 1 J<|c8<|S3 1 J<|b9J J N3 λb hb=>yN ?_;refine J0 b J (λhc=>?_) (λhc=>?_)
 ·obtain rfl:a0 = []:=by simpa using hb hc
  refine S4 1 J<|a3v (C9 (t:=2) (l:=920000) (z:=8) J J)<|b6 ?_;cases h;exact⟨J,_,_,J,J,J,J⟩
 ·refine b8 ?_;refine sR<|y0 J (A2 J N3 Q0)<|S1 1 J<|y1 J (a4L (f:=b9.Pv) h J J (.inl ⟨_,J,J⟩) N3 Q0 c3v a9o J (λ_=>J)) J<|S2 1 J<|b6 ?_;exact⟨J,_,_,J,J,J,J⟩

theorem J3{a0 a1 a2}:PO Tryz.prog 312 [e6.Pv a0,.I a1,b9.Pv a2] (D5 a0 a1 a2) λr=>e6.Pv r:=by
 refine pO Tryz.func312 λr h _ _=>?_;unfold D5 at h;refine S4 3 J<|S3 2 J<|r9 h λv1 hv1 h=>ycN J (b7e J M4 J hv1) J J<|S2 2 J<|S3 4 J<|r9 h λv2 hv2 h=>y0 J (a0r (f:=b9.Pv) hv2 J J J J N3 Q0 J)<|a43 (f:=b9.Pv) (v:=a2) hv2 J J (.inr J) Q0<|yN<|S4 2 J<|b6 ?_;cases h;exact⟨J,[_],⟨oL J J J a3B a10 nl J,tr⟩,J,io⟩

theorem a8C{a0 a1}:PO Tryz.prog 122 [.I a0,.I a1] (a1J a0 a1) λr=>.I r:=by
 refine pO Tryz.func122 λr h _ _=>?_;refine S4 1 J<|c8<|S3 3 J<|l4 J (λhg=>mI J)<|l4 J (λhg=>y5 (ct hg) J J)<|y0 J (C7 J J J (λq=>eqF q))<|S1 1 J<|l4 J (λhg=>mI J)<|l4 J (λhg=>y5 (ct hg) J J)<|y0 J (C7 J J J (λq=>eqF q))<|S1 1 J<|l4 J (λhg=>mI J)<|l4 J (λhg=>y5 (ct hg) J J)<|y0 J (C7 J J J (λq=>eqF q))<|yN ?_;refine cN h (λhc h=>?_) λhc h=>?_
 ·refine S4 1 J ?_;refine b6 ?_;cases h;exact f1
 ·refine b8 ?_;refine S4 7 J<|b6 ?_;cases h;exact f1

theorem a7J{a0 a1}:PO Tryz.prog 299 [e6.Pv a0,m9.Pv a1] (J5 a0 a1) λr=>.tup [e6.Pv r.1,.I r.2.1,.I r.2.2]:=by
 refine pO Tryz.func299 λr h _ _=>?_;refine S4 5 J ?_;refine jq h (λ_=>St.of [(2,.ptr 2005 0 0),(4,.ptr 2003 0 0),(5,.ptr 2002 0 0),(6,.ptr 2001 0 0)] [(2001,vR (.I 0) 1),(2002,vR (.I 0) 1),(2003,vR (.agg [.nl,.I 0]) 2),(2005,vR (e6.Pv a0) 2)]) (λq10 h=>?_) λκ9 h=>?_
 ·refine S4 4 J ?_;refine b6 ?_;cases h;exact⟨J,[_,_,_],⟨oL J J J a3B a10 nl J,⟨oS J J J C5 J,⟨oS J J J b0x J,tr⟩⟩⟩,J,io⟩
 ·refine S3 1 J ?_;refine cF h a7K J J λv11 _ h=>yN<|c9<|a3v (WPE (λl=>if l=2006 then 6 else if l=2007 then 5 else if l=2008 then 4 else if l=2009 then 3 else if l=2010 then 2 else l) [(2,.ptr 2010 0 0),(3,.ptr 2009 0 0),(4,.ptr 2008 0 0),(5,.ptr 2007 0 0),(6,.ptr 2006 0 0),(10,.fn (.func 361) [.rptr (e6.Pc v11)])] [(2006,vR (.I 0) 1),(2007,vR (.I 0) 1),(2008,vR (.agg [.nl,.I 0]) 2),(2009,vR (m9.Pv a1) 6),(2010,vR (e6.Pv a0) 2)]) ?_
  refine a2h (fn:=Tryz.f361) (N1:=23) J Tryz.func361 J J nl J c9s J J (λl19 e20 o21 hR22=>?_);refine S3 2 J<|nL J N3<|S2 1 J<|c9<|lq h (λs13=>St.of [(1000002,.ptr 2010 0 0),(1000003,.ptr 2009 0 0),(1000004,.ptr 2008 0 0),(1000005,.ptr 2007 0 0),(1000006,.ptr 2006 0 0),(1000010,.fn (.func 361) [.rptr (e6.Pc v11)]),(0,.fn (.yield l19) []),(6,.L b9.Pv v11.a8),(7,.I (v11.a8.length:Int)),(8,.I s13)] [(2006,vR (.I 0) 1),(2007,vR (.I 0) 1),(2008,vR (.agg [.nl,.I 0]) 2),(2009,vR (m9.Pv a1) 6),(2010,vR (e6.Pv a0) 2)]) W λs13 x14 h hx25=>S4 1 J<|c8 ?_;refine cN h (λhc h=>?_) λhc h=>?_
  ·refine b8 ?_;refine c8<|c9<|S3 1 J<|iL h J J N3 Q0 λv15 _ h=>S2 4 J<|S3 4 J<|l4 J (λhg=>om (d:=.fn (.yield l19) []) J)<|l4 J (λhg=>mI J) ?_;rcases Bool.eq_false_or_eq_true ((v15.State==0)==true) with hg27 | hg27
   ·have h:=ifT h hg27;refine T7 (WE [(1000002,.ptr 2010 0 0),(1000003,.ptr 2009 0 0),(1000004,.ptr 2008 0 0),(1000005,.ptr 2007 0 0),(1000006,.ptr 2006 0 0),(1000010,.fn (.func 361) [.rptr (e6.Pc v11)]),(0,.fn (.yield l19) []),(6,.L b9.Pv v11.a8),(7,.I (v11.a8.length:Int)),(8,.I s13),(16,.bool (v15.State==0)),(17,.fn (.yield l19) []),(18,.I s13)] [(2006,vR (.I 0) 1),(2007,vR (.I 0) 1),(2008,vR (.agg [.nl,.I 0]) 2),(2009,vR (m9.Pv a1) 6),(2010,vR (e6.Pv a0) 2)]) ?_;refine a7T hR22 (congrArg some hg27) J J J J J (λe28 o29 o30=>?_);refine S6 1 J ?_;refine⟨J,?_⟩;refine c9<|S3 3 J<|iL h J J N3 Q0 λv16 _ h=>S2 3 J<|S3 4 J<|y0 J (o8 (cs:=[.I 1,.I v16.Gen,.I a1.Serial,.I a1.Strong,.I a1.Weak,.I a1.Prog,.bool a1.Started,.L iF a1.Fields]) J b4d a9o J J J)<|cF h J3 J J λv17 _ h=>S1 2 J<|cA h a8C J J λv18 _ h=>S2 3 J<|b6 ?_;refine⟨J,?_⟩;refine T7 (WE [(1000002,.ptr 2010 0 0),(1000003,.ptr 2009 0 0),(1000004,.ptr 2008 0 0),(1000005,.ptr 2007 0 0),(1000006,.ptr 2006 0 0),(1000010,.fn (.func 361) [.rptr (e6.Pc v11)]),(0,.fn (.yield l19) []),(6,.L b9.Pv v11.a8),(7,.I (v11.a8.length:Int)),(8,.I s13),(16,.bool (v15.State==0)),(19,.bool false)] [(2006,vR (.I 0) 1),(2007,vR (.I v18) 1),(2008,vR (e6.Pv v17) 2),(2009,vR (m9.Pv a1) 6),(2010,vR (e6.Pv a0) 2)])<|y0 (congrArg some hg27) (a2f J J)<|y0 J (a7p J J hg27)<|yN ?_;refine J0 true J (λ_=>?_) (λq=>nomatch q);refine b6 ?_;refine .inr ⟨.ret,J,d0k ?_⟩;have h:=xL hx25 h;cases h;exact⟨J,[_,_,_],⟨oL J J J a3B a10 nl J,⟨oS J J J C5 J,⟨oS J J J b0x J,tr⟩⟩⟩,J,io⟩
   ·have h:=ifF h hg27;refine a2t (congrArg some hg27)<|a2t (congrArg some hg27)<|y0 J (a9D J J hg27)<|yN ?_;refine J0 false J (λq=>nomatch q) (λ_=>?_);refine b8<|S6 2 J ?_;exact eL h W
  ·refine o5 ?_;refine c4<|c4<|k7 ?_;refine .inl ⟨J,?_⟩;have h:=xL hx25 h;exact eJ h (WP (λl=>if l=2005 then 2010 else if l=2003 then 2008 else if l=2002 then 2007 else if l=2001 then 2006 else l))

theorem b6C{a0 a1 a2}:PO Tryz.prog 240 [a7.Pv a0,.I a1,.I a2] (T6 a0 a1 a2) λr=>.tup [a7.Pv r.1,.I r.2.1,.I r.2.2]:=by
 refine pO Tryz.func240 λr h _ _=>?_;refine S4 4 J<|S3 1 J<|cF h c3j J J λv1 _ h=>S2 5 J<|c8<|S4 2 J ?_;refine cN h (λhc h=>?_) λhc h=>?_
 ·refine S4 5 J ?_;refine b6 ?_;cases h;exact⟨J,[_,_,_],⟨oL J J J a6W a6Y nl J,⟨J,⟨J,tr⟩⟩⟩,J,io⟩
 ·refine b8 ?_;refine c8<|S3 1 J<|cA h a9d J J λv2 _ h=>S2 1 J ?_;refine cN h (λhc h=>?_) λhc h=>?_
  ·refine S4 4 J ?_;refine b6 ?_;cases h;exact⟨J,[_,_,_],⟨oL J J J a6W a6Y nl J,⟨J,⟨J,tr⟩⟩⟩,J,io⟩
  ·refine b8 ?_;refine S3 7 J<|y0 J (o8 (cs:=[.I (x8 (a0.Serial+1)),.I 0,.I 0,.I a2,.bool false,.L iF v1.1]) J c9y c9O J J J)<|cF h a7J J J λv3 _ h=>S2 8 J<|c8<|S4 2 J ?_;refine cN h (λhc h=>?_) λhc h=>?_
   ·refine S4 5 J ?_;refine b6 ?_;cases h;exact⟨J,[_,_,_],⟨oL J J J a6W a6Y nl J,⟨J,⟨J,tr⟩⟩⟩,J,io⟩
   ·refine b8 ?_;refine S3 4 J<|y0 J (o8 (cs:=[.L b9.Pv v3.1.a8,.I v3.1.Last,.I (x8 (a0.Serial+1))]) J c6x c6E J J J)<|S2 4 J<|b6 ?_;cases h;exact⟨J,[_,_,_],⟨oL J J J a6W a6Y nl J,⟨J,⟨J,tr⟩⟩⟩,J,io⟩

theorem a7Y{a0}:PO Tryz.prog 353 [.I a0] (a16 a0) λr=>.tup [.I r.1,.I r.2.1,.bool r.2.2]:=by
 refine pO Tryz.func353 λr h _ _=>?_;refine S4 3 J<|c8<|S4 2 J ?_;refine cN h (λhc h=>?_) λhc h=>?_
 ·refine S4 3 J ?_;refine b6 ?_;cases h;exact f3
 ·refine b8 ?_;refine S3 2 J<|r9 h λv1 hv1 h=>y0 J (a74 J J hv1)<|r9 h λv2 hv2 h=>y0 J (a74 J J hv2)<|S1 2 J<|r9 h λv3 hv3 h=>y0 J (a74 J J hv3)<|S2 2 J<|c8<|S3 3 J<|l4 J (λhg=>mI J)<|l4 J (λhg=>y5 (ct hg) J J)<|y0 J (C7 J J J (λq=>eqF q))<|yN ?_;refine cN h (λhc h=>?_) λhc h=>?_
  ·refine S4 3 J ?_;refine b6 ?_;cases h;exact f3
  ·refine b8 ?_;refine S4 5 J<|b6 ?_;cases h;exact f3

theorem a8D{a0}:PO Tryz.prog 323 [.I a0] (a3o a0) λr=>.I r:=by
 refine pO Tryz.func323 λr h _ _=>?_;refine S4 1 J<|S3 1 J<|cA h a7Y J J λv1 _ h=>S2 7 J<|S4 2 J<|b6 ?_;cases h;exact f1

theorem b0l{a0}:PO Tryz.prog 324 [.I a0] (a4E a0) λr=>.I r:=by
 refine pO Tryz.func324 λr h _ _=>?_;refine S4 1 J<|S3 1 J<|cA h a7Y J J λv1 _ h=>S2 7 J<|S4 2 J<|b6 ?_;cases h;exact f1

theorem J2{a0 a1}:PO Tryz.prog 288 [e6.Pv a0,.I a1] (y4 a0 a1) λr=>.tup [.I r.1,.I r.2]:=by
 refine pO Tryz.func288 λr h _ _=>?_;refine S4 3 J<|c8<|S4 2 J ?_;refine cN h (λhc h=>?_) λhc h=>?_
 ·refine S4 2 J ?_;refine b6 ?_;cases h;exact f2
 ·refine b8 ?_;refine S3 1 J<|cA h a8D J J λv1 _ h=>S2 1 J<|c8<|S3 3 J<|l4 J (λhg=>mI J)<|l4 J (λhg=>oF J c6s J)<|l4 J (λhg=>oS (ct hg) J J d2q J)<|l4 J (λhg=>T8 (f:=b9.Pv) (ct hg) N3)<|l4 J (λhg=>y5 (ct hg) (ct hg) J)<|y0 J (C7 J J J (λq=>eqF q))<|yN ?_;refine cN h (λhc h=>?_) λhc h=>?_
  ·refine S4 2 J ?_;refine b6 ?_;cases h;exact f2
  ·refine b8 ?_;refine S3 3 J<|iL h J J N3 Q0 λv2 _ h=>S2 3 J<|c8<|dr [] o9 (by kernel_rfl) (by kernel_rfl)<|S7 3 J<|r9 h λv3 hv3 h=>d2 J (D4 J b0l J hv3) J<|S7 2 J<|D0 J (λhg _ hN=>oF J b6J J) J<|J7 J (λhg=>oS (ct hg) J J C5 J) J<|D0 J (λhg _ hN=>y5 (ct hg) J J) J<|D0 J (λhg _ hN=>om (d:=.bool (v2.State != 1)) (ct hg)) J<|D0 (b7B J J J) (λhg _ hN=>oF J b6J J) J<|J7 (b7B J J J) (λhg=>oS (ct hg) J J C5 J) J<|D0 (b7B J J J) (λhg _ hN=>y5 (ct hg) J J) J<|D0 J (λhg _ hN=>z7 (ct hg) J J (λq=>d5m hg (eqT q))) J<|d7 J (λ_ hN=>C7 J J J (λq=>eqF q)) J<|G0 ?_
   refine cN h (λhc h=>?_) λhc h=>?_
   ·refine S4 2 J ?_;refine b6 ?_;cases h;exact f2
   ·refine b8 ?_;refine S4 3 J<|b6 ?_;cases h;exact f2

theorem a2A{a0 a1}:PO Tryz.prog 210 [e6.Pv a0,.I a1] (E1 a0 a1) λr=>.tup [m9.Pv r.1,.I r.2]:=by
 refine pO Tryz.func210 λr h _ _=>?_;refine S4 3 J<|S4 1 J<|S3 2 J<|cA h J2 J J λv1 _ h=>S2 5 J<|c8<|S4 2 J ?_;refine cN h (λhc h=>?_) λhc h=>?_
 ·refine S3 2 J ?_;refine a44 (x':=.agg [.I 0,.I 0,.I 0,.I 0,.bool false,.nl]) (cl':=true) J J (.inl J) a5e<|S2 1 J<|b6 ?_;cases h;exact⟨J,[_,_],⟨oL J J J b04 a5e nl J,⟨J,tr⟩⟩,J,io⟩
 ·refine b8 ?_;refine c8<|S3 3 J<|iL h J J N3 Q0 λv2 hv2 h=>S2 3 J ?_;refine cN h (λhc h=>?_) λhc h=>?_
  ·refine S3 1 J ?_;refine a44 (x':=.agg [.I 0,.I 0,.I 0,.I 0,.bool false,.nl]) (cl':=true) J J (.inl J) a5e<|S2 1 J<|b6 ?_;cases h;exact⟨J,[_,_],⟨oL J J J b04 a5e nl J,⟨J,tr⟩⟩,J,io⟩
  ·refine b8 ?_;refine S3 3 J<|y0 J (u7 (f:=b9.Pv) (cs:=b9.Pc v2) hv2 J J N3 Q0 J J)<|S2 4 J<|b6 ?_;cases h;exact⟨J,[_,_],⟨oL J J J b04 a5e nl J,⟨J,tr⟩⟩,J,io⟩

theorem C4{a0 a1}:PO Tryz.prog 126 [a7.Pv a0,.I a1] (y9 a0 a1) λr=>.tup [m9.Pv r.1,.I r.2]:=by
 refine pO Tryz.func126 λr h _ _=>?_;refine S4 3 J<|S3 3 J<|cF h a2A J J λv1 _ h=>S2 4 J<|b6 ?_;cases h;exact⟨J,[_,_],⟨oL J J J b04 a5e nl J,⟨J,tr⟩⟩,J,io⟩

theorem b5l{a0 a1}:PO Tryz.prog 344 [b7.Pv a0,.I a1] (a5q a0 a1) λr=>.bool r:=by
 refine pO Tryz.func344 λr h _ _=>?_;refine S4 2 J<|S3 3 J<|cF h C4 J J λv1 _ h=>S2 6 J<|S4 3 J<|b6 ?_;cases h;exact f1

theorem V0{a0 a1}:PO Tryz.prog 301 [b7.Pv a0,.I a1] (L2 a0 a1) λr=>.bool r:=by
 refine pO Tryz.func301 λr h _ _=>?_;unfold L2 at h;refine S4 2 J<|S3 3 J<|l4 J (λhg=>oL J J J u9 p9 nl J)<|l4 J (λhg=>mI J)<|r9 h λv1 hv1 h=>l4 J (λhg=>D4 J b5l (D8 (ct hg) (D8 (ct hg) J)) (G8 hv1 hg))<|y0 J (C7 J J J (λq=>eqF q))<|S2 1 J<|b6 ?_;cases h;exact f1

theorem a0n{a0}:PO Tryz.prog 349 [.I a0] (G4 a0) λr=>.bool r:=by
 refine pO Tryz.func349 λr h _ _=>?_;unfold G4 at h;refine S4 1 J<|S4 3 J<|b6 ?_;cases h;exact f1

theorem b1g{a0}:PO Tryz.prog 315 [.I a0] (a4y a0) λr=>.tup [.I r.1,.I r.2]:=by
 refine pO Tryz.func315 λr h _ _=>?_;refine S4 2 J<|c8<|S3 1 J<|cA h a0n J J λv1 _ h=>yN ?_;refine cN h (λhc h=>?_) λhc h=>?_
 ·refine S4 2 J ?_;refine b6 ?_;cases h;exact f2
 ·refine b8 ?_;refine S3 1 J<|y0 J (c7Z J J J)<|S2 3 J<|b6 ?_;cases h;exact f2

theorem b75{a0}:PO Tryz.prog 252 [.I a0] (a9s a0) λr=>.I r:=by
 refine pO Tryz.func252 λr h _ _=>?_;refine S4 1 J<|S3 1 J<|cA h b1g J J λv1 _ h=>S2 5 J<|S4 2 J<|b6 ?_;cases h;exact f1

theorem a8h{a0 a1 a2}:PO Tryz.prog 249 [e6.Pv a0,.I a1,m9.Pv a2] (K5 a0 a1 a2) λr=>.tup [e6.Pv r.1,.I r.2]:=by
 refine pO Tryz.func249 λr h _ _=>?_;refine S4 4 J<|S3 2 J<|cA h J2 J J λv1 _ h=>S2 5 J<|c8<|S4 2 J ?_;refine cN h (λhc h=>?_) λhc h=>?_
 ·refine S4 4 J ?_;refine b6 ?_;cases h;exact⟨J,[_,_],⟨oL J J J a3B a10 nl J,⟨J,tr⟩⟩,J,io⟩
 ·refine b8 ?_;refine S3 3 J<|iL h J J N3 Q0 λv2 _ h=>S2 3 J<|S4 3 J<|S3 3 J<|cF h J3 J J λv3 _ h=>S2 2 J<|b6 ?_;cases h;exact⟨J,[_,_],⟨oL J J J a3B a10 nl J,⟨J,tr⟩⟩,J,io⟩

theorem a0X{a0 a1 a2}:PO Tryz.prog 167 [a7.Pv a0,.I a1,m9.Pv a2] (K6 a0 a1 a2) λr=>.tup [a7.Pv r.1,.I r.2]:=by
 refine pO Tryz.func167 λr h _ _=>?_;refine S4 4 J<|S4 1 J<|S3 4 J<|cF h a8h J J λv1 _ h=>S2 6 J<|S4 4 J<|b6 ?_;cases h;exact⟨J,[_,_],⟨oL J J J a6W a6Y nl J,⟨J,tr⟩⟩,J,io⟩

theorem a4G{a0 a1}:PO Tryz.prog 251 [b7.Pv a0,.I a1,.fn (.func 252) []] (U9 a0 a1) λr=>b7.Pv r:=by
 refine pO Tryz.func251 λr h _ _=>?_;refine S4 2 J<|S3 3 J<|cF h C4 J J λv1 _ h=>S2 6 J<|c8<|S4 2 J ?_;refine cN h (λhc h=>?_) λhc h=>?_
 ·refine S3 3 J ?_;refine cA h b75 J J λv2 _ h=>S2 2 J<|S5 4 J<|cF h a0X J J λv3 _ h=>S2 5 J<|S4 2 J<|b6 ?_;cases h;exact⟨J,[_],⟨oL J J J u9 p9 nl J,tr⟩,J,io⟩
 ·refine b8 ?_;refine S4 2 J<|b6 ?_;cases h;exact⟨J,[_],⟨oL J J J u9 p9 nl J,tr⟩,J,io⟩

theorem a19{a0 a1}:PO Tryz.prog 169 [b7.Pv a0,.I a1] (a0p a0 a1) λr=>b7.Pv r:=by
 refine pO Tryz.func169 λr h _ _=>?_;refine S4 2 J<|S3 2 J<|cF h a4G J J λv1 _ h=>S2 1 J<|b6 ?_;cases h;exact⟨J,[_],⟨oL J J J u9 p9 nl J,tr⟩,J,io⟩

theorem a52{a0}:PON Tryz.prog 359 [.L iF a0] (M3 a0) λr=>⟨List.map iF r,0,true,1,true⟩:=by
 refine pON Tryz.func359 λr h _ _=>?_;unfold M3 at h;refine S4 1 J<|c8<|S3 1 J<|b9J J g7 λb hb=>yN ?_;refine J0 b J (λhc=>?_) (λhc=>?_)
 ·obtain rfl:a0 = []:=by simpa using hb hc
  refine S4 1 J<|a3v (C9 (t:=2) (l:=920000) (z:=1) J J)<|b6 ?_;cases h;exact⟨J,_,_,J,J,J,J⟩
 ·refine b8 ?_;refine sR<|y0 J (A2 J g7 m7)<|S1 1 J<|y1 J (a4L (f:=iF) h J J (.inl ⟨_,J,J⟩) g7 m7 F9 y6 J (λ_=>J)) J<|S2 1 J<|b6 ?_;exact⟨J,_,_,J,J,J,J⟩

theorem a8e{a0 a1}:PO Tryz.prog 332 [I7.Pv a0,b7.Pv a1] (P3 a0 a1) λr=>b7.Pv r:=by
 refine pO Tryz.func332 λr h _ _=>?_;unfold P3 at h;refine S4 3 J<|S3 2 J<|r9 h λv1 hv1 h=>ycN J (b7e J a52 J hv1) J J<|S2 2 J<|S3 6 J<|r9 h λv2 hv2 h=>y0 J (a0r (f:=iF) hv2 J J J J g7 m7 J)<|a43 (f:=iF) (v:=a0.h) hv2 J J (.inl J) m7<|yN<|S4 2 J<|b6 ?_;cases h;exact⟨J,[_],⟨oL J J J u9 p9 nl J,tr⟩,J,io⟩

theorem a91{a0}:PO Tryz.prog 325 [.I a0] (a2H a0) λr=>.tup [.I r.1,.I r.2]:=by
 refine pO Tryz.func325 λr h _ _=>?_;refine S4 2 J<|c8<|S3 1 J<|cA h a0n J J λv1 _ h=>yN ?_;refine cN h (λhc h=>?_) λhc h=>?_
 ·refine S4 2 J ?_;refine b6 ?_;cases h;exact f2
 ·refine b8 ?_;refine c8<|S4 2 J ?_;refine cN h (λhc h=>?_) λhc h=>?_
  ·refine S4 2 J ?_;refine b6 ?_;cases h;exact f2
  ·refine b8 ?_;refine S4 4 J<|b6 ?_;cases h;exact f2

theorem b74{a0}:PO Tryz.prog 259 [.I a0] (b2M a0) λr=>.tup [.I r.1,.I r.2]:=by
 refine pO Tryz.func259 λr h _ _=>?_;refine S4 2 J<|S3 1 J<|cA h a91 J J λv1 _ h=>S2 5 J<|S4 4 J<|b6 ?_;cases h;exact f2

theorem b1A{a0}:PO Tryz.prog 258 [.I a0] (a18 a0) λr=>.I r:=by
 refine pO Tryz.func258 λr h _ _=>?_;refine S4 1 J<|S3 1 J<|cA h b74 J J λv1 _ h=>S2 5 J<|c8<|S4 2 J ?_;refine cN h (λhc h=>?_) λhc h=>?_
 ·refine S4 2 J ?_;refine b6 ?_;cases h;exact f1
 ·refine b8 ?_;refine S4 2 J<|b6 ?_;cases h;exact f1

theorem a2v{a0 a1}:PO Tryz.prog 251 [b7.Pv a0,.I a1,.fn (.func 258) []] (N6 a0 a1) λr=>b7.Pv r:=by
 refine pO Tryz.func251 λr h _ _=>?_;refine S4 2 J<|S3 3 J<|cF h C4 J J λv1 _ h=>S2 6 J<|c8<|S4 2 J ?_;refine cN h (λhc h=>?_) λhc h=>?_
 ·refine S3 3 J ?_;refine cA h b1A J J λv2 _ h=>S2 2 J<|S5 4 J<|cF h a0X J J λv3 _ h=>S2 5 J<|S4 2 J<|b6 ?_;cases h;exact⟨J,[_],⟨oL J J J u9 p9 nl J,tr⟩,J,io⟩
 ·refine b8 ?_;refine S4 2 J<|b6 ?_;cases h;exact⟨J,[_],⟨oL J J J u9 p9 nl J,tr⟩,J,io⟩

theorem X7{a0 a1}:PO Tryz.prog 176 [b7.Pv a0,.I a1] (D3 a0 a1) λr=>b7.Pv r:=by
 refine pO Tryz.func176 λr h _ _=>?_;refine S4 2 J<|S3 2 J<|cF h a2v J J λv1 _ h=>S2 1 J<|b6 ?_;cases h;exact⟨J,[_],⟨oL J J J u9 p9 nl J,tr⟩,J,io⟩

theorem a1w{a0 a1 a2 a3}:PO Tryz.prog 302 [b7.Pv a0,.I a1,.I a2,.abs (BFn 332 [I7.Pv a3])] (F4 a0 a1 a2 a3) λr=>b7.Pv r:=by
 refine pO Tryz.func302 λr h _ _=>?_;refine S4 2 J<|S3 3 J<|cF h a19 J J λv1 _ h=>r9 h λv2 hv2 h=>b9I (xs:=[b7.Pv v1]) J J c9r J (a8e.2 _ hv2)<|S1 1 J<|cF h X7 J J λv3 _ h=>S2 1 J<|b6 ?_;cases h;exact⟨J,[_],⟨oL J J J u9 p9 nl J,tr⟩,J,io⟩

theorem a7h{a0 a1 a2}:PO Tryz.prog 263 [b7.Pv a0,.I a1,.I a2] (a0N a0 a1 a2) λr=>.tup [b7.Pv r.1,.I r.2]:=by
 refine pO Tryz.func263 λr h _ _=>?_;refine S4 3 J<|c8<|S3 3 J<|l4 J (λhg=>mI J)<|l4 J (λhg=>oF J b4O J)<|l4 J (λhg=>oS (ct hg) J J a8k J)<|l4 J (λhg=>T8 (f:=iF) (ct hg) g7)<|l4 J (λhg=>y5 (ct hg) (ct hg) J)<|y0 J (C7 J J J (λq=>eqF q))<|yN ?_;refine cN h (λhc h=>?_) λhc h=>?_
 ·refine S4 3 J ?_;refine b6 ?_;cases h;exact⟨J,[_,_],⟨oL J J J u9 p9 nl J,⟨J,tr⟩⟩,J,io⟩
 ·refine b8 ?_;refine c8<|S3 2 J<|cA h V0 J J λv1 _ h=>S2 1 J ?_;refine cN h (λhc h=>?_) λhc h=>?_
  ·refine S4 3 J ?_;refine b6 ?_;cases h;exact⟨J,[_,_],⟨oL J J J u9 p9 nl J,⟨J,tr⟩⟩,J,io⟩
  ·refine b8 ?_;refine dr [] o9 (by kernel_rfl) (by kernel_rfl)<|S7 4 J<|r9 h λv2 hv2 h=>d0 J (u7 (f:=iF) (cs:=[.I v2]) hv2 J J g7 m7 J J) J<|S7 4 J<|d7 J (λ_ hN=>o8 (cs:=[.I a1,.I a2]) J c9G c9V J J J) J<|d7 J (λ_ hN=>b22 (d:=.agg [.I a1,.I a2]) J) J<|r9 h λv3 hv3 h=>d2f J (u6 J a1w J hv3) J<|A3 (x':=b7.Pv v3) (cl':=true) J J (.inr J) p9<|S8 1 J<|b6 ?_
   cases h;exact⟨J,[_,_],⟨oL J J J u9 p9 nl J,⟨J,tr⟩⟩,J,io⟩

theorem H8{a0 a1 a2}:PO Tryz.prog 241 [s7.Pv a0,.I a1,.I a2] (C3 a0 a1 a2) λr=>.tup [b7.Pv r.1,.I r.2]:=by
 refine pO Tryz.func241 λr h _ _=>?_;refine S4 3 J<|c8<|S4 2 J ?_;refine cN h (λhc h=>?_) λhc h=>?_
 ·refine S4 5 J ?_;refine b6 ?_;cases h;exact⟨J,[_,_],⟨oL J J J u9 p9 nl J,⟨J,tr⟩⟩,J,io⟩
 ·refine b8 ?_;refine S3 6 J<|cF h a7h J J λv1 _ h=>S2 4 J<|b6 ?_;cases h;exact⟨J,[_,_],⟨oL J J J u9 p9 nl J,⟨J,tr⟩⟩,J,io⟩

theorem a2d{a0}:PO Tryz.prog 151 [s7.Pv a0] (U1 a0) λr=>.tup [b7.Pv r.1,.I r.2]:=by
 refine pO Tryz.func151 λr h _ _=>?_;refine S4 3 J<|S3 9 J<|cF h b6C J J λv1 _ h=>S2 8 J<|c8<|S4 2 J ?_;refine cN h (λhc h=>?_) λhc h=>?_
 ·refine S4 5 J ?_;refine b6 ?_;cases h;exact⟨J,[_,_],⟨oL J J J u9 p9 nl J,⟨J,tr⟩⟩,J,io⟩
 ·refine b8 ?_;refine S4 4 J<|S3 2 J<|cF h H8 J J λv2 _ h=>S2 4 J<|b6 ?_;cases h;exact⟨J,[_,_],⟨oL J J J u9 p9 nl J,⟨J,tr⟩⟩,J,io⟩

theorem N7{a0 a1}:PO Tryz.prog 164 [b7.Pv a0,.I a1] (L4 a0 a1) λr=>.I r:=by
 refine pO Tryz.func164 λr h _ _=>?_;refine S4 2 J<|c8<|S3 3 J<|l4 J (λhg=>mI J)<|l4 J (λhg=>oF J b4O J)<|l4 J (λhg=>oS (ct hg) J J a8k J)<|l4 J (λhg=>T8 (f:=iF) (ct hg) g7)<|l4 J (λhg=>y5 (ct hg) (ct hg) J)<|y0 J (C7 J J J (λq=>eqF q))<|yN ?_;refine cN h (λhc h=>?_) λhc h=>?_
 ·refine S4 1 J ?_;refine b6 ?_;cases h;exact f1
 ·refine b8 ?_;refine S3 3 J<|iL h J J g7 m7 λv1 _ h=>S2 2 J<|b6 ?_;cases h;exact f1

theorem a01{a0}:PO Tryz.prog 152 [s7.Pv a0] (I9 a0) λr=>.tup [b7.Pv r.1,.I r.2]:=by
 refine pO Tryz.func152 λr h _ _=>?_;unfold I9 at h;refine S4 3 J<|dr [] o9 (by kernel_rfl) (by kernel_rfl)<|S7 6 J<|r9 h λv1 hv1 h=>d2 J (D4 J N7 J hv1) J<|r9 h λv2 hv2 h=>d2f J (u6 J H8 J hv2) J<|S7 2 J<|A3 (x':=b7.Pv v2.1) (cl':=true) J J (.inr J) p9<|S8 1 J<|b6 ?_
 cases h;exact⟨J,[_,_],⟨oL J J J u9 p9 nl J,⟨J,tr⟩⟩,J,io⟩

theorem a3r{a0}:PO Tryz.prog 153 [s7.Pv a0] (a0f a0) λr=>.tup [b7.Pv r.1,.I r.2]:=by
 refine pO Tryz.func153 λr h _ _=>?_;refine S4 3 J<|S3 1 J<|cF h H8 J J λv1 _ h=>S2 4 J<|b6 ?_;cases h;exact⟨J,[_,_],⟨oL J J J u9 p9 nl J,⟨J,tr⟩⟩,J,io⟩

theorem Q8{a0 a1}:PO Tryz.prog 242 [b7.Pv a0,.I a1] (M1 a0 a1) λr=>.tup [.I r.1,.I r.2]:=by
 refine pO Tryz.func242 λr h _ _=>?_;refine S4 3 J<|S3 2 J<|cA h N7 J J λv1 _ h=>S2 1 J<|c8<|S4 2 J ?_;refine cN h (λhc h=>?_) λhc h=>?_
 ·refine S4 2 J ?_;refine b6 ?_;cases h;exact f2
 ·refine b8 ?_;refine S4 3 J<|b6 ?_;cases h;exact f2

theorem b55{a0 a1}:PO Tryz.prog 343 [.L iF a0,.I a1] (a7R a0 a1) λr=>.bool r:=by
 refine pO Tryz.func343 λr h _ _=>?_;unfold a7R at h;refine S4 1 J<|S3 3 J<|l4 J (λhg=>mI J)<|l4 J (λhg=>om (d:=.L iF a0) J)<|l4 J (λhg=>T8 (f:=iF) (ct hg) g7)<|l4 J (λhg=>y5 (ct hg) (ct hg) J)<|y0 J (z7 J J J (λq=>eqT q))<|S2 1 J<|b6 ?_;cases h;exact f1

theorem c6h{a0 a1}:PO Tryz.prog 300 [.L iF a0,.I a1] (b3p a0 a1) λr=>.tup [.I r.1,.I r.2]:=by
 refine pO Tryz.func300 λr h _ _=>?_;refine S4 2 J<|c8<|S3 2 J<|cA h b55 J J λv1 _ h=>S2 1 J ?_;refine cN h (λhc h=>?_) λhc h=>?_
 ·refine S4 2 J ?_;refine b6 ?_;cases h;exact f2
 ·refine b8 ?_;refine S3 2 J<|iL h J J g7 m7 λv2 _ h=>S2 3 J<|b6 ?_;cases h;exact f2

theorem a9c{a0 a1 a2}:PO Tryz.prog 243 [a7.Pv a0,.I a1,.I a2] (a0F a0 a1 a2) λr=>.tup [.I r.1,.I r.2]:=by
 refine pO Tryz.func243 λr h _ _=>?_;refine S4 3 J<|S3 2 J<|cF h C4 J J λv1 _ h=>S2 6 J<|c8<|S4 2 J ?_;refine cN h (λhc h=>?_) λhc h=>?_
 ·refine S4 3 J ?_;refine b6 ?_;cases h;exact f2
 ·refine b8 ?_;refine S3 3 J<|cA h c6h J J λv2 _ h=>S2 4 J<|b6 ?_;cases h;exact f2

theorem a3s{a0}:PO Tryz.prog 154 [s7.Pv a0] (a0g a0) λr=>.tup [b7.Pv r.1,.I r.2]:=by
 refine pO Tryz.func154 λr h _ _=>?_;refine S4 3 J<|S3 5 J<|cA h Q8 J J λv1 _ h=>S2 5 J<|c8<|S4 2 J ?_;refine cN h (λhc h=>?_) λhc h=>?_
 ·refine S4 5 J ?_;refine b6 ?_;cases h;exact⟨J,[_,_],⟨oL J J J u9 p9 nl J,⟨J,tr⟩⟩,J,io⟩
 ·refine b8 ?_;refine dr [] o9 (by kernel_rfl) (by kernel_rfl)<|S7 8 J<|r9 h λv2 hv2 h=>d2 J (D4 J a9c J hv2) J<|S7 2 J<|r9 h λv3 hv3 h=>d2f J (u6 J H8 J hv3) J<|S7 2 J<|A3 (x':=b7.Pv v3.1) (cl':=true) J J (.inr J) p9<|S8 1 J<|b6 ?_
  cases h;exact⟨J,[_,_],⟨oL J J J u9 p9 nl J,⟨J,tr⟩⟩,J,io⟩

theorem c1G{a0 a1 a2}:PO Tryz.prog 362 [.L iF a0,.I a1,.I a2] (b54 a0 a1 a2) λr=>.tup [.L iF r.1,.I r.2]:=by
 refine pO Tryz.func362 λr h _ _=>?_;refine S4 2 J<|c8<|S3 2 J<|cA h b55 J J λv1 _ h=>S2 1 J ?_;refine cN h (λhc h=>?_) λhc h=>?_
 ·refine S4 3 J ?_;refine b6 ?_;cases h;exact f2
 ·refine b8 ?_;refine S3 1 J<|nL J g7<|r9 h λv2 hv2 h=>y1 J (c0G (f:=iF) hv2 J J J g7 m7 y6 F9 J J J) J<|S2 1 J<|S3 2 J<|r9 h λv3 hv3 h=>d6C (f:=iF) hv3 J J J (.inl ⟨_,J,J⟩) g7 m7 (λ_=>J) (by decide)<|yN<|S3 3 J<|r9 h λv4 hv4 h=>y0 J (a0r (f:=iF) hv4 J J J J g7 m7 J)<|a43 (f:=iF) (v:=a2) hv4 J J (.inl J) m7<|yN<|S4 3 J<|b6 ?_
  cases h;exact f2

theorem b9s{a0 a1 a2 a3}:PO Tryz.prog 345 [a7.Pv a0,.I a1,.I a2,.I a3] (a9Q a0 a1 a2 a3) λr=>.tup [a7.Pv r.1,.I r.2]:=by
 refine pO Tryz.func345 λr h _ _=>?_;refine S4 3 J<|S3 2 J<|cF h C4 J J λv1 _ h=>S2 6 J<|c8<|S4 2 J ?_;refine cN h (λhc h=>?_) λhc h=>?_
 ·refine S4 4 J ?_;refine b6 ?_;cases h;exact⟨J,[_,_],⟨oL J J J a6W a6Y nl J,⟨J,tr⟩⟩,J,io⟩
 ·refine b8 ?_;refine c8<|S3 4 J<|cF h c1G J J λv2 _ h=>S2 6 J<|S4 2 J ?_;refine cN h (λhc h=>?_) λhc h=>?_
  ·refine S4 4 J ?_;refine b6 ?_;cases h;exact⟨J,[_,_],⟨oL J J J a6W a6Y nl J,⟨J,tr⟩⟩,J,io⟩
  ·refine b8 ?_;refine S3 3 J<|cF h a0X J J λv3 _ h=>S2 4 J<|b6 ?_;cases h;exact⟨J,[_,_],⟨oL J J J a6W a6Y nl J,⟨J,tr⟩⟩,J,io⟩

theorem a7i{a0 a1}:PO Tryz.prog 303 [H4.Pv a0,b7.Pv a1] (a03 a0 a1) λr=>b7.Pv r:=by
 refine pO Tryz.func303 λr h _ _=>?_;refine S4 3 J<|S3 8 J<|cF h b9s J J λv1 _ h=>S2 5 J<|S4 2 J<|b6 ?_;cases h;exact⟨J,[_],⟨oL J J J u9 p9 nl J,tr⟩,J,io⟩

theorem a1e{a0 a1 a2 a3}:PO Tryz.prog 302 [b7.Pv a0,.I a1,.I a2,.abs (BFn 303 [H4.Pv a3])] (I8 a0 a1 a2 a3) λr=>b7.Pv r:=by
 refine pO Tryz.func302 λr h _ _=>?_;refine S4 2 J<|S3 3 J<|cF h a19 J J λv1 _ h=>r9 h λv2 hv2 h=>b9I (xs:=[b7.Pv v1]) J J c9n J (a7i.2 _ hv2)<|S1 1 J<|cF h X7 J J λv3 _ h=>S2 1 J<|b6 ?_;cases h;exact⟨J,[_],⟨oL J J J u9 p9 nl J,tr⟩,J,io⟩

theorem b6s{a0 a1 a2 a3}:PO Tryz.prog 244 [b7.Pv a0,.I a1,.I a2,.I a3] (a2L a0 a1 a2 a3) λr=>.tup [b7.Pv r.1,.I r.2]:=by
 refine pO Tryz.func244 λr h _ _=>?_;refine S4 3 J<|S3 4 J<|cA h a9c J J λv1 _ h=>S2 5 J<|c8<|S4 2 J ?_;refine cN h (λhc h=>?_) λhc h=>?_
 ·refine S4 4 J ?_;refine b6 ?_;cases h;exact⟨J,[_,_],⟨oL J J J u9 p9 nl J,⟨J,tr⟩⟩,J,io⟩
 ·refine b8 ?_;refine c8<|S3 2 J<|cA h V0 J J λv2 _ h=>S2 1 J ?_;refine cN h (λhc h=>?_) λhc h=>?_
  ·refine S4 3 J ?_;refine b6 ?_;cases h;exact⟨J,[_,_],⟨oL J J J u9 p9 nl J,⟨J,tr⟩⟩,J,io⟩
  ·refine b8 ?_;refine S3 6 J<|y0 J (o8 (cs:=[.I a1,.I a2,.I a3]) J c9D c9S J J J)<|y0 J (b22 (d:=.agg [.I a1,.I a2,.I a3]) J)<|cF h a1e J J λv3 _ h=>S2 2 J<|b6 ?_;cases h;exact⟨J,[_,_],⟨oL J J J u9 p9 nl J,⟨J,tr⟩⟩,J,io⟩

theorem a2z{a0}:PO Tryz.prog 155 [s7.Pv a0] (W9 a0) λr=>.tup [b7.Pv r.1,.I r.2]:=by
 refine pO Tryz.func155 λr h _ _=>?_;refine S4 3 J<|S3 5 J<|cA h Q8 J J λv1 _ h=>S2 5 J<|c8<|S4 2 J ?_;refine cN h (λhc h=>?_) λhc h=>?_
 ·refine S4 5 J ?_;refine b6 ?_;cases h;exact⟨J,[_,_],⟨oL J J J u9 p9 nl J,⟨J,tr⟩⟩,J,io⟩
 ·refine b8 ?_;refine dr [] o9 (by kernel_rfl) (by kernel_rfl)<|S7 11 J<|r9 h λv2 hv2 h=>d2 J (D4 J N7 J hv2) J<|r9 h λv3 hv3 h=>d2f J (u6 J b6s J hv3) J<|S7 2 J<|A3 (x':=b7.Pv v3.1) (cl':=true) J J (.inr J) p9<|S8 1 J<|b6 ?_
  cases h;exact⟨J,[_,_],⟨oL J J J u9 p9 nl J,⟨J,tr⟩⟩,J,io⟩

theorem c3f{a0 a1}:PO Tryz.prog 346 [g5.Pv a0,.I a1] (b4D a0 a1) λr=>.fn (.func 363) [.rptr (g5.Pc r.1),.rptr [.I r.2]]:=by
 refine pO Tryz.func346 λr h _ _=>?_;unfold b4D at h;refine S4 3 J<|S4 2 J<|b6 ?_;cases h;exact f1

theorem b6D{a0 a1}:PO Tryz.prog 304 [g5.Pv a0,.I a1] (a4Y a0 a1) λr=>.bool r:=by
 refine pO Tryz.func304 λr h _ _=>?_;refine S4 3 J ?_;refine jq h (λ_=>St.of [(4,.ptr 2001 0 0)] [(2001,vR (.bool false) 1)]) (λq7 h=>?_) λκ6 h=>?_
 ·refine S4 1 J ?_;refine b6 ?_;cases h;exact⟨J,[_],⟨oS J J J b05 J,tr⟩,J,io⟩
 ·refine S3 1 J ?_;refine cF h c3f J J λv8 _ h=>yN<|c9<|a3v (WPE (λl=>if l=2003 then 4 else if l=2004 then 3 else l) [(3,.ptr 2004 0 0),(4,.ptr 2003 0 0),(7,.fn (.func 363) [.rptr (g5.Pc v8.1),.rptr [.I v8.2]])] [(2003,vR (.bool false) 1),(2004,vR (.I a1) 1)]) ?_
  refine a2h (fn:=Tryz.f363) (N1:=24) J Tryz.func363 J J nl J c9t J J (λl16 e17 o18 hR19=>?_);refine S3 2 J<|nL J a4u<|S2 1 J<|c9<|lq h (λs10=>St.of [(1000003,.ptr 2004 0 0),(1000004,.ptr 2003 0 0),(1000007,.fn (.func 363) [.rptr (g5.Pc v8.1),.rptr [.I v8.2]]),(0,.fn (.yield l16) []),(2,.rptr [.I v8.2]),(7,.L k9.Pv v8.1.L),(8,.I (v8.1.L.length:Int)),(9,.I s10)] [(2003,vR (.bool false) 1),(2004,vR (.I a1) 1)]) W λs10 x11 h hx22=>S4 1 J<|c8 ?_;refine cN h (λhc h=>?_) λhc h=>?_
  ·refine b8 ?_;refine c8<|c9<|sR<|iL h J J a4u K8 λv12 _ h=>S2 3 J<|S3 5 J<|l4 J (λhg=>om (d:=.fn (.yield l16) []) J)<|l4 J (λhg=>oL J J J a1X K8 nl J) ?_;rcases Bool.eq_false_or_eq_true ((v12.Kind==v8.2)==true) with hg24 | hg24
   ·have h:=ifT h hg24;refine T7 (WE [(1000003,.ptr 2004 0 0),(1000004,.ptr 2003 0 0),(1000007,.fn (.func 363) [.rptr (g5.Pc v8.1),.rptr [.I v8.2]]),(0,.fn (.yield l16) []),(2,.rptr [.I v8.2]),(7,.L k9.Pv v8.1.L),(8,.I (v8.1.L.length:Int)),(9,.I s10),(17,.bool (v12.Kind==v8.2)),(18,.fn (.yield l16) []),(19,k9.Pv v12)] [(2003,vR (.bool false) 1),(2004,vR (.I a1) 1)]) ?_;refine a7T hR19 (congrArg some hg24) J J J J J (λe25 o26 o27=>?_);refine S6 2 J ?_;refine⟨J,?_⟩;refine c9<|S4 4 J ?_;refine cN h (λhc h=>?_) λhc h=>?_
    ·refine S4 1 J ?_;refine b6 ?_;refine⟨J,?_⟩;refine T7 (WE [(1000003,.ptr 2004 0 0),(1000004,.ptr 2003 0 0),(1000007,.fn (.func 363) [.rptr (g5.Pc v8.1),.rptr [.I v8.2]]),(0,.fn (.yield l16) []),(2,.rptr [.I v8.2]),(7,.L k9.Pv v8.1.L),(8,.I (v8.1.L.length:Int)),(9,.I s10),(17,.bool (v12.Kind==v8.2)),(20,.bool false)] [(2003,vR (.bool true) 1),(2004,vR (.I a1) 1)])<|y0 (congrArg some hg24) (a2f J J)<|y0 J (a7p J J hg24)<|yN ?_;refine J0 true J (λ_=>?_) (λq=>nomatch q);refine b6 ?_;refine .inr ⟨.ret,J,d0k ?_⟩;have h:=xL hx22 h;cases h;exact⟨J,[_],⟨oS J J J b05 J,tr⟩,J,io⟩
    ·refine b8 ?_;refine⟨J,?_⟩;refine T7 (WE [(1000003,.ptr 2004 0 0),(1000004,.ptr 2003 0 0),(1000007,.fn (.func 363) [.rptr (g5.Pc v8.1),.rptr [.I v8.2]]),(0,.fn (.yield l16) []),(2,.rptr [.I v8.2]),(7,.L k9.Pv v8.1.L),(8,.I (v8.1.L.length:Int)),(9,.I s10),(17,.bool (v12.Kind==v8.2)),(20,.bool true)] [(2003,vR (.bool false) 1),(2004,vR (.I a1) 1)])<|y0 (congrArg some hg24) (a2f J J)<|y0 J (a7p J J hg24)<|yN ?_;refine J0 false J (λq=>nomatch q) (λ_=>?_);refine b8<|S6 2 J ?_;exact eL h W
   ·have h:=ifF h hg24;refine a2t (congrArg some hg24)<|a2t (congrArg some hg24)<|y0 J (a9D J J hg24)<|yN ?_;refine J0 false J (λq=>nomatch q) (λ_=>?_);refine b8<|S6 2 J ?_;exact eL h W
  ·refine o5 ?_;refine c4<|c4<|k7 ?_;refine .inl ⟨J,?_⟩;have h:=xL hx22 h;exact eJ h (WP (λl=>if l=2001 then 2003 else l))

theorem b3R{a0 a1}:PO Tryz.prog 308 [.L g6.Pv a0,.I a1] (a6S a0 a1) λr=>.bool r:=by
 refine pO Tryz.func308 λr h _ _=>?_;unfold a6S at h;refine S4 1 J<|S3 3 J<|l4 J (λhg=>mI J)<|l4 J (λhg=>om (d:=.L g6.Pv a0) J)<|l4 J (λhg=>T8 (f:=g6.Pv) (ct hg) R7)<|l4 J (λhg=>y5 (ct hg) (ct hg) J)<|y0 J (z7 J J J (λq=>eqT q))<|S2 1 J<|b6 ?_;cases h;exact f1

theorem a8a{a0}:PON Tryz.prog 319 [.L g6.Pv a0] (a0G a0) λr=>⟨List.map g6.Pv r,0,true,3,true⟩:=by
 refine pON Tryz.func319 λr h _ _=>?_;unfold a0G at h;refine S4 1 J<|S3 1 J<|nL J R7<|r9 h λv1 hv1 h=>y1 J (c0G (f:=g6.Pv) hv1 J J J R7 W4 b7S c3x J J J) J<|S2 1 J<|S3 2 J<|r9 h λv2 hv2 h=>d6C (f:=g6.Pv) hv2 J J J (.inl ⟨_,J,J⟩) R7 W4 (λ_=>J) (by decide)<|yN<|S4 2 J<|b6 ?_
 cases h;exact⟨J,_,_,J,J,J,J⟩

theorem c1N{a0 a1 a2 a3}:PO Tryz.prog 305 [.L g6.Pv a0,.I a1,.I a2,.I a3] (b2E a0 a1 a2 a3) λr=>.tup [.L g6.Pv r.1,.I r.2.1,.I r.2.2]:=by
 refine pO Tryz.func305 λr h _ _=>?_;refine S4 3 J<|c8<|S3 2 J<|cA h b3R J J λv1 _ h=>S2 1 J ?_;refine cN h (λhc h=>?_) λhc h=>?_
 ·refine S4 4 J ?_;refine b6 ?_;cases h;exact f3
 ·refine b8 ?_;refine S3 1 J<|r9 h λv2 hv2 h=>ycN J (b7e J a8a J hv2) J J<|S2 1 J<|S3 6 J<|y0 J (o8 (cs:=[.I a2,.bool (a2 != 0),.I a3]) J c9A b7S J J J)<|r9 h λv3 hv3 h=>y0 J (a0r (f:=g6.Pv) hv3 J J J J R7 W4 J)<|a43 (f:=g6.Pv) (v:=(⟨a2,(a2 != 0),a3⟩:g6)) hv3 J J (.inl J) W4<|yN<|dr [] o9 (by kernel_rfl) (by kernel_rfl)<|S7 3 J<|r9 h λv4 hv4 h=>d0 J (u7 (f:=g6.Pv) (cs:=g6.Pc v4) hv4 J J R7 W4 J J) J<|S8 5 J<|b6 ?_
  cases h;exact f3

theorem a8G{a0 a1 a2}:PO Tryz.prog 307 [b7.Pv a0,.I a1,.I a2] (a1L a0 a1 a2) λr=>b7.Pv r:=by
 refine pO Tryz.func307 λr h _ _=>?_;refine S4 2 J<|S3 4 J<|cA h J2 J J λv1 _ h=>S2 5 J<|c8<|S4 2 J ?_;refine cN h (λhc h=>?_) λhc h=>?_
 ·refine S3 5 J ?_;refine iL h J J N3 Q0 λv2 _ h=>S2 4 J<|S4 6 J<|S5 4 J<|cF h a0X J J λv3 _ h=>S2 5 J<|S4 2 J<|b6 ?_;cases h;exact⟨J,[_],⟨oL J J J u9 p9 nl J,tr⟩,J,io⟩
 ·refine b8 ?_;refine S4 2 J<|b6 ?_;cases h;exact⟨J,[_],⟨oL J J J u9 p9 nl J,tr⟩,J,io⟩

theorem a2p{a0 a1}:PO Tryz.prog 257 [e6.Pv a0,.I a1] (O1 a0 a1) λr=>.tup [e6.Pv r.1,.I r.2]:=by
 refine pO Tryz.func257 λr h _ _=>?_;refine S4 3 J<|S3 2 J<|cA h J2 J J λv1 _ h=>S2 5 J<|c8<|S4 2 J ?_;refine cN h (λhc h=>?_) λhc h=>?_
 ·refine S4 4 J ?_;refine b6 ?_;cases h;exact⟨J,[_,_],⟨oL J J J a3B a10 nl J,⟨J,tr⟩⟩,J,io⟩
 ·refine b8 ?_;refine S3 3 J<|iL h J J N3 Q0 λv2 _ h=>S2 3 J<|c8<|S4 4 J ?_;refine cN h (λhc h=>?_) λhc h=>?_
  ·refine S3 3 J ?_;refine y0 J (o8 (cs:=[.I 3,.I v2.Gen,.I 0,.I 0,.I 0,.I 0,.bool false,.nl]) J b4d a9o J J J)<|cF h J3 J J λv3 _ h=>S2 2 J<|b6 ?_;cases h;exact⟨J,[_,_],⟨oL J J J a3B a10 nl J,⟨J,tr⟩⟩,J,io⟩
  ·refine b8 ?_;refine S3 4 J<|y0 J (o8 (cs:=[.I 0,.I (x8 (v2.Gen+1)),.I 0,.I 0,.I 0,.I 0,.bool false,.nl]) J b4d a9o J J J)<|cF h J3 J J λv4 _ h=>S2 2 J<|b6 ?_;cases h;exact⟨J,[_,_],⟨oL J J J a3B a10 nl J,⟨J,tr⟩⟩,J,io⟩

theorem b2V{a0 a1}:PO Tryz.prog 306 [b7.Pv a0,.I a1] (a3c a0 a1) λr=>b7.Pv r:=by
 refine pO Tryz.func306 λr h _ _=>?_;refine S4 2 J<|S3 2 J<|cF h a8G J J λv1 _ h=>S2 1 J<|S3 4 J<|cA h J2 J J λv2 _ h=>S2 5 J<|c8<|S4 2 J ?_;refine cN h (λhc h=>?_) λhc h=>?_
 ·refine S4 2 J ?_;refine b6 ?_;cases h;exact⟨J,[_],⟨oL J J J u9 p9 nl J,tr⟩,J,io⟩
 ·refine b8 ?_;refine c8<|S3 5 J<|iL h J J N3 Q0 λv3 _ h=>S2 3 J<|S3 4 J<|l4 J (λhg=>oF J c47 J)<|l4 J (λhg=>oF (ct hg) c45 J)<|l4 J (λhg=>oS (ct hg) J J C5 J)<|l4 J (λhg=>y5 (ct hg) J J)<|y0 J (z7 J J J (λq=>eqT q))<|yN ?_;refine cN h (λhc h=>?_) λhc h=>?_
  ·refine S5 4 J ?_;refine cF h a2p J J λv4 _ h=>S2 6 J<|S4 2 J<|b6 ?_;cases h;exact⟨J,[_],⟨oL J J J u9 p9 nl J,tr⟩,J,io⟩
  ·refine b8 ?_;refine S4 2 J<|b6 ?_;cases h;exact⟨J,[_],⟨oL J J J u9 p9 nl J,tr⟩,J,io⟩

theorem b1B{a0 a1 a2 a3}:PO Tryz.prog 245 [b7.Pv a0,.I a1,.I a2,.I a3] (a0O a0 a1 a2 a3) λr=>.tup [b7.Pv r.1,.I r.2]:=by
 refine pO Tryz.func245 λr h _ _=>?_;unfold a0O at h;refine S4 3 J<|c8<|S3 3 J<|l4 J (λhg=>mI J)<|l4 J (λhg=>oF J b9V J)<|l4 J (λhg=>oS (ct hg) J J c6n J)<|l4 J (λhg=>T8 (f:=g6.Pv) (ct hg) R7)<|l4 J (λhg=>y5 (ct hg) (ct hg) J)<|y0 J (C7 J J J (λq=>eqF q))<|S1 1 J<|l4 J (λhg=>oF J b9W J)<|l4 J (λhg=>oL (ct hg) J J a5O a11 nl J)<|l4 J (λhg=>mI J)<|r9 h λv1 hv1 h=>l4 J (λhg=>D4 J b6D (D8 (ct hg) (D8 (ct hg) J)) (G8 hv1 hg))<|y0 J (C7 J J J (λq=>eqF q))<|yN ?_;refine cN h (λhc h=>?_) λhc h=>?_
 ·refine S4 3 J ?_;refine b6 ?_;cases h;exact⟨J,[_,_],⟨oL J J J u9 p9 nl J,⟨J,tr⟩⟩,J,io⟩
 ·refine b8 ?_;refine c8<|S3 2 J<|cA h V0 J J λv2 _ h=>S2 1 J ?_;refine cN h (λhc h=>?_) λhc h=>?_
  ·refine S4 3 J ?_;refine b6 ?_;cases h;exact⟨J,[_,_],⟨oL J J J u9 p9 nl J,⟨J,tr⟩⟩,J,io⟩
  ·refine b8 ?_;refine S3 5 J<|cF h c1N J J λv3 _ h=>S2 7 J<|S4 3 J<|S3 2 J<|cF h a8G J J λv4 _ h=>S1 1 J<|cF h b2V J J λv5 _ h=>S2 2 J<|b6 ?_;cases h;exact⟨J,[_,_],⟨oL J J J u9 p9 nl J,⟨J,tr⟩⟩,J,io⟩

theorem a2e{a0}:PO Tryz.prog 156 [s7.Pv a0] (U2 a0) λr=>.tup [b7.Pv r.1,.I r.2]:=by
 refine pO Tryz.func156 λr h _ _=>?_;refine S4 3 J<|c8<|S4 4 J ?_;refine cN h (λhc h=>?_) λhc h=>?_
 ·refine S3 8 J ?_;refine cF h b1B J J λv1 _ h=>S2 4 J<|b6 ?_;cases h;exact⟨J,[_,_],⟨oL J J J u9 p9 nl J,⟨J,tr⟩⟩,J,io⟩
 ·refine b8 ?_;refine S3 5 J<|cA h Q8 J J λv2 _ h=>S2 5 J<|c8<|S4 2 J ?_;refine cN h (λhc h=>?_) λhc h=>?_
  ·refine S4 5 J ?_;refine b6 ?_;cases h;exact⟨J,[_,_],⟨oL J J J u9 p9 nl J,⟨J,tr⟩⟩,J,io⟩
  ·refine b8 ?_;refine S3 9 J<|cF h b1B J J λv3 _ h=>S2 4 J<|b6 ?_;cases h;exact⟨J,[_,_],⟨oL J J J u9 p9 nl J,⟨J,tr⟩⟩,J,io⟩

theorem b9G{a0 a1}:PO Tryz.prog 246 [.L g6.Pv a0,.I a1] (a6R a0 a1) λr=>.tup [.I r.1,.I r.2]:=by
 refine pO Tryz.func246 λr h _ _=>?_;refine S4 2 J<|c8<|S3 2 J<|cA h b3R J J λv1 _ h=>S2 1 J ?_;refine cN h (λhc h=>?_) λhc h=>?_
 ·refine S4 2 J ?_;refine b6 ?_;cases h;exact f2
 ·refine b8 ?_;refine c8<|S3 2 J<|iL h J J R7 W4 λv2 hv2 h=>S1 4 J<|l4 J (λhg=>om (d:=.L g6.Pv a0) J)<|l4 J (λhg=>mI J)<|l4 J (λhg=>u7 (f:=g6.Pv) (cs:=g6.Pc v2) hv2 (ct hg) (ct hg) R7 W4 J J)<|l4 J (λhg=>A5 (ct hg) c5c J)<|l4 J (λhg=>F6 (ct hg) b05 J)<|l4 J (λhg=>a2f (ct hg) J)<|y0 J (C7 J J J (λq=>eqF q))<|yN ?_;refine cN h (λhc h=>?_) λhc h=>?_
  ·refine S4 2 J ?_;refine b6 ?_;cases h;exact f2
  ·refine b8 ?_;refine S3 2 J<|y0 J (u7 (f:=g6.Pv) (cs:=g6.Pc v2) hv2 J J R7 W4 J J)<|S2 4 J<|b6 ?_;cases h;exact f2

theorem a4J{a0}:PO Tryz.prog 157 [s7.Pv a0] (X8 a0) λr=>.tup [b7.Pv r.1,.I r.2]:=by
 refine pO Tryz.func157 λr h _ _=>?_;unfold X8 at h;refine S4 3 J<|dr [] o9 (by kernel_rfl) (by kernel_rfl)<|S7 7 J<|r9 h λv1 hv1 h=>d2 J (D4 J b9G J hv1) J<|S7 2 J<|r9 h λv2 hv2 h=>d2f J (u6 J H8 J hv2) J<|S7 2 J<|A3 (x':=b7.Pv v2.1) (cl':=true) J J (.inr J) p9<|S8 1 J<|b6 ?_
 cases h;exact⟨J,[_,_],⟨oL J J J u9 p9 nl J,⟨J,tr⟩⟩,J,io⟩

theorem b1y{a0 a1}:PO Tryz.prog 351 [.I a0,.I a1] (a4j a0 a1) λr=>.fn (.func 364) [.rptr [.I r.1],.rptr [.I r.2]]:=by
 refine pO Tryz.func351 λr h _ _=>?_;unfold a4j at h;refine S4 3 J<|S4 2 J<|b6 ?_;cases h;exact f1

theorem b1v{a0 a1}:PO Tryz.prog 365 [.I a0,.I a1] (a0M a0 a1) λr=>.I r:=by
 refine pO Tryz.func365 λr h _ _=>?_;refine S4 1 J<|c8<|S4 2 J ?_;refine cN h (λhc h=>?_) λhc h=>?_
 ·refine S4 1 J ?_;refine b6 ?_;cases h;exact f1
 ·refine b8 ?_;refine S3 4 J<|r9 h λv1 hv1 h=>y0 J (a74 J J hv1)<|S2 1 J<|c8<|S4 2 J ?_;refine cN h (λhc h=>?_) λhc h=>?_
  ·refine S6 4 J ?_;refine S4 2 J<|b6 ?_;cases h;exact f1
  ·refine b8 ?_;refine S4 2 J<|b6 ?_;cases h;exact f1

theorem a7e{a0 a1}:PO Tryz.prog 321 [.L c5.Pv a0,.I a1] (Y5 a0 a1) λr=>.I r:=by
 refine pO Tryz.func321 λr h _ _=>?_;refine S4 3 J ?_;refine jq h (λ_=>St.of [(4,.ptr 2001 0 0)] [(2001,vR (.I 0) 1)]) (λq9 h=>?_) λκ8 h=>?_
 ·refine S4 1 J ?_;refine b6 ?_;cases h;exact⟨J,[_],⟨oS J J J C5 J,tr⟩,J,io⟩
 ·refine S3 1 J ?_;refine nL J Z2<|S1 1 J<|cF h b1y J J λv10 _ h=>yN<|c9<|a3v (WPE (λl=>if l=2004 then 4 else if l=2005 then 3 else if l=2006 then 2 else l) [(2,.ptr 2006 0 0),(3,.ptr 2005 0 0),(4,.ptr 2004 0 0),(9,.fn (.func 364) [.rptr [.I v10.1],.rptr [.I v10.2]])] [(2004,vR (.I 0) 1),(2005,vR (.I a1) 1),(2006,vR (.L c5.Pv a0) 1)]) ?_
  refine a2h (fn:=Tryz.f364) (N1:=20) J Tryz.func364 J J nl J c3C J J (λl17 e18 o19 hR20=>?_);refine S4 2 J<|c9<|lq h (λs12=>St.of [(1000002,.ptr 2006 0 0),(1000003,.ptr 2005 0 0),(1000004,.ptr 2004 0 0),(1000009,.fn (.func 364) [.rptr [.I v10.1],.rptr [.I v10.2]]),(0,.fn (.yield l17) []),(1,.rptr [.I v10.1]),(2,.rptr [.I v10.2]),(5,.I v10.1),(6,.I s12)] [(2004,vR (.I 0) 1),(2005,vR (.I a1) 1),(2006,vR (.L c5.Pv a0) 1)]) W λs12 x13 h hx23=>S4 1 J<|c8 ?_;refine cN h (λhc h=>?_) λhc h=>?_
  ·refine b8 ?_;refine c8<|c9<|S4 2 J<|drY [] 8 o9 (by kernel_rfl) (by kernel_rfl) (by kernel_rfl) (by kernel_rfl) nl<|S7 3 J<|r9 h λv14 hv24 h=>d2 J (D4 J b1v J hv24) J<|S7 3 J<|r9 h λv15 hv25 h=>d7 J (λ_ hN=>a74 J J hv25) J<|G0<|c8b (WE [(1000002,.ptr 2006 0 0),(1000003,.ptr 2005 0 0),(1000004,.ptr 2004 0 0),(1000009,.fn (.func 364) [.rptr [.I v10.1],.rptr [.I v10.2]]),(0,.fn (.yield l17) []),(1,.rptr [.I v10.1]),(2,.rptr [.I v10.2]),(5,.I v10.1),(6,.I s12),(9,.fn (.yield l17) []),(16,.I v15)] [(2004,vR (.I 0) 1),(2005,vR (.I a1) 1),(2006,vR (.L c5.Pv a0) 1)]) ?_
   refine b6c J hR20 J J J J J J (λe26 o27 o28=>?_);refine S6 1 J ?_;refine⟨J,?_⟩;refine c9<|c8<|S3 2 J<|iL h J J Z2 a0J λv16 hv29 h=>S2 3 J ?_;refine cN h (λhc h=>?_) λhc h=>?_
   ·refine o5 ?_;refine c4<|a3Z (by decide) ?_
    refine⟨J,?_⟩;refine⟨_,b6a [(1000002,.ptr 2006 0 0),(1000003,.ptr 2005 0 0),(1000004,.ptr 2004 0 0),(1000009,.fn (.func 364) [.rptr [.I v10.1],.rptr [.I v10.2]]),(0,.fn (.yield l17) []),(1,.rptr [.I v10.1]),(2,.rptr [.I v10.2]),(5,.I v10.1),(6,.I s12),(17,.bool false)] [(2004,vR (.I 0) 1),(2005,vR (.I a1) 1),(2006,vR (.L c5.Pv a0) 1)] ⟨J,J,J,J,J,J,J,J,J,J,J,J,J,J,J,J,J,J,J,J,J,J,J,J,J,J,J,J,J,J,tr⟩ ⟨rS,rS,rS,tr⟩,?_⟩;refine S8 1 J ?_;refine J0 true J (λ_=>?_) (λq=>nomatch q);refine b6 ?_;refine .inr ⟨.exit 0,J,d7m ?_⟩;refine k7 ?_;have h:=xL hx23 h;exact eJ h (WP (λl=>if l=2001 then 2004 else l))
   ·refine b8 ?_;refine dr [] o9 (by kernel_rfl) (by kernel_rfl)<|S7 2 J<|d0 J (u7 (f:=c5.Pv) (cs:=c5.Pc v16) hv29 J J Z2 a0J J J) J<|S7 4 J<|J7 J (λhg=>oS J J J b4L J) J<|D0 J (λhg _ hN=>mI J) J<|J7 J (λhg=>u7 (f:=c5.Pv) (cs:=c5.Pc v16) hv29 (ct hg) (ct hg) Z2 a0J J J) J<|D0 J (λhg _ hN=>A5 (ct hg) c5d J) J<|J7 J (λhg=>F6 (ct hg) C5 J) J<|J7 J (λhg=>oS J J J C5 J) J<|D0 J (λhg _ hN=>y5 (ct hg) (ct hg) J) J<|d7 J (λ_ hN=>z7 J J J (λq=>eqT q)) J<|G0 ?_
    refine cN h (λhc h=>?_) λhc h=>?_
    ·refine S4 2 J ?_;refine b6 ?_;refine⟨J,?_⟩;refine⟨_,b6a [(1000002,.ptr 2006 0 0),(1000003,.ptr 2005 0 0),(1000004,.ptr 2004 0 0),(1000009,.fn (.func 364) [.rptr [.I v10.1],.rptr [.I v10.2]]),(0,.fn (.yield l17) []),(1,.rptr [.I v10.1]),(2,.rptr [.I v10.2]),(5,.I v10.1),(6,.I s12),(17,.bool false)] [(2004,vR (.I v15) 1),(2005,vR (.I a1) 1),(2006,vR (.L c5.Pv a0) 1)] ⟨J,J,J,J,J,J,J,J,J,J,J,J,J,J,J,J,J,J,J,J,J,J,J,J,J,J,J,J,J,J,tr⟩ ⟨rS,rS,rS,tr⟩,?_⟩;refine S8 1 J ?_;refine J0 true J (λ_=>?_) (λq=>nomatch q);refine b6 ?_;refine .inr ⟨.ret,J,d0k ?_⟩;have h:=xL hx23 h;cases h;exact⟨J,[_],⟨oS J J J C5 J,tr⟩,J,io⟩
    ·refine b8 ?_;refine⟨J,?_⟩;refine⟨_,b6a [(1000002,.ptr 2006 0 0),(1000003,.ptr 2005 0 0),(1000004,.ptr 2004 0 0),(1000009,.fn (.func 364) [.rptr [.I v10.1],.rptr [.I v10.2]]),(0,.fn (.yield l17) []),(1,.rptr [.I v10.1]),(2,.rptr [.I v10.2]),(5,.I v10.1),(6,.I s12),(17,.bool true)] [(2004,vR (.I 0) 1),(2005,vR (.I a1) 1),(2006,vR (.L c5.Pv a0) 1)] ⟨J,J,J,J,J,J,J,J,J,J,J,J,J,J,J,J,J,J,J,J,J,J,J,J,J,J,J,J,J,J,tr⟩ ⟨rS,rS,rS,tr⟩,?_⟩;refine S8 1 J ?_;refine J0 false J (λq=>nomatch q) (λ_=>?_);refine b8<|S6 2 J ?_;exact eL h W
  ·refine o5 ?_;refine c4<|c4<|k7 ?_;refine .inl ⟨J,?_⟩;have h:=xL hx23 h;exact eJ h (WP (λl=>if l=2001 then 2004 else l))

theorem a5p{a0 a1}:PO Tryz.prog 311 [.L c5.Pv a0,.I a1] (L9 a0 a1) λr=>.tup [.I r.1,.I r.2]:=by
 refine pO Tryz.func311 λr h _ _=>?_;refine S4 2 J<|S3 2 J<|cA h a7e J J λv1 _ h=>S2 1 J<|c8<|S4 2 J ?_;refine cN h (λhc h=>?_) λhc h=>?_
 ·refine S4 2 J ?_;refine b6 ?_;cases h;exact f2
 ·refine b8 ?_;refine S3 2 J<|iL h J J Z2 a0J λv2 _ h=>S2 4 J<|b6 ?_;cases h;exact f2

theorem a0D{a0}:PON Tryz.prog 352 [.L c5.Pv a0] (E2 a0) λr=>⟨List.map c5.Pv r,0,true,3,true⟩:=by
 refine pON Tryz.func352 λr h _ _=>?_;unfold E2 at h;refine S4 1 J<|c8<|S3 1 J<|b9J J Z2 λb hb=>yN ?_;refine J0 b J (λhc=>?_) (λhc=>?_)
 ·obtain rfl:a0 = []:=by simpa using hb hc
  refine S4 1 J<|a3v (C9 (t:=2) (l:=920000) (z:=3) J J)<|b6 ?_;cases h;exact⟨J,_,_,J,J,J,J⟩
 ·refine b8 ?_;refine sR<|y0 J (A2 J Z2 a0J)<|S1 1 J<|y1 J (a4L (f:=c5.Pv) h J J (.inl ⟨_,J,J⟩) Z2 a0J c3y b4g J (λ_=>J)) J<|S2 1 J<|b6 ?_;exact⟨J,_,_,J,J,J,J⟩

theorem a7f{a0 a1 a2}:PO Tryz.prog 322 [.L c5.Pv a0,.I a1,c5.Pv a2] (a1K a0 a1 a2) λr=>.L c5.Pv r:=by
 refine pO Tryz.func322 λr h _ _=>?_;unfold a1K at h;refine S4 2 J<|S3 1 J<|r9 h λv1 hv1 h=>ycN J (b7e J a0D J hv1) J J<|S2 1 J<|S3 3 J<|r9 h λv2 hv2 h=>y0 J (a0r (f:=c5.Pv) hv2 J J J J Z2 a0J J)<|a43 (f:=c5.Pv) (v:=a2) hv2 J J (.inl J) a0J<|yN<|S4 2 J<|b6 ?_;cases h;exact f1

theorem b1u{a0 a1}:PO Tryz.prog 255 [.L c5.Pv a0,.I a1] (Y4 a0 a1) λr=>.tup [.L c5.Pv r.1,.I r.2.1,.I r.2.2]:=by
 refine pO Tryz.func255 λr h _ _=>?_;refine S4 3 J<|S3 2 J<|cA h a7e J J λv1 _ h=>S2 1 J<|c8<|S4 2 J ?_;refine cN h (λhc h=>?_) λhc h=>?_
 ·refine S4 4 J ?_;refine b6 ?_;cases h;exact f3
 ·refine b8 ?_;refine dr [] o9 (by kernel_rfl) (by kernel_rfl)<|S7 2 J<|d7 J (λ_ hN=>o8 (cs:=[.I 2,.I 0,.I 0]) J c3H b4g J J J) J<|r9 h λv2 hv2 h=>d2f J (u6 J a7f J hv2) J<|S7 2 J<|r9 h λv3 hv3 h=>d0 J (u7 (f:=c5.Pv) (cs:=c5.Pc v3) hv3 J J Z2 a0J J J) J<|S8 5 J<|b6 ?_
  cases h;exact f3

theorem c0p{a0 a1 a2}:PO Tryz.prog 347 [.L c5.Pv a0,.I a1,.I a2] (a8E a0 a1 a2) λr=>.tup [.L c5.Pv r.1,.I r.2]:=by
 refine pO Tryz.func347 λr h _ _=>?_;refine S4 3 J<|S3 2 J<|y0 J (o8 (cs:=[.I 1,.I a1,.I a2]) J c3H b4g J J J)<|S2 2 J<|c8<|S3 2 J<|cA h a7e J J λv1 _ h=>S2 1 J<|S4 2 J ?_;refine cN h (λhc h=>?_) λhc h=>?_
 ·refine S3 3 J ?_;refine cF h a7f J J λv2 _ h=>S2 2 J<|b6 ?_;cases h;exact⟨J,[_,_],⟨oS J J J b4L J,⟨oS J J J b0x J,tr⟩⟩,J,io⟩
 ·refine b8 ?_;refine jq h (λ_=>St.of [(3,.ptr 2004 0 0),(6,.ptr 2003 0 0),(7,.ptr 2002 0 0)] [(2002,vR (.I 0) 1),(2003,vR (.nl) 1),(2004,vR (.L c5.Pv a0) 1)]) (λq12 h=>?_) λκ11 h=>?_
  ·refine S4 3 J ?_;refine b6 ?_;cases h;exact⟨J,[_,_],⟨oS J J J b4L J,⟨oS J J J b0x J,tr⟩⟩,J,io⟩
  ·refine S3 1 J ?_;refine nL J Z2<|S1 1 J<|cF h b1y J J λv13 _ h=>yN<|c9<|a3v (WPE (λl=>if l=2005 then 8 else if l=2006 then 7 else if l=2007 then 6 else if l=2008 then 3 else l) [(3,.ptr 2008 0 0),(6,.ptr 2007 0 0),(7,.ptr 2006 0 0),(8,.ptr 2005 0 0),(26,.fn (.func 364) [.rptr [.I v13.1],.rptr [.I v13.2]])] [(2005,vR (.agg [.I 1,.I a1,.I a2]) 3),(2006,vR (.I 0) 1),(2007,vR (.nl) 1),(2008,vR (.L c5.Pv a0) 1)]) ?_
   refine a2h (fn:=Tryz.f364) (N1:=20) J Tryz.func364 J J nl J c3C J J (λl20 e21 o22 hR23=>?_);refine S4 2 J<|c9<|lq h (λs15=>St.of [(1000003,.ptr 2008 0 0),(1000006,.ptr 2007 0 0),(1000007,.ptr 2006 0 0),(1000008,.ptr 2005 0 0),(1000026,.fn (.func 364) [.rptr [.I v13.1],.rptr [.I v13.2]]),(0,.fn (.yield l20) []),(1,.rptr [.I v13.1]),(2,.rptr [.I v13.2]),(5,.I v13.1),(6,.I s15)] [(2005,vR (.agg [.I 1,.I a1,.I a2]) 3),(2006,vR (.I 0) 1),(2007,vR (.nl) 1),(2008,vR (.L c5.Pv a0) 1)]) W λs15 x16 h hx26=>S4 1 J<|c8 ?_;refine cN h (λhc h=>?_) λhc h=>?_
   ·refine b8 ?_;refine c8<|c9<|S4 2 J<|drY [] 8 o9 (by kernel_rfl) (by kernel_rfl) (by kernel_rfl) (by kernel_rfl) nl<|S7 3 J<|r9 h λv17 hv27 h=>d2 J (D4 J b1v J hv27) J<|S7 3 J<|r9 h λv18 hv28 h=>d7 J (λ_ hN=>a74 J J hv28) J<|G0<|c8b (WE [(1000003,.ptr 2008 0 0),(1000006,.ptr 2007 0 0),(1000007,.ptr 2006 0 0),(1000008,.ptr 2005 0 0),(1000026,.fn (.func 364) [.rptr [.I v13.1],.rptr [.I v13.2]]),(0,.fn (.yield l20) []),(1,.rptr [.I v13.1]),(2,.rptr [.I v13.2]),(5,.I v13.1),(6,.I s15),(9,.fn (.yield l20) []),(16,.I v18)] [(2005,vR (.agg [.I 1,.I a1,.I a2]) 3),(2006,vR (.I 0) 1),(2007,vR (.nl) 1),(2008,vR (.L c5.Pv a0) 1)]) ?_
    refine b6c J hR23 J J J J J J (λe29 o30 o31=>?_);refine S6 1 J ?_;refine⟨J,?_⟩;refine c9<|S3 2 J<|iL h J J Z2 a0J λv19 _ h=>S2 3 J ?_;refine cN h (λhc h=>?_) λhc h=>?_
    ·refine S3 3 J ?_;refine cF h a7f J J λv20 _ h=>S2 2 J<|b6 ?_;refine⟨J,?_⟩;refine⟨_,b6a [(1000003,.ptr 2008 0 0),(1000006,.ptr 2007 0 0),(1000007,.ptr 2006 0 0),(1000008,.ptr 2005 0 0),(1000026,.fn (.func 364) [.rptr [.I v13.1],.rptr [.I v13.2]]),(0,.fn (.yield l20) []),(1,.rptr [.I v13.1]),(2,.rptr [.I v13.2]),(5,.I v13.1),(6,.I s15),(17,.bool false)] [(2005,vR (.agg [.I 1,.I a1,.I a2]) 3),(2006,vR (.I 0) 1),(2007,vR (.L c5.Pv v20) 1),(2008,vR (.L c5.Pv a0) 1)] ⟨J,J,J,J,J,J,J,J,J,J,J,J,J,J,J,J,J,J,J,J,J,J,J,J,J,J,J,J,J,J,J,J,J,tr⟩ ⟨rS,rS,rS,rS,tr⟩,?_⟩;refine S8 1 J ?_;refine J0 true J (λ_=>?_) (λq=>nomatch q);refine b6 ?_;refine .inr ⟨.ret,J,d0k ?_⟩;have h:=xL hx26 h;cases h;exact⟨J,[_,_],⟨oS J J J b4L J,⟨oS J J J b0x J,tr⟩⟩,J,io⟩
    ·refine b8 ?_;refine⟨J,?_⟩;refine⟨_,b6a [(1000003,.ptr 2008 0 0),(1000006,.ptr 2007 0 0),(1000007,.ptr 2006 0 0),(1000008,.ptr 2005 0 0),(1000026,.fn (.func 364) [.rptr [.I v13.1],.rptr [.I v13.2]]),(0,.fn (.yield l20) []),(1,.rptr [.I v13.1]),(2,.rptr [.I v13.2]),(5,.I v13.1),(6,.I s15),(17,.bool true)] [(2005,vR (.agg [.I 1,.I a1,.I a2]) 3),(2006,vR (.I 0) 1),(2007,vR (.nl) 1),(2008,vR (.L c5.Pv a0) 1)] ⟨J,J,J,J,J,J,J,J,J,J,J,J,J,J,J,J,J,J,J,J,J,J,J,J,J,J,J,J,J,J,J,J,J,tr⟩ ⟨rS,rS,rS,rS,tr⟩,?_⟩;refine S8 1 J ?_;refine J0 false J (λq=>nomatch q) (λ_=>?_);refine b8<|S6 2 J ?_;exact eL h W
   ·refine o5 ?_;refine c4<|c4<|k7 ?_;refine .inl ⟨J,?_⟩;have h:=xL hx26 h;exact eJ h (WP (λl=>if l=2004 then 2008 else if l=2003 then 2007 else if l=2002 then 2006 else l))

theorem b8f{a0 a1 a2}:PO Tryz.prog 309 [.L c5.Pv a0,.I a1,.I a2] (U7 a0 a1 a2) λr=>.tup [.L c5.Pv r.1,.I r.2.1,.I r.2.2]:=by
 refine pO Tryz.func309 λr h _ _=>?_;refine S4 3 J<|c8<|S4 2 J ?_;refine cN h (λhc h=>?_) λhc h=>?_
 ·refine S4 4 J ?_;refine b6 ?_;cases h;exact f3
 ·refine b8 ?_;refine S3 2 J<|cA h a5p J J λv1 _ h=>S2 5 J<|c8<|S4 2 J ?_;refine cN h (λhc h=>?_) λhc h=>?_
  ·refine S3 2 J ?_;refine cF h b1u J J λv2 _ h=>S2 7 J<|S4 5 J<|b6 ?_;cases h;exact f3
  ·refine b8 ?_;refine S3 3 J<|cF h c0p J J λv3 _ h=>S2 5 J<|c8<|S4 2 J ?_;refine cN h (λhc h=>?_) λhc h=>?_
   ·refine S4 5 J ?_;refine b6 ?_;cases h;exact f3
   ·refine b8 ?_;refine S4 5 J<|b6 ?_;cases h;exact f3

theorem a8d{a0 a1}:PO Tryz.prog 310 [I6.Pv a0,b7.Pv a1] (W8 a0 a1) λr=>b7.Pv r:=by
 refine pO Tryz.func310 λr h _ _=>?_;unfold W8 at h;refine S4 3 J<|S4 4 J<|S4 2 J<|b6 ?_;cases h;exact⟨J,[_],⟨oL J J J u9 p9 nl J,tr⟩,J,io⟩

theorem a1v{a0 a1 a2 a3}:PO Tryz.prog 302 [b7.Pv a0,.I a1,.I a2,.abs (BFn 310 [I6.Pv a3])] (J8 a0 a1 a2 a3) λr=>b7.Pv r:=by
 refine pO Tryz.func302 λr h _ _=>?_;refine S4 2 J<|S3 3 J<|cF h a19 J J λv1 _ h=>r9 h λv2 hv2 h=>b9I (xs:=[b7.Pv v1]) J J c9o J (a8d.2 _ hv2)<|S1 1 J<|cF h X7 J J λv3 _ h=>S2 1 J<|b6 ?_;cases h;exact⟨J,[_],⟨oL J J J u9 p9 nl J,tr⟩,J,io⟩

theorem b8w{a0 a1 a2}:PO Tryz.prog 247 [b7.Pv a0,.I a1,.I a2] (a4k a0 a1 a2) λr=>.tup [b7.Pv r.1,.I r.2]:=by
 refine pO Tryz.func247 λr h _ _=>?_;refine S4 3 J<|c8<|S4 2 J ?_;refine cN h (λhc h=>?_) λhc h=>?_
 ·refine S4 3 J ?_;refine b6 ?_;cases h;exact⟨J,[_,_],⟨oL J J J u9 p9 nl J,⟨J,tr⟩⟩,J,io⟩
 ·refine b8 ?_;refine c8<|S3 2 J<|cA h V0 J J λv1 _ h=>S1 2 J<|l4 J (λhg=>oL J J J u9 p9 nl J)<|l4 J (λhg=>mI J)<|r9 h λv2 hv2 h=>l4 J (λhg=>D4 J V0 (D8 (ct hg) (D8 (ct hg) J)) (G8 hv2 hg))<|l4 J (λhg=>a2f (ct hg) J)<|y0 J (C7 J J J (λq=>eqF q))<|yN ?_;refine cN h (λhc h=>?_) λhc h=>?_
  ·refine S4 3 J ?_;refine b6 ?_;cases h;exact⟨J,[_,_],⟨oL J J J u9 p9 nl J,⟨J,tr⟩⟩,J,io⟩
  ·refine b8 ?_;refine S3 4 J<|cF h b8f J J λv3 _ h=>S2 7 J<|c8<|S4 2 J ?_;refine cN h (λhc h=>?_) λhc h=>?_
   ·refine S4 4 J ?_;refine b6 ?_;cases h;exact⟨J,[_,_],⟨oL J J J u9 p9 nl J,⟨J,tr⟩⟩,J,io⟩
   ·refine b8 ?_;refine S3 4 J<|y0 J (o8 (cs:=[.L c5.Pv v3.1]) J c9E c9T J J J)<|y0 J (b22 (d:=.agg [.L c5.Pv v3.1]) J)<|cF h a1v J J λv4 _ h=>S2 2 J<|b6 ?_;cases h;exact⟨J,[_,_],⟨oL J J J u9 p9 nl J,⟨J,tr⟩⟩,J,io⟩

theorem a3t{a0}:PO Tryz.prog 158 [s7.Pv a0] (a0h a0) λr=>.tup [b7.Pv r.1,.I r.2]:=by
 refine pO Tryz.func158 λr h _ _=>?_;refine S4 3 J<|S3 5 J<|cA h Q8 J J λv1 _ h=>S2 5 J<|c8<|S4 2 J ?_;refine cN h (λhc h=>?_) λhc h=>?_
 ·refine S4 5 J ?_;refine b6 ?_;cases h;exact⟨J,[_,_],⟨oL J J J u9 p9 nl J,⟨J,tr⟩⟩,J,io⟩
 ·refine b8 ?_;refine dr [] o9 (by kernel_rfl) (by kernel_rfl)<|S7 8 J<|r9 h λv2 hv2 h=>d2 J (D4 J N7 J hv2) J<|r9 h λv3 hv3 h=>d2f J (u6 J b8w J hv3) J<|S7 2 J<|A3 (x':=b7.Pv v3.1) (cl':=true) J J (.inr J) p9<|S8 1 J<|b6 ?_
  cases h;exact⟨J,[_,_],⟨oL J J J u9 p9 nl J,⟨J,tr⟩⟩,J,io⟩

theorem b8e{a0 a1}:PO Tryz.prog 248 [.L c5.Pv a0,.I a1] (b2N a0 a1) λr=>.tup [.I r.1,.I r.2]:=by
 refine pO Tryz.func248 λr h _ _=>?_;refine S4 2 J<|S3 2 J<|cA h a5p J J λv1 _ h=>S2 4 J<|b6 ?_;cases h;exact f2

theorem a3T{a0}:PO Tryz.prog 159 [s7.Pv a0] (a0P a0) λr=>.tup [b7.Pv r.1,.I r.2]:=by
 refine pO Tryz.func159 λr h _ _=>?_;refine S4 3 J<|S3 5 J<|cA h Q8 J J λv1 _ h=>S2 5 J<|c8<|S4 2 J ?_;refine cN h (λhc h=>?_) λhc h=>?_
 ·refine S4 5 J ?_;refine b6 ?_;cases h;exact⟨J,[_,_],⟨oL J J J u9 p9 nl J,⟨J,tr⟩⟩,J,io⟩
 ·refine b8 ?_;refine dr [] o9 (by kernel_rfl) (by kernel_rfl)<|S7 5 J<|r9 h λv2 hv2 h=>d2 J (D4 J b8e J hv2) J<|S7 2 J<|r9 h λv3 hv3 h=>d2f J (u6 J H8 J hv3) J<|S7 2 J<|A3 (x':=b7.Pv v3.1) (cl':=true) J J (.inr J) p9<|S8 1 J<|b6 ?_
  cases h;exact⟨J,[_,_],⟨oL J J J u9 p9 nl J,⟨J,tr⟩⟩,J,io⟩

theorem a2y{a0}:PO Tryz.prog 160 [s7.Pv a0] (P4 a0) λr=>.tup [b7.Pv r.1,.I r.2]:=by
 refine pO Tryz.func160 λr h _ _=>?_;unfold P4 at h;refine S4 3 J<|S4 4 J<|b6 ?_;cases h;exact⟨J,[_,_],⟨oL J J J u9 p9 nl J,⟨J,tr⟩⟩,J,io⟩

theorem c2m{f:Fv}{a0:s7}{r:b7 × Int}(h:b4m f a0=some r):∃n,f=some n∧C1 Tryz.prog n∧Z1 Tryz.prog n [s7.Pv a0] (.tup [b7.Pv r.1,.I r.2]):=by
 unfold b4m at h;by_cases e151:f=some 151
 ·rw[if_pos e151] at h;exact⟨151,e151,(@a2d a0).1,(@a2d a0).2 _ h⟩
 rw[if_neg e151] at h;by_cases e152:f=some 152
 ·rw[if_pos e152] at h;exact⟨152,e152,(@a01 a0).1,(@a01 a0).2 _ h⟩
 rw[if_neg e152] at h;by_cases e153:f=some 153
 ·rw[if_pos e153] at h;exact⟨153,e153,(@a3r a0).1,(@a3r a0).2 _ h⟩
 rw[if_neg e153] at h;by_cases e154:f=some 154
 ·rw[if_pos e154] at h;exact⟨154,e154,(@a3s a0).1,(@a3s a0).2 _ h⟩
 rw[if_neg e154] at h;by_cases e155:f=some 155
 ·rw[if_pos e155] at h;exact⟨155,e155,(@a2z a0).1,(@a2z a0).2 _ h⟩
 rw[if_neg e155] at h;by_cases e156:f=some 156
 ·rw[if_pos e156] at h;exact⟨156,e156,(@a2e a0).1,(@a2e a0).2 _ h⟩
 rw[if_neg e156] at h;by_cases e157:f=some 157
 ·rw[if_pos e157] at h;exact⟨157,e157,(@a4J a0).1,(@a4J a0).2 _ h⟩
 rw[if_neg e157] at h;by_cases e158:f=some 158
 ·rw[if_pos e158] at h;exact⟨158,e158,(@a3t a0).1,(@a3t a0).2 _ h⟩
 rw[if_neg e158] at h;by_cases e159:f=some 159
 ·rw[if_pos e159] at h;exact⟨159,e159,(@a3T a0).1,(@a3T a0).2 _ h⟩
 rw[if_neg e159] at h;by_cases e160:f=some 160
 ·rw[if_pos e160] at h;exact⟨160,e160,(@a2y a0).1,(@a2y a0).2 _ h⟩
 rw[if_neg e160] at h;cases h

theorem a6a{a0}:PO Tryz.prog 209 [.I a0] (a1c a0) λr=>.bool r:=by
 refine pO Tryz.func209 λr h _ _=>?_;unfold a1c at h;refine S4 1 J<|S4 4 J<|b6 ?_;cases h;exact f1

theorem b0C{a0 a1}:PO Tryz.prog 125 [.I a0,.I a1] (a3F a0 a1) λr=>.I r:=by
 refine pO Tryz.func125 λr h _ _=>?_;refine S4 1 J<|S3 1 J<|cA h a6a J J λv1 _ h=>S2 1 J<|S3 1 J<|cA h a6a J J λv2 _ h=>S2 1 J<|c8<|S4 1 J ?_;refine cN h (λhc h=>?_) λhc h=>?_
 ·refine c8 ?_;refine S4 1 J ?_;refine cN h (λhc h=>?_) λhc h=>?_
  ·refine S4 1 J ?_;refine b6 ?_;cases h;exact f1
  ·refine b8 ?_;refine S4 1 J<|b6 ?_;cases h;exact f1
 ·refine b8 ?_;refine c8<|S4 1 J ?_;refine cN h (λhc h=>?_) λhc h=>?_
  ·refine S4 1 J ?_;refine b6 ?_;cases h;exact f1
  ·refine b8 ?_;refine c8<|S4 3 J ?_;refine cN h (λhc h=>?_) λhc h=>?_
   ·refine S4 1 J ?_;refine b6 ?_;cases h;exact f1
   ·refine b8 ?_;refine c8<|S4 3 J ?_;refine cN h (λhc h=>?_) λhc h=>?_
    ·refine S4 1 J ?_;refine b6 ?_;cases h;exact f1
    ·refine b8 ?_;refine S4 1 J<|b6 ?_;cases h;exact f1

theorem b36{a0 a1 a2}:PO Tryz.prog 124 [.I a0,.I a1,.rptr [.abs (X5 (List.map (ent iF iF) a2))]] (a4g a0 a1 a2) λr=>.I r:=by
 refine pO Tryz.func124 λr h _ _=>?_;refine S4 1 J<|S3 2 J<|y0 J (c0E (es:=a2) (k:=a0) (E:=iF) (EK:=iF) (d:=.I ((C0 a2 a0).getD (0:Int))) J J b4U (B3 L7) y6 J (lk1 _ _ _))<|S1 2 J<|y0 J (c0E (es:=a2) (k:=a1) (E:=iF) (EK:=iF) (d:=.I ((C0 a2 a1).getD (0:Int))) J J b4U (B3 L7) y6 J (lk1 _ _ _))<|cA h b0C J J λv1 _ h=>S2 1 J<|b6 ?_;cases h;exact f1

theorem L6{a0}:PO Tryz.prog 68 [a7.Pv a0] (E3 a0) λr=>.L iF r:=by
 refine pO Tryz.func68 λr h _ _=>?_;refine S4 2 J<|S4 1 J<|sR<|c1Q (KT:=Int) (VT:=Int) (EK:=iF) (E:=iF) 5000008 J J<|S2 2 J ?_;refine jq h (λq=>St.of [(3,.sl 910003),(4,.ptr 4 0 0)] [(4,vS (.mp 5000008) 1),(5000008,⟨[.mapc (List.map (ent iF iF) q.1)],0,false,0,false⟩),(910003,⟨List.map iF q.2,0,true,1,true⟩)]) (λq20 h=>?_) λκ17 h=>?_
 ·obtain⟨j18,j19⟩:=q20;refine S3 2 J<|T7 (Wk.trans (d1v 5000008 nl J) (d4S 4 0 5000008 J J J J))<|r9 h λv21 hv12 h=>d4V hv12 J J c9k d4F J J J c9l J J J J J (λp q r h=>b36.2 r h)<|yN<|S4 2 J<|b6 ?_;cases h;exact f1
 ·refine S3 3 J ?_;refine nL J N3<|S2 1 J<|c9<|lq h (λq=>St.of [(3,.sl 910003),(4,.ptr 4 0 0),(11,.L b9.Pv a0.S.a8),(12,.I (a0.S.a8.length:Int)),(13,.I q.1)] [(4,vS (.mp 5000008) 1),(5000008,⟨[.mapc (List.map (ent iF iF) q.2.1)],0,false,0,false⟩),(910003,⟨List.map iF q.2.2,0,true,1,true⟩)]) (Wk.trans (C9 (t:=3) (l:=920003) (z:=1) J J) (WP (λl=>if l=910003 then 920003 else l))) λq27 x26 h hx15=>?_
  obtain⟨s23,s24,s25⟩:=q27;refine S4 1 J<|c8 ?_;refine cN h (λhc h=>?_) λhc h=>?_
  ·refine b8 ?_;refine jq h (λq=>St.of [(3,.sl 33),(4,.ptr 4 0 0),(11,.L b9.Pv a0.S.a8),(12,.I (a0.S.a8.length:Int)),(13,.I s23)] [(4,vS (.mp 5000008) 1),(5000008,⟨[.mapc (List.map (ent iF iF) q.1)],0,false,0,false⟩),(33,⟨List.map iF q.2,0,true,1,true⟩)]) (λq34 h=>?_) λκ31 h=>?_
   ·obtain⟨j32,j33⟩:=q34;refine S6 2 J ?_;exact eL h (WP (λl=>if l=910003 then 33 else l))
   ·refine c9 ?_;refine S3 1 J<|iL h J J N3 Q0 λv35 _ h=>S2 4 J<|S4 3 J ?_;refine cN h (λhc h=>?_) λhc h=>?_
    ·refine S3 3 J ?_;refine cA h a8C J J λv36 _ h=>S2 1 J<|S3 5 J<|a09 (es:=s24) (k:=v36) (v:=v35.Val.Serial) (E:=iF) (EK:=iF) (.inl J) J J J J J J b4U (B3 L7)<|yN<|S5 2 J<|y0 J (G1 (f:=iF) (l:=[v36]) J g7 m7 y6 J J nl J J)<|r9 h λv37 hv22 h=>d2m (f:=iF) (b:=8) [(4,.ptr 4 0 0),(11,.L b9.Pv a0.S.a8),(12,.I (a0.S.a8.length:Int)),(13,.I s23),(14,.bool (decide (s23<(a0.S.a8.length:Int)))),(15,.I s23),(16,.rptr (b9.Pc v35)),(17,b9.Pv v35),(6,.ptr 6 0 0),(5,.I s23),(18,.ptr 6 0 0),(19,.I v35.State),(20,.bool (v35.State==1)),(21,.I s23),(22,.ptr 6 0 1),(23,.I v35.Gen),(24,.I v36),(7,.I v36),(25,.mp 5000008),(26,.I v36),(27,.ptr 6 0 2),(28,.ptr 6 0 2),(29,.I v35.Val.Serial),(31,.I v36),(32,.lst true (List.map iF [v36]))] [(6,vR (b9.Pv v35) 8),(5000008,⟨[.mapc (List.map (ent iF iF) (s6 s24 v36 v35.Val.Serial))],0,false,0,false⟩),(4,vS (.mp 5000008) 1)] J hv22 ⟨J,J,J,J,J,J,J,J,J,J,J,J,J,J,J,J,J,J,J,J,J,J,J,J,J,J,J,J,J,J,J,J,J,J,J,J,J,J,J,J,J,J,J,J,J,J,J,J,J,J,J,J,J,J,J,J,J,J,J,J,J,J,J,J,J,J,J,J,J,J,J,J,J,J,J,tr⟩ ⟨rS,a2V J J J (λq=>nomatch q) J J J J,a2V J J J (λq=>nomatch q) J J J J,tr⟩ J J J J (.inl ⟨_,J,J⟩) g7 m7 F9 y6 J (λ_=>J)<|S2 1 J ?_;exact eJ h W
    ·refine b8 ?_;exact eJ h (WP (λl=>if l=33 then 910003 else l))
  ·refine o5 ?_;refine c4<|c4<|k7 ?_;have h:=xL hx15 h;exact eJ h W

theorem b5X{a0}:PO Tryz.prog 161 [b7.Pv a0] (a1Q a0) λr=>.L iF r:=by
 refine pO Tryz.func161 λr h _ _=>?_;refine S4 2 J<|S4 1 J ?_;refine jq h (λj16=>St.of [(3,.sl 910003)] [(910003,⟨List.map iF j16,(List.map iF j16).length,true,1,true⟩)]) (λj16 h=>?_) λκ15 h=>?_
 ·refine S4 2 J ?_;refine b6 ?_;cases h;exact f1
 ·refine S3 2 J ?_;refine cF h L6 J J λv17 _ h=>nL J g7<|S2 1 J<|c9<|lq h (λq=>St.of [(1,.ptr 1 0 0),(3,.sl 910003),(10,.L iF v17),(11,.I (v17.length:Int)),(12,.I q.1)] [(1,vR (b7.Pv a0) 8),(910003,⟨List.map iF q.2,(List.map iF q.2).length,true,1,true⟩)]) (Wk.trans (C9 (t:=3) (l:=920003) (z:=1) J J) (WP (λl=>if l=910003 then 920003 else l))) λq22 x21 h hx16=>?_
  obtain⟨s19,s20⟩:=q22;refine S4 1 J<|c8 ?_;refine cN h (λhc h=>?_) λhc h=>?_
  ·refine b8 ?_;refine jq h (λj27=>St.of [(1,.ptr 1 0 0),(3,.sl 29),(10,.L iF v17),(11,.I (v17.length:Int)),(12,.I s19)] [(29,⟨List.map iF j27,(List.map iF j27).length,true,1,true⟩),(1,vR (b7.Pv a0) 8)]) (λj27 h=>?_) λκ26 h=>?_
   ·refine S6 2 J ?_;exact eL h (Wk.trans (n0 _ [29]) (WP (λl=>if l=910003 then 29 else l)))
   ·refine c9 ?_;refine sR<|iL h J J g7 m7 λv28 _ h=>S2 2 J<|S3 3 J<|cF h C4 J J λv29 _ h=>S2 6 J<|S4 3 J ?_;refine cN h (λhc h=>?_) λhc h=>?_
    ·refine S5 2 J ?_;refine y0 J (G1 (f:=iF) (l:=[v28]) J g7 m7 y6 J J nl J J)<|r9 h λv30 hv23 h=>H5 J (F1 (f:=iF) hv23 J J J J J J (.inl ⟨_,J,J⟩) g7 m7 F9 y6 J (λ_=>J)) J J J<|S2 1 J ?_;exact eJ h (Wk.trans (n0 _ [29]) W)
    ·refine b8 ?_;exact eJ h (Wk.trans (n0 _ [910003]) (WP (λl=>if l=29 then 910003 else l)))
  ·refine o5 ?_;refine c4<|c4<|k7 ?_;have h:=xL hx16 h;exact eJ h (Wk.trans (n0 _ [910003]) W)

theorem a5G{a0}:PO Tryz.prog 162 [m9.Pv a0] (M2 a0) λr=>.bool r:=by
 refine pO Tryz.func162 λr h _ _=>?_;unfold M2 at h;refine S4 2 J<|S3 4 J<|l4 J (λhg=>oF J b6I J)<|l4 J (λhg=>oS (ct hg) J J b05 J)<|l4 J (λhg=>a2f (ct hg) J)<|y0 J (z7 J J J (λq=>eqT q))<|S2 1 J<|b6 ?_;cases h;exact f1

theorem O7{a0}:PO Tryz.prog 313 [g5.Pv a0] (J4 a0) λr=>.I r:=by
 refine pO Tryz.func313 λr h _ _=>?_;unfold J4 at h;refine S4 2 J<|S3 2 J<|nL J a4u<|S2 1 J<|b6 ?_;cases h;exact f1

theorem V6{a0 a1 a2}:PO Tryz.prog 314 [.L k9.Pv a0,.I a1,.I a2] (F7 a0 a1 a2) λr=>.lst true (List.map k9.Pv r):=by
 refine pO Tryz.func314 λr h _ _=>?_;unfold F7 at h;refine S4 1 J<|S3 4 J<|r9 h λv1 hv1 h=>y0 J (c7Y (f:=k9.Pv) hv1 J ⟨_,J⟩ ⟨_,J⟩ ⟨_,J⟩ J J a4u K8 (λ_=>J))<|S2 1 J<|b6 ?_;cases h;exact f1

theorem a6n{a0 a1}:PO Tryz.prog 250 [g5.Pv a0,k9.Pv a1] (Q9 a0 a1) λr=>.tup [g5.Pv r.1,.I r.2]:=by
 refine pO Tryz.func250 λr h _ _=>?_;unfold Q9 at h;refine S4 4 J<|c8<|dr [] o9 (by kernel_rfl) (by kernel_rfl)<|S7 1 J<|r9 h λv1 hv1 h=>d2 J (D4 J O7 J hv1) J<|S8 3 J ?_
 refine cN h (λhc h=>?_) λhc h=>?_
 ·refine S4 3 J ?_;refine b6 ?_;cases h;exact⟨J,[_,_],⟨oL J J J a5O a11 nl J,⟨J,tr⟩⟩,J,io⟩
 ·refine b8 ?_;refine dr [] o9 (by kernel_rfl) (by kernel_rfl)<|S7 3 J<|d2 J (D4 J O7 J hv1) J<|r9 h λv2 hv2 h=>d2f J (u6 J V6 J hv2) J<|S7 1 J<|d1n J (G1 (f:=k9.Pv) (l:=[a1]) J a4u K8 b1a J J nl J J) J<|r9 h λv3 hv3 h=>d3 J (a4L (f:=k9.Pv) hv3 J J (.inl ⟨_,J,J⟩) a4u K8 c9h b1a J (λ_=>J)) J J J<|S7 1 J<|A3 (x':=.agg [.sl 19,.I a0.Cap]) (cl':=false) J J (.inl J) c6B<|G0<|S4 3 J<|b6 ?_
  cases h;exact⟨J,[_,_],⟨oL J J J a5O a11 nl J,⟨J,tr⟩⟩,J,io⟩

theorem b3O{a0 a1}:PO Tryz.prog 168 [g5.Pv a0,k9.Pv a1] (a9e a0 a1) λr=>.tup [g5.Pv r.1,.I r.2]:=by
 refine pO Tryz.func168 λr h _ _=>?_;refine S4 4 J<|S3 2 J<|cF h a6n J J λv1 _ h=>S2 4 J<|b6 ?_;cases h;exact⟨J,[_,_],⟨oL J J J a5O a11 nl J,⟨J,tr⟩⟩,J,io⟩

theorem a6L{a0 a1}:PO Tryz.prog 106 [b7.Pv a0,.I a1] (T4 a0 a1) λr=>b7.Pv r:=by
 refine pO Tryz.func106 λr h _ _=>?_;refine S4 2 J<|S3 3 J<|cF h C4 J J λv1 _ h=>S2 6 J<|c8<|S3 3 J<|l4 J (λhg=>oL J J J b04 a5e nl J)<|r9 h λv2 hv2 h=>l4 J (λhg=>D4 J a5G (D8 (ct hg) J) (G8 hv2 hg))<|l4 J (λhg=>a2f (ct hg) J)<|y0 J (C7 J J J (λq=>eqF q))<|yN ?_;refine cN h (λhc h=>?_) λhc h=>?_
 ·refine S4 2 J ?_;refine b6 ?_;cases h;exact⟨J,[_],⟨oL J J J u9 p9 nl J,tr⟩,J,io⟩
 ·refine b8 ?_;refine S4 2 J<|S3 4 J<|cF h a0X J J λv3 _ h=>S2 5 J<|S3 5 J<|y0 J (o8 (cs:=[.I 1,.I a1,.I v1.1.Prog]) J b7O b1a J J J)<|cF h b3O J J λv4 _ h=>S2 5 J<|S3 2 J<|cF h a19 J J λv5 _ h=>S2 1 J<|b6 ?_;cases h;exact⟨J,[_],⟨oL J J J u9 p9 nl J,tr⟩,J,io⟩

theorem a97{a0 a1}:PO Tryz.prog 170 [b7.Pv a0,.L iF a1] (V9 a0 a1) λr=>.L iF r:=by
 refine pO Tryz.func170 λr h _ _=>?_;refine S4 2 J<|sR<|c1Q (KT:=Int) (VT:=Bool) (EK:=iF) (E:=PV.bool) 5000011 J J<|S2 1 J<|S4 1 J ?_;refine jq h (λj18=>St.of [(6,.sl 910006)] [(910006,⟨List.map iF j18,(List.map iF j18).length,true,1,true⟩)]) (λj18 h=>?_) λκ17 h=>?_
 ·refine S4 2 J ?_;refine b6 ?_;cases h;exact f1
 ·refine S3 1 J ?_;refine nL J g7<|S2 1 J<|c9<|lq h (λq=>St.of [(2,.ptr 2 0 0),(5,.mp 5000011),(6,.sl 910006),(12,.L iF a1),(13,.I (a1.length:Int)),(14,.I q.1)] [(5000011,⟨[.mapc (List.map (ent iF PV.bool) q.2.1)],0,false,0,false⟩),(2,vR (b7.Pv a0) 8),(910006,⟨List.map iF q.2.2,(List.map iF q.2.2).length,true,1,true⟩)]) (Wk.trans (C9 (t:=6) (l:=920006) (z:=1) J J) (WP (λl=>if l=910006 then 920006 else l))) λq24 x23 h hx16=>?_
  obtain⟨s20,s21,s22⟩:=q24;refine S4 1 J<|c8 ?_;refine cN h (λhc h=>?_) λhc h=>?_
  ·refine b8 ?_;refine jq h (λq=>St.of [(2,.ptr 2 0 0),(5,.mp 5000011),(6,.sl 38),(12,.L iF a1),(13,.I (a1.length:Int)),(14,.I s20)] [(38,⟨List.map iF q.1,(List.map iF q.1).length,true,1,true⟩),(5000011,⟨[.mapc (List.map (ent iF PV.bool) q.2)],0,false,0,false⟩),(2,vR (b7.Pv a0) 8)]) (λq31 h=>?_) λκ28 h=>?_
   ·obtain⟨j29,j30⟩:=q31;refine S6 2 J ?_;exact eL h (Wk.trans (n0 _ [38]) (WP (λl=>if l=910006 then 38 else l)))
   ·refine c9 ?_;refine sR<|iL h J J g7 m7 λv32 _ h=>S2 2 J<|S3 3 J<|cF h C4 J J λv33 _ h=>S2 6 J<|S3 3 J<|l4 J (λhg=>om (d:=.mp 5000011) J)<|l4 J (λhg=>mI J) ?_;rcases Bool.eq_false_or_eq_true ((v33.2==0)==true) with hg24 | hg24
    ·have h:=ifT h hg24;refine c83 (es:=s21) (k:=v32) (E:=PV.bool) (EK:=iF) (d:=.bool ((C0 s21 v32).getD (false:Bool))) (congrArg some hg24) (ct hg24) J (ct hg24) a3j (B3 L7) b96 J (lk1 _ _ _)<|y0 (congrArg some hg24) (a2f J J)<|y0 J (a7p J J hg24)<|yN ?_;refine cN h (λhc h=>?_) λhc h=>?_
     ·refine S3 2 J ?_;refine a09 (es:=s21) (k:=v32) (v:=true) (E:=PV.bool) (EK:=iF) (.inl J) J J J J J J a3j (B3 L7)<|yN<|S5 2 J<|y0 J (G1 (f:=iF) (l:=[v32]) J g7 m7 y6 J J nl J J)<|r9 h λv34 hv25 h=>H5 J (F1 (f:=iF) hv25 J J J J J J (.inl ⟨_,J,J⟩) g7 m7 F9 y6 J (λ_=>J)) J J J<|S2 1 J ?_;exact eJ h (Wk.trans (n0 _ [38]) W)
     ·refine b8 ?_;exact eJ h (Wk.trans (n0 _ [910006]) (WP (λl=>if l=38 then 910006 else l)))
    ·have h:=ifF h hg24;refine a2t (congrArg some hg24)<|a2t (congrArg some hg24)<|y0 J (a9D J J hg24)<|yN ?_;refine J0 false J (λq=>nomatch q) (λ_=>?_);refine b8 ?_;exact eJ h (Wk.trans (n0 _ [910006]) (WP (λl=>if l=38 then 910006 else l)))
  ·refine o5 ?_;refine c4<|c4<|k7 ?_;have h:=xL hx16 h;exact eJ h (Wk.trans (n0 _ [910006]) W)

theorem a6N{a0 a1}:PO Tryz.prog 350 [.L iF a0,.I a1] (R4 a0 a1) λr=>.I r:=by
 refine pO Tryz.func350 λr h _ _=>?_;refine S4 1 J ?_;refine jq h (λ_=>St.of [] []) (λq6 h=>?_) λκ5 h=>?_
 ·refine S4 1 J ?_;refine b6 ?_;cases h;exact f1
 ·refine S3 1 J ?_;refine nL J g7<|S2 1 J<|c9<|lq h (λs8=>St.of [(0,.L iF a0),(1,.I a1),(7,.I (a0.length:Int)),(8,.I s8)] []) W λs8 x9 h hx8=>S4 1 J<|c8 ?_;refine cN h (λhc h=>?_) λhc h=>?_
  ·refine b8 ?_;refine c8<|c9<|S4 2 J<|S3 3 J<|iL h J J g7 m7 λv10 _ h=>S2 2 J ?_;refine cN h (λhc h=>?_) λhc h=>?_
   ·refine S4 2 J ?_;refine b6 ?_;have h:=xL hx8 h;cases h;exact f1
   ·refine b8 ?_;refine S6 2 J ?_;exact eL h W
  ·refine o5 ?_;refine c4<|c4<|k7 ?_;have h:=xL hx8 h;exact eJ h W

theorem P8{a0 a1}:PO Tryz.prog 318 [.L iF a0,.I a1] (F3 a0 a1) λr=>.bool r:=by
 refine pO Tryz.func318 λr h _ _=>?_;refine S4 1 J<|S3 2 J<|cA h a6N J J λv1 _ h=>S2 2 J<|b6 ?_;cases h;exact f1

theorem b39{a0 a1}:PO Tryz.prog 317 [g6.Pv a0,.rptr [.L iF a1]] (a0Y a0 a1) λr=>.bool r:=by
 refine pO Tryz.func317 λr h _ _=>?_;unfold a0Y at h;refine S4 2 J<|S3 3 J<|l4 J (λhg=>oF J b6K J)<|l4 J (λhg=>oS (ct hg) J J C5 J)<|l4 J (λhg=>y5 (ct hg) J J)<|y0 J (z7 J J J (λq=>eqT q))<|S1 1 J<|l4 J (λhg=>F6 J a8k J)<|l4 J (λhg=>oF J b6K J)<|l4 J (λhg=>oS (ct hg) J J C5 J)<|r9 h λv1 hv1 h=>l4 J (λhg=>D4 J P8 (D8 (ct hg) (D8 (ct hg) J)) (G8 hv1 hg))<|y0 J (z7 J J J (λq=>eqT q))<|S2 1 J<|b6 ?_;cases h;exact f1

theorem a3S{a0 a1}:PO Tryz.prog 316 [.L g6.Pv a0,.fn (.func 317) [.rptr [.L iF a1]]] (K0 a0 a1) λr=>.L iF r:=by
 refine pO Tryz.func316 λr h _ _=>?_;refine S4 1 J<|S4 1 J ?_;refine jq h (λj15=>St.of [(5,.sl 910005)] [(910005,⟨List.map iF j15,(List.map iF j15).length,true,1,true⟩)]) (λj15 h=>?_) λκ14 h=>?_
 ·refine S4 2 J ?_;refine b6 ?_;cases h;exact f1
 ·refine S3 1 J ?_;refine nL J R7<|S2 1 J<|c9<|lq h (λq=>St.of [(1,.fn (.func 317) [.rptr [.L iF a1]]),(5,.sl 910005),(8,.L g6.Pv a0),(9,.I (a0.length:Int)),(10,.I q.1)] [(910005,⟨List.map iF q.2,(List.map iF q.2).length,true,1,true⟩)]) (Wk.trans (C9 (t:=5) (l:=920005) (z:=1) J J) (WP (λl=>if l=910005 then 920005 else l))) λq20 x19 h hx14=>?_
  obtain⟨s17,s18⟩:=q20;refine S4 1 J<|c8 ?_;refine cN h (λhc h=>?_) λhc h=>?_
  ·refine b8 ?_;refine jq h (λj25=>St.of [(1,.fn (.func 317) [.rptr [.L iF a1]]),(5,.sl 21),(8,.L g6.Pv a0),(9,.I (a0.length:Int)),(10,.I s17)] [(21,⟨List.map iF j25,(List.map iF j25).length,true,1,true⟩)]) (λj25 h=>?_) λκ24 h=>?_
   ·refine S6 2 J ?_;exact eL h (Wk.trans (n0 _ [21]) (WP (λl=>if l=910005 then 21 else l)))
   ·refine c9 ?_;refine S3 1 J<|iL h J J R7 W4 λv26 _ h=>S2 4 J<|S3 2 J<|cA h b39 J J λv27 _ h=>yN ?_;refine cN h (λhc h=>?_) λhc h=>?_
    ·refine S5 2 J ?_;refine y0 J (G1 (f:=iF) (l:=[s17]) J g7 m7 y6 J J nl J J)<|r9 h λv28 hv21 h=>H5 J (F1 (f:=iF) hv21 J J J J J J (.inl ⟨_,J,J⟩) g7 m7 F9 y6 J (λ_=>J)) J J J<|S2 1 J ?_;exact eJ h (Wk.trans (n0 _ [21]) W)
    ·refine b8 ?_;exact eJ h (Wk.trans (n0 _ [910005]) (WP (λl=>if l=21 then 910005 else l)))
  ·refine o5 ?_;refine c4<|c4<|k7 ?_;have h:=xL hx14 h;exact eJ h (Wk.trans (n0 _ [910005]) W)

theorem b6G{a0 a1}:PO Tryz.prog 253 [.L g6.Pv a0,.L iF a1] (a41 a0 a1) λr=>.tup [.L g6.Pv r.1,.L iF r.2]:=by
 refine pO Tryz.func253 λr h _ _=>?_;unfold a41 at h;refine S4 3 J<|S3 2 J<|r9 h λv1 hv1 h=>ycL J (u6 J a3S J hv1) J<|S2 1 J<|S3 1 J<|r9 h λv2 hv2 h=>ycN J (b7e J a8a J hv2) J J<|S2 1 J<|S4 1 J ?_;refine jq h (λq=>St.of [(7,.sl 15),(8,.sl 910008)] [(910008,⟨List.map iF q.1,(List.map iF q.1).length,true,1,true⟩),(15,⟨List.map g6.Pv q.2,0,true,3,true⟩)]) (λq24 h=>?_) λκ21 h=>?_
 ·obtain⟨j22,j23⟩:=q24;refine S4 4 J<|b6 ?_;cases h;exact f2
 ·refine S3 1 J ?_;refine nL J g7<|S2 1 J<|c9<|lq h (λq=>St.of [(7,.sl 15),(8,.sl 910008),(16,.L iF v1),(17,.I (v1.length:Int)),(18,.I q.1)] [(15,⟨List.map g6.Pv q.2.1,0,true,3,true⟩),(910008,⟨List.map iF q.2.2,(List.map iF q.2.2).length,true,1,true⟩)]) (Wk.trans (C9 (t:=8) (l:=920008) (z:=1) J J) (WP (λl=>if l=910008 then 920008 else l))) λq30 x29 h hx18=>?_
  obtain⟨s26,s27,s28⟩:=q30;refine S4 1 J<|c8 ?_;refine cN h (λhc h=>?_) λhc h=>?_
  ·refine b8 ?_;refine jq h (λq=>St.of [(7,.sl 15),(8,.sl 35),(16,.L iF v1),(17,.I (v1.length:Int)),(18,.I s26)] [(35,⟨List.map iF q.1,(List.map iF q.1).length,true,1,true⟩),(15,⟨List.map g6.Pv q.2,0,true,3,true⟩)]) (λq38 h=>?_) λκ35 h=>?_
   ·obtain⟨j36,j37⟩:=q38;refine S6 2 J ?_;exact eL h (Wk.trans (n0 _ [35]) (WP (λl=>if l=910008 then 35 else l)))
   ·refine c9 ?_;refine sR<|iL h J J g7 m7 λv39 _ h=>S2 2 J<|S3 2 J<|r9 h λv40 hv25 h=>y0 J (a0r (f:=g6.Pv) hv25 J J J J R7 W4 J)<|S1 1 J<|a43 (f:=g6.Pv) (v:=(⟨v40.Target,false,v40.Call⟩:g6)) hv25 J J (.inl J) d5j<|yN<|S3 2 J<|r9 h λv41 hv26 h=>y0 J (a0r (f:=g6.Pv) hv26 J J J J R7 W4 J)<|S1 1 J<|y0 J (b3y (f:=g6.Pv) hv26 J J J C5 J)<|S2 1 J ?_;refine cN h (λhc h=>?_) λhc h=>?_
    ·refine S5 2 J ?_;refine y0 J (G1 (f:=iF) (l:=[v39]) J g7 m7 y6 J J nl J J)<|r9 h λv42 hv27 h=>H5 J (F1 (f:=iF) hv27 J J J J J J (.inl ⟨_,J,J⟩) g7 m7 F9 y6 J (λ_=>J)) J J J<|S2 1 J ?_;exact eJ h (Wk.trans (n0 _ [35]) W)
    ·refine b8 ?_;exact eJ h (Wk.trans (n0 _ [910008]) (WP (λl=>if l=35 then 910008 else l)))
  ·refine o5 ?_;refine c4<|c4<|k7 ?_;have h:=xL hx18 h;exact eJ h (Wk.trans (n0 _ [910008]) W)

theorem b2s{a0 a1}:PO Tryz.prog 171 [b7.Pv a0,.L iF a1] (a2o a0 a1) λr=>b7.Pv r:=by
 refine pO Tryz.func171 λr h _ _=>?_;refine S4 2 J<|S3 3 J<|cF h b6G J J λv1 _ h=>S2 5 J<|S4 3 J ?_;refine jq h (λj11=>St.of [(2,.ptr 2 0 0),(4,.ptr 4 0 0)] [(4,vR (.agg [.nl,.I 0,.I 0,.nl,.nl,.nl,.nl,.I 0]) 8),(2,vR (.agg [.L b9.Pv a0.S.S.a8,.I a0.S.S.Last,.I a0.S.Serial,.L iF a0.Roots,.L g6.Pv v1.1,.L c5.Pv a0.T,.L k9.Pv j11.L,.I j11.Cap]) 8)]) (λj11 h=>?_) λκ10 h=>?_
 ·refine S4 2 J ?_;refine b6 ?_;cases h;exact⟨J,[_],⟨oL J J J u9 p9 nl J,tr⟩,J,io⟩
 ·refine S3 1 J ?_;refine nL J g7<|S2 1 J<|c9<|lq h (λq=>St.of [(2,.ptr 2 0 0),(4,.ptr 4 0 0),(5,.L g6.Pv v1.1),(18,.L iF v1.2),(19,.I (v1.2.length:Int)),(20,.I q.1)] [(4,vR (.agg [.nl,.I 0,.I 0,.nl,.nl,.nl,.nl,.I 0]) 8),(2,vR (.agg [.L b9.Pv a0.S.S.a8,.I a0.S.S.Last,.I a0.S.Serial,.L iF a0.Roots,.L g6.Pv v1.1,.L c5.Pv a0.T,.L k9.Pv q.2.L,.I q.2.Cap]) 8)]) W λq16 x15 h hx11=>?_;obtain⟨s13,s14⟩:=q16;refine S4 1 J<|c8 ?_;refine cN h (λhc h=>?_) λhc h=>?_
  ·refine b8 ?_;refine c8<|c9<|sR<|iL h J J g7 m7 λv17 _ h=>S2 2 J<|a1A [] o9 (by kernel_rfl) (by kernel_rfl)<|S7 5 J<|r9 h λv18 hv13 h=>d0 J (u7 (f:=g6.Pv) (cs:=g6.Pc v18) hv13 J J R7 W4 J J) J<|S7 2 J<|d7 J (λ_ hN=>o8 (cs:=[.I 2,.I v17,.I v18.Call]) J b7O b1a J J J) J<|r9 h λv19 hv14 h=>d2f J (u6 J b3O J hv14) J<|S7 4 J<|A3 (x':=.agg [.L b9.Pv a0.S.S.a8,.I a0.S.S.Last,.I a0.S.Serial,.L iF a0.Roots,.L g6.Pv v1.1,.L c5.Pv a0.T,.L k9.Pv v19.1.L,.I v19.1.Cap]) (cl':=true) J J (.inr J) a11<|G0<|S6 2 J ?_
   exact eL h W
  ·refine o5 ?_;refine c4<|c4<|k7 ?_;have h:=xL hx11 h;exact eJ h W

theorem b9A{a0}:PO Tryz.prog 254 [.L iF a0] (a9U a0) λr=>.fn (.func 320) [.rptr [.L iF r]]:=by
 refine pO Tryz.func254 λr h _ _=>?_;unfold a9U at h;refine S4 2 J<|S4 2 J<|b6 ?_;cases h;exact f1

theorem b2B{a0}:PO Tryz.prog 173 [.L iF a0] (a4t a0) λr=>.L iF r:=by
 refine pO Tryz.func173 λr h _ _=>?_;refine S4 1 J<|S4 1 J ?_;refine jq h (λj10=>St.of [(3,.ptr 2001 0 0)] [(2001,vS (.sl 912501) 1),(912501,⟨List.map iF j10,(List.map iF j10).length,true,1,true⟩)]) (λj10 h=>?_) λκ9 h=>?_
 ·refine S4 2 J ?_;refine b6 ?_;cases h;exact f1
 ·refine S3 1 J ?_;refine cF h b9A J J λv11 _ h=>yN<|c9<|a3v (WPE (λl=>if l=2011 then 3 else l) [(3,.ptr 2011 0 0),(6,.fn (.func 320) [.rptr [.L iF v11]])] [(2011,vR (.nl) 1)]) ?_
  refine a2h (fn:=Tryz.f320) (N1:=20) J Tryz.func320 J J nl J c9p J J (λl17 e18 o19 hR20=>?_);refine S3 1 J<|nL J g7<|S2 1 J<|c9<|lq h (λq=>St.of [(1000003,.ptr 2011 0 0),(1000006,.fn (.func 320) [.rptr [.L iF v11]]),(0,.fn (.yield l17) []),(5,.L iF v11),(6,.I (v11.length:Int)),(7,.I q.1)] [(2011,vS (.sl 912511) 1),(912511,⟨List.map iF q.2,(List.map iF q.2).length,true,1,true⟩)]) (Wk.trans (b2F (l0:=2011) (j:=0) (l:=922511) (z:=1) J J J J J) (WP (λl=>if l=912511 then 922511 else l))) λq16 x15 h hx23=>?_
  obtain⟨s13,s14⟩:=q16;refine S4 1 J<|c8 ?_;refine cN h (λhc h=>?_) λhc h=>?_
  ·refine b8 ?_;refine c8<|c9<|sR<|iL h J J g7 m7 λv17 _ h=>S2 2 J<|S3 3 J<|l4 J (λhg=>om (d:=.fn (.yield l17) []) J)<|l4 J (λhg=>mI J) ?_;rcases Bool.eq_false_or_eq_true ((v17 != 0)==true) with hg25 | hg25
   ·have h:=ifT h hg25;refine T7 (WPE (λl=>if l=2019 then 912511 else l) [(1000003,.ptr 2011 0 0),(1000006,.fn (.func 320) [.rptr [.L iF v11]]),(0,.fn (.yield l17) []),(5,.L iF v11),(6,.I (v11.length:Int)),(7,.I s13),(13,.bool (v17 != 0)),(14,.fn (.yield l17) []),(15,.I v17)] [(2011,vS (.sl 2019) 1),(2019,⟨List.map iF s14,(List.map iF s14).length,true,1,true⟩)]) ?_
    refine a7T hR20 (congrArg some hg25) J J J J J (λe26 o27 o28=>?_);refine S6 1 J ?_;refine⟨J,?_⟩;refine c9<|S5 2 J<|y0 J (G1 (f:=iF) (l:=[v17]) J g7 m7 y6 J J nl J J)<|r9 h λv18 hv29 h=>H5 J (F1 (f:=iF) hv29 J J J J J J (.inl ⟨_,J,J⟩) g7 m7 F9 y6 J (λ_=>J)) J J J<|S2 1 J ?_;refine⟨J,?_⟩;refine T7 (WPE (λl=>if l=2020 then 11 else l) [(1000003,.ptr 2011 0 0),(1000006,.fn (.func 320) [.rptr [.L iF v11]]),(0,.fn (.yield l17) []),(5,.L iF v11),(6,.I (v11.length:Int)),(7,.I s13),(13,.bool (v17 != 0)),(16,.bool true)] [(2011,vS (.sl 2020) 1),(2020,⟨List.map iF v18,s14.length,true,1,true⟩)])<|y0 (congrArg some hg25) (a2f J J)<|y0 J (a7p J J hg25)<|yN ?_
    refine J0 false J (λq=>nomatch q) (λ_=>?_);refine b8<|S6 2 J ?_;exact eL h (Wk.trans (n0 _ [2020]) (WP (λl=>if l=912511 then 2020 else l)))
   ·have h:=ifF h hg25;refine a2t (congrArg some hg25)<|a2t (congrArg some hg25)<|y0 J (a9D J J hg25)<|yN ?_;refine J0 false J (λq=>nomatch q) (λ_=>?_);refine b8<|S6 2 J ?_;exact eL h (Wk.trans (n0 _ [912511]) W)
  ·refine o5 ?_;refine c4<|c4<|k7 ?_;refine .inl ⟨J,?_⟩;have h:=xL hx23 h;exact eJ h (Wk.trans (n0 _ [912511]) (WP (λl=>if l=2001 then 2011 else if l=912501 then 912511 else l)))

theorem b2Q{a0 a1}:PO Tryz.prog 174 [.L c5.Pv a0,.L iF a1] (Y2 a0 a1) λr=>.tup [.L c5.Pv r.1,.L iF r.2]:=by
 refine pO Tryz.func174 λr h _ _=>?_;refine S4 2 J<|S4 1 J ?_;refine jq h (λq=>St.of [(0,.L c5.Pv q.1),(6,.sl 910006)] [(910006,⟨List.map iF q.2,(List.map iF q.2).length,true,1,true⟩)]) (λq20 h=>?_) λκ17 h=>?_
 ·obtain⟨j18,j19⟩:=q20;refine S4 4 J<|b6 ?_;cases h;exact f2
 ·refine S3 1 J ?_;refine nL J g7<|S2 1 J<|c9<|lq h (λq=>St.of [(0,.L c5.Pv q.1),(6,.sl 910006),(12,.L iF a1),(13,.I (a1.length:Int)),(14,.I q.2.1)] [(910006,⟨List.map iF q.2.2,(List.map iF q.2.2).length,true,1,true⟩)]) (Wk.trans (C9 (t:=6) (l:=920006) (z:=1) J J) (WP (λl=>if l=910006 then 920006 else l))) λq26 x25 h hx14=>?_
  obtain⟨s22,s23,s24⟩:=q26;refine S4 1 J<|c8 ?_;refine cN h (λhc h=>?_) λhc h=>?_
  ·refine b8 ?_;refine jq h (λq=>St.of [(0,.L c5.Pv q.1),(6,.sl 31),(12,.L iF a1),(13,.I (a1.length:Int)),(14,.I s23)] [(31,⟨List.map iF q.2,(List.map iF q.2).length,true,1,true⟩)]) (λq33 h=>?_) λκ30 h=>?_
   ·obtain⟨j31,j32⟩:=q33;refine S6 2 J ?_;exact eL h (Wk.trans (n0 _ [31]) (WP (λl=>if l=910006 then 31 else l)))
   ·refine c9 ?_;refine sR<|iL h J J g7 m7 λv34 _ h=>S2 2 J<|S3 2 J<|cF h b1u J J λv35 _ h=>S2 7 J<|S4 2 J ?_;refine cN h (λhc h=>?_) λhc h=>?_
    ·refine S5 3 J ?_;refine y0 J (G1 (f:=iF) (l:=[v35.2.1]) J g7 m7 y6 J J nl J J)<|r9 h λv36 hv21 h=>H5 J (F1 (f:=iF) hv21 J J J J J J (.inl ⟨_,J,J⟩) g7 m7 F9 y6 J (λ_=>J)) J J J<|S2 2 J ?_;exact eJ h (Wk.trans (n0 _ [31]) W)
    ·refine b8 ?_;exact eJ h (Wk.trans (n0 _ [910006]) (WP (λl=>if l=31 then 910006 else l)))
  ·refine o5 ?_;refine c4<|c4<|k7 ?_;have h:=xL hx14 h;exact eJ h (Wk.trans (n0 _ [910006]) W)

theorem a7I{a0 a1}:PO Tryz.prog 256 [e6.Pv a0,.I a1] (U3 a0 a1) λr=>.tup [e6.Pv r.1,.I r.2]:=by
 refine pO Tryz.func256 λr h _ _=>?_;refine S4 3 J<|S3 2 J<|cF h a2A J J λv1 _ h=>S2 6 J<|c8<|S4 2 J ?_;refine cN h (λhc h=>?_) λhc h=>?_
 ·refine S4 4 J ?_;refine b6 ?_;cases h;exact⟨J,[_,_],⟨oL J J J a3B a10 nl J,⟨J,tr⟩⟩,J,io⟩
 ·refine b8 ?_;refine dr [] o9 (by kernel_rfl) (by kernel_rfl)<|S7 2 J<|r9 h λv2 hv2 h=>d2 J (D4 J a8D J hv2) J<|S7 1 J<|r9 h λv3 hv3 h=>d2 J (D4 J b0l J hv3) J<|S7 1 J<|d7 J (λ_ hN=>o8 (cs:=[.I 2,.I v3,.I v1.1.Serial,.I v1.1.Strong,.I v1.1.Weak,.I v1.1.Prog,.bool v1.1.Started,.L iF v1.1.Fields]) J b4d a9o J J J) J<|r9 h λv4 hv4 h=>d2f J (u6 J J3 J hv4) J<|A3 (x':=e6.Pv v4) (cl':=true) J J (.inr J) a10<|S8 1 J<|b6 ?_
  cases h;exact⟨J,[_,_],⟨oL J J J a3B a10 nl J,⟨J,tr⟩⟩,J,io⟩

theorem b3i{a0 a1}:PO Tryz.prog 175 [b7.Pv a0,.I a1] (Z0 a0 a1) λr=>b7.Pv r:=by
 refine pO Tryz.func175 λr h _ _=>?_;refine S4 2 J<|S3 3 J<|cF h C4 J J λv1 _ h=>S2 6 J<|S3 1 J<|a44 (x':=.agg [.I v1.1.Serial,.I v1.1.Strong,.I v1.1.Weak,.I v1.1.Prog,.bool v1.1.Started,.nl]) (cl':=true) J J (.inl J) a8p<|S1 1 J<|a44 (x':=.agg [.I v1.1.Serial,.I 0,.I v1.1.Weak,.I v1.1.Prog,.bool v1.1.Started,.nl]) (cl':=true) J J (.inl J) m7<|yN<|S3 4 J<|cF h a0X J J λv2 _ h=>S2 5 J<|S3 4 J<|cF h a7I J J λv3 _ h=>S2 6 J<|c8<|S4 3 J ?_;refine cN h (λhc h=>?_) λhc h=>?_
 ·refine S5 4 J ?_;refine cF h a2p J J λv4 _ h=>S2 6 J<|S4 2 J<|b6 ?_;cases h;exact⟨J,[_],⟨oL J J J u9 p9 nl J,tr⟩,J,io⟩
 ·refine b8 ?_;refine S4 2 J<|b6 ?_;cases h;exact⟨J,[_],⟨oL J J J u9 p9 nl J,tr⟩,J,io⟩

end Go.Proofs.YtjlokngooekbcaaGreat.Ok
