/-
 The functions of the program do as the plain functions do.
-/
import Derived.Test.YtjlokngooekbcaaGreatP21aPwC
import Derived.Test.YtjlokngooekbcaaGreatP21aPwD
import Derived.Test.YtjlokngooekbcaaGreatSrt
import Derived.Test.YtjlokngooekbcaaGreatSrtI
import Derived.Test.YtjlokngooekbcaaGreatP21aSh
import Derived.Test.YtjlokngooekbcaaGreatProg
set_option linter.unusedVariables false
set_option linter.unusedSimpArgs false
set_option linter.unusedSectionVars false
namespace Go.Proofs.YtjlokngooekbcaaGreat.Ok
open Go Go.Pw Go.Sh Go.Proofs
set_option maxRecDepth 100000
set_option maxHeartbeats 4000000
abbrev _root_.Go.Sh.g9.Pc(x:g9):List PV:=[.I x.Kind,.I x.A,.I x.B,.I x.C]
abbrev _root_.Go.Sh.g9.Pv(x:g9):PV:=.agg x.Pc
abbrev _root_.Go.Sh.m8.Pc(x:m8):List PV:=[.I x.Serial,.I x.Strong,.I x.Weak,.I x.Prog,.bool x.Started,.L iF x.Fields]
abbrev _root_.Go.Sh.m8.Pv(x:m8):PV:=.agg x.Pc
abbrev _root_.Go.Sh.b8.Pc(x:b8):List PV:=[.I x.State,.I x.Gen,.I x.Val.Serial,.I x.Val.Strong,.I x.Val.Weak,.I x.Val.Prog,.bool x.Val.Started,.L iF x.Val.Fields]
abbrev _root_.Go.Sh.b8.Pv(x:b8):PV:=.agg x.Pc
abbrev _root_.Go.Sh.g5.Pc(x:g5):List PV:=[.I x.Target,.bool x.Intact,.I x.Call]
abbrev _root_.Go.Sh.g5.Pv(x:g5):PV:=.agg x.Pc
abbrev _root_.Go.Sh.c4.Pc(x:c4):List PV:=[.I x.State,.I x.Key,.I x.Val]
abbrev _root_.Go.Sh.c4.Pv(x:c4):PV:=.agg x.Pc
abbrev _root_.Go.Sh.k8.Pc(x:k8):List PV:=[.I x.Kind,.I x.At,.I x.Prog]
abbrev _root_.Go.Sh.k8.Pv(x:k8):PV:=.agg x.Pc
abbrev _root_.Go.Sh.j5.Pc(x:j5):List PV:=[fvE x.part,.I x.least,.I x.most,.I x.e]
abbrev _root_.Go.Sh.j5.Pv(x:j5):PV:=.agg x.Pc
abbrev _root_.Go.Sh.c8.Pc(x:c8):List PV:=[.L b8.Pv x.a8,.I x.Last]
abbrev _root_.Go.Sh.c8.Pv(x:c8):PV:=.agg x.Pc
abbrev _root_.Go.Sh.a7.Pc(x:a7):List PV:=[.L b8.Pv x.S.a8,.I x.S.Last,.I x.Serial]
abbrev _root_.Go.Sh.a7.Pv(x:a7):PV:=.agg x.Pc
abbrev _root_.Go.Sh.c9.Pc(x:c9):List PV:=[.L k8.Pv x.L,.I x.Cap]
abbrev _root_.Go.Sh.c9.Pv(x:c9):PV:=.agg x.Pc
abbrev _root_.Go.Sh.b7.Pc(x:b7):List PV:=[.L b8.Pv x.S.S.a8,.I x.S.S.Last,.I x.S.Serial,.L iF x.Roots,.L g5.Pv x.a8,.L c4.Pv x.T,.L k8.Pv x.Q.L,.I x.Q.Cap]
abbrev _root_.Go.Sh.b7.Pv(x:b7):PV:=.agg x.Pc
abbrev _root_.Go.Sh.n9.Pc(x:n9):List PV:=[.L b8.Pv x.X.S.S.a8,.I x.X.S.S.Last,.I x.X.S.Serial,.L iF x.X.Roots,.L g5.Pv x.X.a8,.L c4.Pv x.X.T,.L k8.Pv x.X.Q.L,.I x.X.Q.Cap,.L (Ls g9.Pv) x.Progs]
abbrev _root_.Go.Sh.n9.Pv(x:n9):PV:=.agg x.Pc
abbrev _root_.Go.Sh.l7.Pc(x:l7):List PV:=[.I x.V,.I x.E]
abbrev _root_.Go.Sh.l7.Pv(x:l7):PV:=.agg x.Pc
abbrev _root_.Go.Sh.r9.Pc(x:r9):List PV:=[.L b8.Pv x.x.S.S.a8,.I x.x.S.S.Last,.I x.x.S.Serial,.L iF x.x.Roots,.L g5.Pv x.x.a8,.L c4.Pv x.x.T,.L k8.Pv x.x.Q.L,.I x.x.Q.Cap,.I x.o.Kind,.I x.o.A,.I x.o.B,.I x.o.C]
abbrev _root_.Go.Sh.r9.Pv(x:r9):PV:=.agg x.Pc
abbrev _root_.Go.Sh.I0.Pc(x:I0):List PV:=[.I x.r,.I x.h]
abbrev _root_.Go.Sh.I0.Pv(x:I0):PV:=.agg x.Pc
abbrev _root_.Go.Sh.G6.Pc(x:G6):List PV:=[.I x.h,.I x.k,.I x.v]
abbrev _root_.Go.Sh.G6.Pv(x:G6):PV:=.agg x.Pc
abbrev _root_.Go.Sh.H9.Pc(x:H9):List PV:=[.L c4.Pv x.t]
abbrev _root_.Go.Sh.H9.Pv(x:H9):PV:=.agg x.Pc
abbrev _root_.Go.Sh.n8.Pc(x:n8):List PV:=[.I x.Key,.I x.Val]
abbrev _root_.Go.Sh.n8.Pv(x:n8):PV:=.agg x.Pc
abbrev _root_.Go.Sh.l6.Pc(x:l6):List PV:=[.L iF x.L,.I x.Cap]
abbrev _root_.Go.Sh.l6.Pv(x:l6):PV:=.agg x.Pc
abbrev _root_.Go.Sh.D9.Pc(x:D9):List PV:=[.I x.Serial,.I x.Strong,.I x.Weak,.I x.Prog,.bool x.Started,.L iF x.Fields]
abbrev _root_.Go.Sh.D9.Pv(x:D9):PV:=.agg x.Pc
abbrev _root_.Go.Sh.p9.Pc(x:p9):List PV:=[.I x.State,.I x.Gen,.I x.Val.Serial,.I x.Val.Strong,.I x.Val.Weak,.I x.Val.Prog,.bool x.Val.Started,.L iF x.Val.Fields]
abbrev _root_.Go.Sh.p9.Pv(x:p9):PV:=.agg x.Pc
abbrev _root_.Go.Sh.u9.Pc(x:u9):List PV:=[.I x.Target,.bool x.Intact,.I x.Call]
abbrev _root_.Go.Sh.u9.Pv(x:u9):PV:=.agg x.Pc
abbrev _root_.Go.Sh.m7.Pc(x:m7):List PV:=[.I x.State,.I x.Key,.I x.Val]
abbrev _root_.Go.Sh.m7.Pv(x:m7):PV:=.agg x.Pc
abbrev _root_.Go.Sh.w7.Pc(x:w7):List PV:=[.I x.Kind,.I x.At,.I x.Prog]
abbrev _root_.Go.Sh.w7.Pv(x:w7):PV:=.agg x.Pc
abbrev _root_.Go.Sh.m9.Pc(x:m9):List PV:=[.L p9.Pv x.a8,.I x.Last,.I x.Serial]
abbrev _root_.Go.Sh.m9.Pv(x:m9):PV:=.agg x.Pc
abbrev _root_.Go.Sh.y7.Pc(x:y7):List PV:=[.L w7.Pv x.L,.I x.Cap]
abbrev _root_.Go.Sh.y7.Pv(x:y7):PV:=.agg x.Pc
abbrev _root_.Go.Sh.g8.Pc(x:g8):List PV:=[.L p9.Pv x.S.a8,.I x.S.Last,.I x.S.Serial,.L iF x.Roots,.L u9.Pv x.a8,.L m7.Pv x.T,.L w7.Pv x.Q.L,.I x.Q.Cap]
abbrev _root_.Go.Sh.g8.Pv(x:g8):PV:=.agg x.Pc
abbrev _root_.Go.Sh.B8.Pc(x:B8):List PV:=[.I x.State,.I x.Gen,.I x.Val]
abbrev _root_.Go.Sh.B8.Pv(x:B8):PV:=.agg x.Pc
abbrev _root_.Go.Sh.B9.Pc(x:B9):List PV:=[.L B8.Pv x.a8,.I x.Last]
abbrev _root_.Go.Sh.B9.Pv(x:B9):PV:=.agg x.Pc
abbrev _root_.Go.Sh.D3.Pc(x:D3):List PV:=[.I x.Key,.I x.Val]
abbrev _root_.Go.Sh.D3.Pv(x:D3):PV:=.agg x.Pc
abbrev _root_.Go.Sh.J5.Pc(x:J5):List PV:=[.I x.Kind,.I x.A,.I x.B,.I x.C]
abbrev _root_.Go.Sh.J5.Pv(x:J5):PV:=.agg x.Pc
abbrev _root_.Go.Sh.B1.Pc(x:B1):List PV:=[.L p9.Pv x.X.S.a8,.I x.X.S.Last,.I x.X.S.Serial,.L iF x.X.Roots,.L u9.Pv x.X.a8,.L m7.Pv x.X.T,.L w7.Pv x.X.Q.L,.I x.X.Q.Cap,.L (Ls J5.Pv) x.Progs]
abbrev _root_.Go.Sh.B1.Pv(x:B1):PV:=.agg x.Pc
abbrev _root_.Go.Sh.F6.Pc(x:F6):List PV:=[.I x.V,.I x.E]
abbrev _root_.Go.Sh.F6.Pv(x:F6):PV:=.agg x.Pc
def a9X(t:Nat):Nat:=if t=132 then 4 else if t=136 then 0 else if t=140 then 1 else 0
theorem x6:H0 Tryz.prog 3=some false:=by kernel_rfl
theorem b0y:H0 Tryz.prog 4=some false:=by kernel_rfl
theorem d04:H0 Tryz.prog 25=some false:=by kernel_rfl
theorem a3m:H0 Tryz.prog 27=some true:=by kernel_rfl
theorem a6l:H0 Tryz.prog 29=some true:=by kernel_rfl
theorem a7J:H0 Tryz.prog 30=some false:=by kernel_rfl
theorem c4X:H0 Tryz.prog 31=some false:=by kernel_rfl
theorem b34:H0 Tryz.prog 32=some false:=by kernel_rfl
theorem d05:H0 Tryz.prog 33=some false:=by kernel_rfl
theorem a5k:H0 Tryz.prog 35=some true:=by kernel_rfl
theorem u6:H0 Tryz.prog 37=some true:=by kernel_rfl
theorem a2n:H0 Tryz.prog 39=some true:=by kernel_rfl
theorem a9W:H0 Tryz.prog 40=some false:=by kernel_rfl
theorem c0N:H0 Tryz.prog 43=some false:=by kernel_rfl
theorem c0O:H0 Tryz.prog 45=some true:=by kernel_rfl
theorem d06:H0 Tryz.prog 46=some false:=by kernel_rfl
theorem c4Y:H0 Tryz.prog 47=some false:=by kernel_rfl
theorem c0P:H0 Tryz.prog 48=some false:=by kernel_rfl
theorem c4Z:H0 Tryz.prog 50=some true:=by kernel_rfl
theorem a7K:H0 Tryz.prog 52=some true:=by kernel_rfl
theorem a5l:H0 Tryz.prog 66=some true:=by kernel_rfl
theorem c40:H0 Tryz.prog 73=some true:=by kernel_rfl
theorem c0Q:H0 Tryz.prog 96=some true:=by kernel_rfl
theorem b3u:H0 Tryz.prog 110=some true:=by kernel_rfl
theorem b0x:H0 Tryz.prog 150=some true:=by kernel_rfl
theorem c70:H0 Tryz.prog 152=some false:=by kernel_rfl
theorem c71:H0 Tryz.prog 154=some true:=by kernel_rfl
theorem a1D:H0 Tryz.prog 191=some true:=by kernel_rfl
theorem a3D:H0 Tryz.prog 251=some true:=by kernel_rfl
theorem c2f:H0 Tryz.prog 331=some false:=by kernel_rfl
theorem a8F:H0 Tryz.prog 430=some true:=by kernel_rfl
theorem O7:I6 Tryz.prog 3=some 8:=by kernel_rfl
theorem d07:I6 Tryz.prog 66=some 16:=by kernel_rfl
theorem c72:I6 Tryz.prog 101=some 80:=by kernel_rfl
theorem c2g:I6 Tryz.prog 180=some 80:=by kernel_rfl
theorem c73:I6 Tryz.prog 183=some 24:=by kernel_rfl
theorem c74:I6 Tryz.prog 185=some 24:=by kernel_rfl
theorem c75:I6 Tryz.prog 187=some 24:=by kernel_rfl
theorem c2h:I6 Tryz.prog 189=some 24:=by kernel_rfl
theorem c2i:I6 Tryz.prog 190=some 24:=by kernel_rfl
theorem c76:I6 Tryz.prog 191=some 24:=by kernel_rfl
theorem c77:I6 Tryz.prog 221=some 24:=by kernel_rfl
theorem c78:I6 Tryz.prog 238=some 16:=by kernel_rfl
theorem c2j:I6 Tryz.prog 445=some 16:=by kernel_rfl
theorem a6m:A7 Tryz.prog 22=some 109:=by kernel_rfl
theorem M7:A7 Tryz.prog 25=some 180:=by kernel_rfl
theorem l4:A7 Tryz.prog 30=some 3:=by kernel_rfl
theorem R3:A7 Tryz.prog 31=some 189:=by kernel_rfl
theorem Y5:A7 Tryz.prog 32=some 190:=by kernel_rfl
theorem a35:A7 Tryz.prog 33=some 191:=by kernel_rfl
theorem Y6:A7 Tryz.prog 43=some 101:=by kernel_rfl
theorem a7L:A7 Tryz.prog 46=some 183:=by kernel_rfl
theorem a2o:A7 Tryz.prog 47=some 185:=by kernel_rfl
theorem a1E:A7 Tryz.prog 48=some 187:=by kernel_rfl
theorem a7M:A7 Tryz.prog 82=some 30:=by kernel_rfl
theorem a36:A7 Tryz.prog 84=some 66:=by kernel_rfl
theorem a4M:A7 Tryz.prog 109=some 110:=by kernel_rfl
theorem a3E:A7 Tryz.prog 152=some 221:=by kernel_rfl
theorem a4N:A7 Tryz.prog 235=some 238:=by kernel_rfl
theorem a0r:A7 Tryz.prog 245=some 251:=by kernel_rfl
theorem a6n:A7 Tryz.prog 443=some 445:=by kernel_rfl
theorem c41:G5 Tryz.prog 27 0=some (0,25):=by kernel_rfl
theorem c42:G5 Tryz.prog 35 0=some (0,33):=by kernel_rfl
theorem b35:G5 Tryz.prog 37 1=some (3,30):=by kernel_rfl
theorem b89:G5 Tryz.prog 37 2=some (4,31):=by kernel_rfl
theorem c43:G5 Tryz.prog 37 3=some (5,32):=by kernel_rfl
theorem b9a:G5 Tryz.prog 37 4=some (6,35):=by kernel_rfl
theorem b36:G5 Tryz.prog 39 0=some (0,37):=by kernel_rfl
theorem b37:G5 Tryz.prog 45 0=some (0,43):=by kernel_rfl
theorem b9b:G5 Tryz.prog 45 2=some (2,3):=by kernel_rfl
theorem b38:G5 Tryz.prog 50 0=some (0,48):=by kernel_rfl
theorem c44:G5 Tryz.prog 52 0=some (0,45):=by kernel_rfl
theorem c45:G5 Tryz.prog 52 1=some (3,30):=by kernel_rfl
theorem c46:G5 Tryz.prog 52 2=some (4,46):=by kernel_rfl
theorem b9c:G5 Tryz.prog 52 3=some (5,47):=by kernel_rfl
theorem b39:G5 Tryz.prog 52 4=some (6,50):=by kernel_rfl
theorem a7N:G5 Tryz.prog 66 0=some (0,3):=by kernel_rfl
theorem b9d:G5 Tryz.prog 66 1=some (1,40):=by kernel_rfl
theorem a7O:G5 Tryz.prog 96 0=some (0,3):=by kernel_rfl
theorem b4a:G5 Tryz.prog 96 1=some (1,3):=by kernel_rfl
theorem b4b:G5 Tryz.prog 96 2=some (2,3):=by kernel_rfl
theorem b4c:G5 Tryz.prog 96 3=some (3,3):=by kernel_rfl
theorem b9e:G5 Tryz.prog 96 4=some (4,4):=by kernel_rfl
theorem b4d:G5 Tryz.prog 96 5=some (5,30):=by kernel_rfl
theorem b11:G5 Tryz.prog 101 0=some (0,3):=by kernel_rfl
theorem a3U:G5 Tryz.prog 101 2=some (2,96):=by kernel_rfl
theorem c3N:G5 Tryz.prog 110 0=some (0,3):=by kernel_rfl
theorem c3O:G5 Tryz.prog 150 1=some (1,3):=by kernel_rfl
theorem c3P:G5 Tryz.prog 150 2=some (2,3):=by kernel_rfl
theorem b6a:G5 Tryz.prog 150 4=some (4,4):=by kernel_rfl
theorem c3Q:G5 Tryz.prog 154 0=some (0,152):=by kernel_rfl
theorem b12:G5 Tryz.prog 154 1=some (1,3):=by kernel_rfl
theorem b6b:G5 Tryz.prog 180 0=some (0,3):=by kernel_rfl
theorem c3R:G5 Tryz.prog 180 2=some (2,150):=by kernel_rfl
theorem b13:G5 Tryz.prog 183 0=some (0,3):=by kernel_rfl
theorem b6c:G5 Tryz.prog 183 1=some (1,4):=by kernel_rfl
theorem c3S:G5 Tryz.prog 183 2=some (2,3):=by kernel_rfl
theorem b6d:G5 Tryz.prog 185 0=some (0,3):=by kernel_rfl
theorem b6e:G5 Tryz.prog 185 1=some (1,3):=by kernel_rfl
theorem c3T:G5 Tryz.prog 185 2=some (2,3):=by kernel_rfl
theorem b6f:G5 Tryz.prog 187 0=some (0,3):=by kernel_rfl
theorem a5D:G5 Tryz.prog 187 1=some (1,3):=by kernel_rfl
theorem b6g:G5 Tryz.prog 187 2=some (2,3):=by kernel_rfl
theorem b6h:G5 Tryz.prog 189 0=some (0,3):=by kernel_rfl
theorem c3U:G5 Tryz.prog 189 1=some (1,4):=by kernel_rfl
theorem c3V:G5 Tryz.prog 190 1=some (1,3):=by kernel_rfl
theorem b14:G5 Tryz.prog 221 0=some (0,3):=by kernel_rfl
theorem b6i:G5 Tryz.prog 221 1=some (1,3):=by kernel_rfl
theorem c3W:G5 Tryz.prog 238 1=some (1,3):=by kernel_rfl
theorem c3X:G5 Tryz.prog 251 2=some (2,3):=by kernel_rfl
theorem c3Y:G5 Tryz.prog 445 0=some (0,3):=by kernel_rfl
theorem b6j:G5 Tryz.prog 445 1=some (1,3):=by kernel_rfl
theorem d0s:c7B Tryz.prog 3=some .i64:=by kernel_rfl
theorem d08:B7 Tryz.prog 70:=kC Tryz.func70 J
theorem c79:B7 Tryz.prog 109:=kC Tryz.func109 J
theorem c8a:B7 Tryz.prog 123:=kC Tryz.func123 J
theorem c8b:B7 Tryz.prog 124:=kC Tryz.func124 J
theorem c2k:B7 Tryz.prog 172:=kC Tryz.func172 J
theorem c8c:B7 Tryz.prog 178:=kC Tryz.func178 J
theorem c8d:B7 Tryz.prog 303:=kC Tryz.func303 J
theorem c8e:B7 Tryz.prog 310:=kC Tryz.func310 J
theorem c8f:B7 Tryz.prog 320:=kC Tryz.func320 J
theorem c8g:B7 Tryz.prog 331:=kC Tryz.func331 J
theorem c8h:B7 Tryz.prog 332:=kC Tryz.func332 J
theorem c8i:B7 Tryz.prog 361:=kC Tryz.func361 J
theorem c8j:B7 Tryz.prog 363:=kC Tryz.func363 J
theorem c2l:B7 Tryz.prog 364:=kC Tryz.func364 J
theorem c2m:B7 Tryz.prog 367:=kC Tryz.func367 J
theorem c8k:B7 Tryz.prog 387:=kC Tryz.func387 J
theorem c2n:B7 Tryz.prog 388:=kC Tryz.func388 J
theorem a0c:b1O Tryz.prog 196=some (3,194):=by kernel_rfl
theorem b4e:b1O Tryz.prog 222=some (3,3):=by kernel_rfl
theorem T6:b1O Tryz.prog 247=some (3,245):=by kernel_rfl
theorem a21:b1O Tryz.prog 331=some (3,4):=by kernel_rfl
theorem c47:C3 Tryz.prog 27=some (λi=>(#[(0,1),(1,1)]:Array (Nat × Nat))[i]?):=by kernel_rfl
theorem c48:C3 Tryz.prog 29=some (λi=>(#[(0,2),(2,1)]:Array (Nat × Nat))[i]?):=by kernel_rfl
theorem d09:C3 Tryz.prog 35=some (λi=>(#[(0,1),(1,1)]:Array (Nat × Nat))[i]?):=by kernel_rfl
theorem c49:C3 Tryz.prog 37=some (λi=>(#[(0,3),(3,1),(4,1),(5,1),(6,2)]:Array (Nat × Nat))[i]?):=by kernel_rfl
theorem c0R:C3 Tryz.prog 39=some (λi=>(#[(0,8),(8,1)]:Array (Nat × Nat))[i]?):=by kernel_rfl
theorem d1a:C3 Tryz.prog 45=some (λi=>(#[(0,1),(1,1),(2,1)]:Array (Nat × Nat))[i]?):=by kernel_rfl
theorem d1b:C3 Tryz.prog 50=some (λi=>(#[(0,1),(1,1)]:Array (Nat × Nat))[i]?):=by kernel_rfl
theorem d1c:C3 Tryz.prog 52=some (λi=>(#[(0,3),(3,1),(4,1),(5,1),(6,2)]:Array (Nat × Nat))[i]?):=by kernel_rfl
theorem c5a:C3 Tryz.prog 66=some (λi=>(#[(0,1),(1,1)]:Array (Nat × Nat))[i]?):=by kernel_rfl
theorem d1d:C3 Tryz.prog 73=some (λi=>some (i*1,1)):=by kernel_rfl
theorem c5b:C3 Tryz.prog 96=some (λi=>(#[(0,1),(1,1),(2,1),(3,1),(4,1),(5,1)]:Array (Nat × Nat))[i]?):=by kernel_rfl
theorem c8l:C3 Tryz.prog 101=some (λi=>(#[(0,1),(1,1),(2,6)]:Array (Nat × Nat))[i]?):=by kernel_rfl
theorem b3v:C3 Tryz.prog 110=some (λi=>(#[(0,1),(1,1),(2,1),(3,1)]:Array (Nat × Nat))[i]?):=by kernel_rfl
theorem c8m:C3 Tryz.prog 132=some (λi=>(#[(0,4)]:Array (Nat × Nat))[i]?):=by kernel_rfl
theorem c8n:C3 Tryz.prog 136=some (λi=>(#[]:Array (Nat × Nat))[i]?):=by kernel_rfl
theorem c8o:C3 Tryz.prog 140=some (λi=>(#[(0,1)]:Array (Nat × Nat))[i]?):=by kernel_rfl
theorem c8p:C3 Tryz.prog 150=some (λi=>(#[(0,1),(1,1),(2,1),(3,1),(4,1),(5,1)]:Array (Nat × Nat))[i]?):=by kernel_rfl
theorem c8q:C3 Tryz.prog 154=some (λi=>(#[(0,1),(1,1)]:Array (Nat × Nat))[i]?):=by kernel_rfl
theorem b3w:C3 Tryz.prog 180=some (λi=>(#[(0,1),(1,1),(2,6)]:Array (Nat × Nat))[i]?):=by kernel_rfl
theorem c8r:C3 Tryz.prog 189=some (λi=>(#[(0,1),(1,1),(2,1)]:Array (Nat × Nat))[i]?):=by kernel_rfl
theorem c2o:C3 Tryz.prog 190=some (λi=>(#[(0,1),(1,1),(2,1)]:Array (Nat × Nat))[i]?):=by kernel_rfl
theorem b66:C3 Tryz.prog 191=some (λi=>(#[(0,1),(1,1),(2,1)]:Array (Nat × Nat))[i]?):=by kernel_rfl
theorem c8s:C3 Tryz.prog 200=some (λi=>(#[(0,8),(8,4)]:Array (Nat × Nat))[i]?):=by kernel_rfl
theorem c8t:C3 Tryz.prog 221=some (λi=>(#[(0,1),(1,1),(2,1)]:Array (Nat × Nat))[i]?):=by kernel_rfl
theorem c8u:C3 Tryz.prog 238=some (λi=>(#[(0,1),(1,1)]:Array (Nat × Nat))[i]?):=by kernel_rfl
theorem a1F:C3 Tryz.prog 251=some (λi=>(#[(0,1),(1,1),(2,1),(3,1)]:Array (Nat × Nat))[i]?):=by kernel_rfl
theorem c8v:C3 Tryz.prog 374=some (λi=>(#[(0,1),(1,1),(2,1)]:Array (Nat × Nat))[i]?):=by kernel_rfl
theorem c8w:C3 Tryz.prog 382=some (λi=>(#[(0,1)]:Array (Nat × Nat))[i]?):=by kernel_rfl
theorem c8x:C3 Tryz.prog 398=some (λi=>(#[(0,1)]:Array (Nat × Nat))[i]?):=by kernel_rfl
theorem c8y:C3 Tryz.prog 400=some (λi=>(#[(0,1),(1,1)]:Array (Nat × Nat))[i]?):=by kernel_rfl
theorem c8z:C3 Tryz.prog 430=some (λi=>(#[(0,1),(1,1)]:Array (Nat × Nat))[i]?):=by kernel_rfl
theorem c2p:C3 Tryz.prog 445=some (λi=>(#[(0,1),(1,1)]:Array (Nat × Nat))[i]?):=by kernel_rfl
theorem d1e:b0a Tryz.prog 66=some [1,1]:=by kernel_rfl
theorem d1f:b0a Tryz.prog 73=some [1,1,1,1]:=by kernel_rfl
theorem c2q:b0e Tryz.prog 132=true:=by kernel_rfl
theorem c2r:b0e Tryz.prog 136=true:=by kernel_rfl
theorem c2s:b0e Tryz.prog 140=true:=by kernel_rfl
theorem a9Y:c0q Tryz.prog 73=some (4,3):=by kernel_rfl
theorem o8:r7 Tryz.prog 3=some 1:=by kernel_rfl
theorem d3L:r7 Tryz.prog 4=some 1:=by kernel_rfl
theorem a1G:r7 Tryz.prog 27=some 2:=by kernel_rfl
theorem a6o:r7 Tryz.prog 29=some 3:=by kernel_rfl
theorem a9Z:r7 Tryz.prog 30=some 1:=by kernel_rfl
theorem c5c:r7 Tryz.prog 33=some 1:=by kernel_rfl
theorem a1H:r7 Tryz.prog 35=some 2:=by kernel_rfl
theorem p8:r7 Tryz.prog 37=some 8:=by kernel_rfl
theorem T7:r7 Tryz.prog 39=some 9:=by kernel_rfl
theorem c0S:r7 Tryz.prog 45=some 3:=by kernel_rfl
theorem c5d:r7 Tryz.prog 50=some 2:=by kernel_rfl
theorem a6p:r7 Tryz.prog 52=some 8:=by kernel_rfl
theorem M8:r7 Tryz.prog 66=some 2:=by kernel_rfl
theorem c5e:r7 Tryz.prog 73=some 4:=by kernel_rfl
theorem b15:r7 Tryz.prog 96=some 6:=by kernel_rfl
theorem Z3:r7 Tryz.prog 101=some 8:=by kernel_rfl
theorem b3x:r7 Tryz.prog 109=some 1:=by kernel_rfl
theorem a4O:r7 Tryz.prog 110=some 4:=by kernel_rfl
theorem c8A:r7 Tryz.prog 136=some 0:=by kernel_rfl
theorem a4P:r7 Tryz.prog 150=some 6:=by kernel_rfl
theorem c8B:r7 Tryz.prog 152=some 1:=by kernel_rfl
theorem c2t:r7 Tryz.prog 154=some 2:=by kernel_rfl
theorem P8:r7 Tryz.prog 180=some 8:=by kernel_rfl
theorem b0z:r7 Tryz.prog 183=some 3:=by kernel_rfl
theorem a2M:r7 Tryz.prog 185=some 3:=by kernel_rfl
theorem a2N:r7 Tryz.prog 187=some 3:=by kernel_rfl
theorem V7:r7 Tryz.prog 189=some 3:=by kernel_rfl
theorem a0s:r7 Tryz.prog 190=some 3:=by kernel_rfl
theorem K4:r7 Tryz.prog 191=some 3:=by kernel_rfl
theorem a8G:r7 Tryz.prog 221=some 3:=by kernel_rfl
theorem a8H:r7 Tryz.prog 238=some 2:=by kernel_rfl
theorem K5:r7 Tryz.prog 251=some 4:=by kernel_rfl
theorem a4Q:r7 Tryz.prog 430=some 2:=by kernel_rfl
theorem b0A:r7 Tryz.prog 445=some 2:=by kernel_rfl
theorem L4:Tryz.prog.underlying 3=some (.int .i64):=by kernel_rfl
theorem d0t:Tryz.prog.underlying 5=some (.int .u8):=by kernel_rfl
theorem C2:y6 Tryz.prog 3=some ((.I 0)):=by kernel_rfl
theorem b9f:y6 Tryz.prog 4=some ((.bool false)):=by kernel_rfl
theorem c5f:y6 Tryz.prog 27=some ((.agg #[(.slice none 0 0),(.I 0)])):=by kernel_rfl
theorem c5g:y6 Tryz.prog 29=some ((.agg #[(.slice none 0 0),(.I 0),(.I 0)])):=by kernel_rfl
theorem d1g:y6 Tryz.prog 30=some ((.slice none 0 0)):=by kernel_rfl
theorem d1h:y6 Tryz.prog 35=some ((.agg #[(.slice none 0 0),(.I 0)])):=by kernel_rfl
theorem c5h:y6 Tryz.prog 37=some ((.agg #[(.slice none 0 0),(.I 0),(.I 0),(.slice none 0 0),(.slice none 0 0),(.slice none 0 0),(.slice none 0 0),(.I 0)])):=by kernel_rfl
theorem c0T:y6 Tryz.prog 39=some ((.agg #[(.slice none 0 0),(.I 0),(.I 0),(.slice none 0 0),(.slice none 0 0),(.slice none 0 0),(.slice none 0 0),(.I 0),(.slice none 0 0)])):=by kernel_rfl
theorem d1i:y6 Tryz.prog 45=some ((.agg #[(.slice none 0 0),(.I 0),(.I 0)])):=by kernel_rfl
theorem d1j:y6 Tryz.prog 50=some ((.agg #[(.slice none 0 0),(.I 0)])):=by kernel_rfl
theorem d1k:y6 Tryz.prog 52=some ((.agg #[(.slice none 0 0),(.I 0),(.I 0),(.slice none 0 0),(.slice none 0 0),(.slice none 0 0),(.slice none 0 0),(.I 0)])):=by kernel_rfl
theorem b7b:y6 Tryz.prog 66=some ((.agg #[(.I 0),(.I 0)])):=by kernel_rfl
theorem d1l:y6 Tryz.prog 73=some ((.agg #[(.I 0),(.I 0),(.I 0),(.I 0)])):=by kernel_rfl
theorem c5i:y6 Tryz.prog 96=some ((.agg #[(.I 0),(.I 0),(.I 0),(.I 0),(.bool false),(.slice none 0 0)])):=by kernel_rfl
theorem b67:y6 Tryz.prog 101=some ((.agg #[(.I 0),(.I 0),(.I 0),(.I 0),(.I 0),(.I 0),(.bool false),(.slice none 0 0)])):=by kernel_rfl
theorem c8C:y6 Tryz.prog 109=some ((.slice none 0 0)):=by kernel_rfl
theorem b0B:y6 Tryz.prog 110=some ((.agg #[(.I 0),(.I 0),(.I 0),(.I 0)])):=by kernel_rfl
theorem c2u:y6 Tryz.prog 132=some ((.agg #[(.I 0),(.I 0),(.I 0),(.I 0)])):=by kernel_rfl
theorem c2v:y6 Tryz.prog 136=some ((.agg #[])):=by kernel_rfl
theorem c2w:y6 Tryz.prog 140=some ((.agg #[(.I 0)])):=by kernel_rfl
theorem c8D:y6 Tryz.prog 150=some ((.agg #[(.I 0),(.I 0),(.I 0),(.I 0),(.bool false),(.slice none 0 0)])):=by kernel_rfl
theorem c8E:y6 Tryz.prog 154=some ((.agg #[(.slice none 0 0),(.I 0)])):=by kernel_rfl
theorem a8I:y6 Tryz.prog 180=some ((.agg #[(.I 0),(.I 0),(.I 0),(.I 0),(.I 0),(.I 0),(.bool false),(.slice none 0 0)])):=by kernel_rfl
theorem c2x:y6 Tryz.prog 183=some ((.agg #[(.I 0),(.bool false),(.I 0)])):=by kernel_rfl
theorem c2y:y6 Tryz.prog 185=some ((.agg #[(.I 0),(.I 0),(.I 0)])):=by kernel_rfl
theorem c2z:y6 Tryz.prog 187=some ((.agg #[(.I 0),(.I 0),(.I 0)])):=by kernel_rfl
theorem b68:y6 Tryz.prog 189=some ((.agg #[(.I 0),(.bool false),(.I 0)])):=by kernel_rfl
theorem b3y:y6 Tryz.prog 190=some ((.agg #[(.I 0),(.I 0),(.I 0)])):=by kernel_rfl
theorem b0C:y6 Tryz.prog 191=some ((.agg #[(.I 0),(.I 0),(.I 0)])):=by kernel_rfl
theorem c8F:y6 Tryz.prog 194=some (.nilFunc):=by kernel_rfl
theorem c8G:y6 Tryz.prog 200=some ((.agg #[(.slice none 0 0),(.I 0),(.I 0),(.slice none 0 0),(.slice none 0 0),(.slice none 0 0),(.slice none 0 0),(.I 0),(.I 0),(.I 0),(.I 0),(.I 0)])):=by kernel_rfl
theorem b69:y6 Tryz.prog 221=some ((.agg #[(.I 0),(.I 0),(.I 0)])):=by kernel_rfl
theorem b7a:y6 Tryz.prog 238=some ((.agg #[(.I 0),(.I 0)])):=by kernel_rfl
theorem c8H:y6 Tryz.prog 245=some ((.slice none 0 0)):=by kernel_rfl
theorem J6:y6 Tryz.prog 251=some ((.agg #[.nilFunc,(.I 0),(.I 0),(.I 0)])):=by kernel_rfl
theorem c8I:y6 Tryz.prog 374=some ((.agg #[(.I 0),(.I 0),(.I 0)])):=by kernel_rfl
theorem c8J:y6 Tryz.prog 382=some ((.agg #[(.slice none 0 0)])):=by kernel_rfl
theorem c8K:y6 Tryz.prog 398=some ((.agg #[.nilFunc])):=by kernel_rfl
theorem c8L:y6 Tryz.prog 400=some ((.agg #[(.I 0),(.I 0)])):=by kernel_rfl
theorem c8M:y6 Tryz.prog 430=some ((.agg #[(.slice none 0 0),(.I 0)])):=by kernel_rfl
theorem a8J:y6 Tryz.prog 445=some ((.agg #[(.I 0),(.I 0)])):=by kernel_rfl
theorem w9:Tryz.prog.follows .mixedOrders=true:=by kernel_rfl
def tb:TB:=⟨[((27,0),(0,25)),((27,1),(1,3)),((29,0),(0,27)),((29,1),(2,3)),((35,0),(0,33)),((35,1),(1,3)),((37,0),(0,29)),((37,1),(3,30)),((37,2),(4,31)),((37,3),(5,32)),((37,4),(6,35)),((39,0),(0,37)),((39,1),(8,22)),((45,0),(0,43)),((45,1),(1,3)),((50,0),(0,48)),((50,1),(1,3)),((52,0),(0,45)),((52,1),(3,30)),((52,2),(4,46)),((52,3),(5,47)),((52,4),(6,50)),((66,0),(0,3)),((66,1),(1,40)),((96,0),(0,3)),((96,1),(1,3)),((96,2),(2,3)),((96,5),(5,30)),((101,0),(0,3)),((101,1),(1,3)),((101,2),(2,96)),((110,0),(0,3)),((110,1),(1,3)),((110,2),(2,3)),((110,3),(3,3)),((132,0),(0,110)),((140,0),(0,3)),((150,0),(0,3)),((150,1),(1,3)),((150,2),(2,3)),((150,3),(3,3)),((150,4),(4,4)),((150,5),(5,30)),((154,0),(0,152)),((180,0),(0,3)),((180,1),(1,3)),((180,2),(2,150)),((183,0),(0,3)),((183,2),(2,3)),((185,0),(0,3)),((185,1),(1,3)),((185,2),(2,3)),((187,0),(0,3)),((187,1),(1,3)),((189,0),(0,3)),((189,1),(1,4)),((189,2),(2,3)),((190,0),(0,3)),((190,1),(1,3)),((190,2),(2,3)),((191,0),(0,3)),((191,1),(1,3)),((191,2),(2,3)),((200,0),(0,37)),((200,1),(8,110)),((221,0),(0,3)),((221,1),(1,3)),((221,2),(2,3)),((238,0),(0,3)),((238,1),(1,3)),((251,0),(0,249)),((251,1),(1,3)),((251,3),(3,40)),((374,0),(0,3)),((374,1),(1,3)),((374,2),(2,3)),((382,0),(0,32)),((398,0),(0,396)),((400,0),(0,3)),((400,1),(1,3)),((430,0),(0,30)),((430,1),(1,3)),((445,0),(0,3)),((445,1),(1,3))],[(3,false),(4,false),(22,false),(25,false),(27,true),(29,true),(30,false),(31,false),(32,false),(33,false),(35,true),(37,true),(39,true),(40,false),(43,false),(45,true),(46,false),(47,false),(48,false),(50,true),(52,true),(66,true),(73,true),(96,true),(101,true),(109,false),(110,true),(150,true),(152,false),(154,true),(180,true),(183,true),(185,true),(187,true),(189,true),(190,true),(191,true),(200,true),(221,true),(222,false),(249,false),(251,true),(331,false),(396,false),(398,true),(430,true),(443,false),(445,true),(453,false)],[(3,1),(4,1),(25,1),(27,2),(29,3),(30,1),(31,1),(32,1),(35,2),(37,8),(39,9),(40,1),(45,3),(50,2),(52,8),(66,2),(73,4),(96,6),(101,8),(110,4),(132,4),(140,1),(150,6),(154,2),(180,8),(183,3),(185,3),(187,3),(189,3),(190,3),(191,3),(200,12),(221,3),(222,1),(251,4),(331,1),(398,1),(430,2),(443,1),(445,2)],[(3,.I 0),(4,.bool false),(27,.agg [.lst true (List.map b8.Pv []),.I 0]),(29,.agg [.lst true (List.map b8.Pv []),.I 0,.I 0]),(30,.lst true (List.map iF [])),(32,.lst true (List.map c4.Pv [])),(35,.agg [.lst true (List.map k8.Pv []),.I 0]),(37,.agg [.lst true (List.map b8.Pv []),.I 0,.I 0,.lst true (List.map iF []),.lst true (List.map g5.Pv []),.lst true (List.map c4.Pv []),.lst true (List.map k8.Pv []),.I 0]),(39,.agg [.lst true (List.map b8.Pv []),.I 0,.I 0,.lst true (List.map iF []),.lst true (List.map g5.Pv []),.lst true (List.map c4.Pv []),.lst true (List.map k8.Pv []),.I 0,.lst true (List.map (Ls g9.Pv) [])]),(40,.I 0),(45,.agg [.lst true (List.map p9.Pv []),.I 0,.I 0]),(50,.agg [.lst true (List.map w7.Pv []),.I 0]),(52,.agg [.lst true (List.map p9.Pv []),.I 0,.I 0,.lst true (List.map iF []),.lst true (List.map u9.Pv []),.lst true (List.map m7.Pv []),.lst true (List.map w7.Pv []),.I 0]),(66,.agg [.I 0,.I 0]),(73,.agg [.I 0,.I 0,.I 0,.I 0]),(96,.agg [.I 0,.I 0,.I 0,.I 0,.bool false,.lst true (List.map iF [])]),(101,.agg [.I 0,.I 0,.I 0,.I 0,.I 0,.I 0,.bool false,.lst true (List.map iF [])]),(110,.agg [.I 0,.I 0,.I 0,.I 0]),(132,.agg [.I 0,.I 0,.I 0,.I 0]),(136,.agg []),(140,.agg [.I 0]),(150,.agg [.I 0,.I 0,.I 0,.I 0,.bool false,.lst true (List.map iF [])]),(154,.agg [.lst true (List.map B8.Pv []),.I 0]),(180,.agg [.I 0,.I 0,.I 0,.I 0,.I 0,.I 0,.bool false,.lst true (List.map iF [])]),(183,.agg [.I 0,.bool false,.I 0]),(185,.agg [.I 0,.I 0,.I 0]),(187,.agg [.I 0,.I 0,.I 0]),(189,.agg [.I 0,.bool false,.I 0]),(190,.agg [.I 0,.I 0,.I 0]),(191,.agg [.I 0,.I 0,.I 0]),(221,.agg [.I 0,.I 0,.I 0]),(222,.abs c0L),(251,.agg [.nilfn,.I 0,.I 0,.I 0]),(331,.abs c0L),(398,.agg [.nilfn]),(430,.agg [.lst true (List.map iF []),.I 0]),(443,.lst true (List.map n8.Pv [])),(445,.agg [.I 0,.I 0])]⟩
theorem Tb:TB.Ok Tryz.prog tb:=⟨by kernel_rfl,by kernel_rfl,by kernel_rfl,by kernel_rfl⟩
section
variable{X:Ctx}{ops:Array Oper}{K:Ctx→St→Prop}{i n:Nat}{l l':List Oper}{env env':Nat→PV}{σ σ':Nat→Option Row}{Q:PX→Ctx→St→Prop}{y:Code}{KD:St→Prop}{bar:List Nat}
theorem S1(n:Nat)(h:run tb n l env σ=some (l',env',σ'))(k:Sq X ops (i+n) l' K ⟨env',σ'⟩)(hb:TB.Ok X.P tb:=by exact Tb):Sq X ops i l K ⟨env,σ⟩:=seg hb n h k
theorem S2(n:Nat)(h:run tb n l env σ=some ([],env',σ'))(k:K X ⟨env',σ'⟩)(hb:TB.Ok X.P tb:=by exact Tb):Sq X ops i l K ⟨env,σ⟩:=seg hb n h (yN k)
theorem S3{id:Nat}(n:Nat)(h:run tb n l env σ=some (l',env',σ'))(k:Sq X l.toArray (0+n) l' (λX' s=>V3 X' y Q s) ⟨env',σ'⟩)(hd:a26 X.N l.toArray=true:=by kernel_rfl)(hb:TB.Ok X.P tb:=by exact Tb):V3 X (.seq (.region id l.toArray false) y) Q ⟨env,σ⟩:=sr hd (seg hb n h k)
theorem S4{id:Nat}(n:Nat)(h:run tb n l env σ=some ([],env',σ'))(k:V3 X y Q ⟨env',σ'⟩)(hd:a26 X.N l.toArray=true:=by kernel_rfl)(hb:TB.Ok X.P tb:=by exact Tb):V3 X (.seq (.region id l.toArray false) y) Q ⟨env,σ⟩:=sr hd (seg hb n h (yN k))
theorem S5{id:Nat}(n:Nat)(h:run tb n l env σ=some (l',env',σ'))(k:Sq X l.toArray (0+n) l' (Q .normal) ⟨env',σ'⟩)(hd:a26 X.N l.toArray=true:=by kernel_rfl)(hb:TB.Ok X.P tb:=by exact Tb):V3 X (.region id l.toArray false) Q ⟨env,σ⟩:=sr1 hd (seg hb n h k)
theorem S6{id:Nat}(n:Nat)(h:run tb n l env σ=some ([],env',σ'))(k:Q .normal X ⟨env',σ'⟩)(hd:a26 X.N l.toArray=true:=by kernel_rfl)(hb:TB.Ok X.P tb:=by exact Tb):V3 X (.region id l.toArray false) Q ⟨env,σ⟩:=sr1 hd (seg hb n h (yN k))
theorem S7(n:Nat)(h:c9X tb bar n i l env σ=some (l',env',σ'))(k:Ex X.P ops bar true (i+n) l' ⟨env',σ'⟩ KD)(hb:TB.Ok X.P tb:=by exact Tb):Ex X.P ops bar true i l ⟨env,σ⟩ KD:=dG hb n h k
theorem S8(n:Nat)(h:c9X tb bar n i l env σ=some ([],env',σ'))(k:KD ⟨env',σ'⟩)(hb:TB.Ok X.P tb:=by exact Tb):Ex X.P ops bar true i l ⟨env,σ⟩ KD:=dG hb n h k
end
theorem d3j:b65 Tryz.prog (Tryz.sortF_ren.f 6):=c4K Tryz.sortF
theorem c96:b3t Tryz.prog (Tryz.sortI_ren.f 5):=c1X Tryz.sortI
theorem c0A{a0}:PO Tryz.prog 10 [.L (Ls g9.Pv) a0] (a8E a0) λr=>.bool r:=by
 refine pO Tryz.func10 λr h _ _=>?_;refine S4 1 J ?_;refine jq h (λ_=>St.of [(0,.L (Ls g9.Pv) a0)] []) (λq6 h=>?_) λκ5 h=>?_
 ·refine S3 1 J ?_;refine nL J a6m<|S2 2 J<|b9 ?_;cases h;exact f1
 ·refine S4 1 J ?_;refine g6<|lq h (λs8=>St.of [(0,.L (Ls g9.Pv) a0),(3,.I s8)] []) W λs8 x9 h hx8=>g7<|S3 2 J<|nL J a6m<|S1 2 J<|k7 J (λhg=>mI J)<|k7 J (λhg=>s6 (ct hg) J J)<|y0 J (y8 J J J (λq=>eqT q))<|yN ?_;refine cN h (λhc h=>?_) λhc h=>?_
  ·refine c5 ?_;refine g7<|g6<|S3 2 J<|iL h J J a6m b3x λv10 _ h=>S1 1 J<|nL J a4M<|S2 1 J ?_;refine cN h (λhc h=>?_) λhc h=>?_
   ·refine S4 1 J ?_;refine b9 ?_;have h:=xL hx8 h;cases h;exact f1
   ·refine c5 ?_;refine S6 3 J ?_;exact eL h W
  ·refine p6 ?_;refine c7<|c7<|k9 ?_;have h:=xL hx8 h;exact eJ h W

theorem b8T{a0 a1}:PO Tryz.prog 31 [.L (Ls iF) a0,.I a1] (a2K a0 a1) λr=>.bool r:=by
 refine pO Tryz.func31 λr h _ _=>?_;refine S4 1 J ?_;refine jq h (λ_=>St.of [(0,.L (Ls iF) a0),(1,.I a1)] []) (λq6 h=>?_) λκ5 h=>?_
 ·refine S3 1 J ?_;refine nL J a7M<|S2 3 J<|b9 ?_;cases h;exact f1
 ·refine S4 1 J ?_;refine g6<|lq h (λs8=>St.of [(0,.L (Ls iF) a0),(1,.I a1),(5,.I s8)] []) W λs8 x9 h hx8=>g7<|S3 2 J<|nL J a7M<|S1 2 J<|k7 J (λhg=>mI J)<|k7 J (λhg=>s6 (ct hg) J J)<|y0 J (y8 J J J (λq=>eqT q))<|yN ?_;refine cN h (λhc h=>?_) λhc h=>?_
  ·refine c5 ?_;refine g7<|g6<|S3 2 J<|iL h J J a7M a9Z λv10 _ h=>S1 1 J<|nL J l4<|S2 1 J ?_;refine cN h (λhc h=>?_) λhc h=>?_
   ·refine S4 1 J ?_;refine b9 ?_;have h:=xL hx8 h;cases h;exact f1
   ·refine c5 ?_;refine S6 3 J ?_;exact eL h W
  ·refine p6 ?_;refine c7<|c7<|k9 ?_;have h:=xL hx8 h;exact eJ h W

theorem b5N{a0}:PO Tryz.prog 88 [g9.Pv a0] (a2p a0) λr=>.bool r:=by
 refine pO Tryz.func88 λr h _ _=>?_;unfold a2p at h;refine S4 2 J<|S3 4 J<|k7 J (λhg=>oF J c3N J)<|k7 J (λhg=>oS (ct hg) J J x6 J)<|k7 J (λhg=>s6 (ct hg) J J)<|y0 J (y8 J J J (λq=>eqT q))<|S2 1 J<|b9 ?_;cases h;exact f1

theorem A6:PO Tryz.prog 232 [.fn (.func 233) []] (Z0) λr=>j5.Pv r:=by
 refine pO Tryz.func232 λr h _ _=>?_;unfold Z0 at h;refine S4 1 J<|S3 1 J<|y0 J (u7 (cs:=[.fn (.func 233) [],.I 0,.I 5,.I 6]) J a1F J6 J J J)<|T1 (a7z 4 (d':=.agg [fvE (some 233),.I 0,.I 5,.I 6]) J)<|S2 1 J<|b9 ?_;cases h;exact⟨J,[_],⟨oL J J J a3D K5 nl J,tr⟩,J,io⟩

theorem Z4:PO Tryz.prog 235 [.fn (.func 236) []] (R5) λr=>j5.Pv r:=by
 refine pO Tryz.func235 λr h _ _=>?_;unfold R5 at h;refine S4 1 J<|S3 1 J<|y0 J (u7 (cs:=[.fn (.func 236) [],.I (-1),.I 5,.I 13]) J a1F J6 J J J)<|T1 (a7z 4 (d':=.agg [fvE (some 236),.I (-1),.I 5,.I 13]) J)<|S2 1 J<|b9 ?_;cases h;exact⟨J,[_],⟨oL J J J a3D K5 nl J,tr⟩,J,io⟩

theorem E6{a0}:PO Tryz.prog 231 [.L j5.Pv a0] (J0 a0) λr=>.L j5.Pv r:=by
 refine pO Tryz.func231 λr h _ _=>?_;unfold J0 at h;refine S4 1 J<|S4 2 J<|b9 ?_;cases h;exact f1

theorem K7:PO Tryz.prog 232 [.fn (.func 234) []] (Z1) λr=>j5.Pv r:=by
 refine pO Tryz.func232 λr h _ _=>?_;unfold Z1 at h;refine S4 1 J<|S3 1 J<|y0 J (u7 (cs:=[.fn (.func 234) [],.I 0,.I 5,.I 6]) J a1F J6 J J J)<|T1 (a7z 4 (d':=.agg [fvE (some 234),.I 0,.I 5,.I 6]) J)<|S2 1 J<|b9 ?_;cases h;exact⟨J,[_],⟨oL J J J a3D K5 nl J,tr⟩,J,io⟩

theorem a4I:PO Tryz.prog 237 [.fn (.func 236) []] (V9) λr=>j5.Pv r:=by
 refine pO Tryz.func237 λr h _ _=>?_;unfold V9 at h;refine S4 1 J<|S3 1 J<|y0 J (u7 (cs:=[.fn (.func 236) [],.I 0,.I 3,.I 5]) J a1F J6 J J J)<|T1 (a7z 4 (d':=.agg [fvE (some 236),.I 0,.I 3,.I 5]) J)<|S2 1 J<|b9 ?_;cases h;exact⟨J,[_],⟨oL J J J a3D K5 nl J,tr⟩,J,io⟩

theorem a4H:PO Tryz.prog 237 [.fn (.func 234) []] (V8) λr=>j5.Pv r:=by
 refine pO Tryz.func237 λr h _ _=>?_;unfold V8 at h;refine S4 1 J<|S3 1 J<|y0 J (u7 (cs:=[.fn (.func 234) [],.I 0,.I 3,.I 5]) J a1F J6 J J J)<|T1 (a7z 4 (d':=.agg [fvE (some 234),.I 0,.I 3,.I 5]) J)<|S2 1 J<|b9 ?_;cases h;exact⟨J,[_],⟨oL J J J a3D K5 nl J,tr⟩,J,io⟩

theorem a2q:PO Tryz.prog 238 [.fn (.func 236) []] (N8) λr=>j5.Pv r:=by
 refine pO Tryz.func238 λr h _ _=>?_;unfold N8 at h;refine S4 1 J<|S3 1 J<|y0 J (u7 (cs:=[.fn (.func 236) [],.I (-1),.I 5,.I 6]) J a1F J6 J J J)<|T1 (a7z 4 (d':=.agg [fvE (some 236),.I (-1),.I 5,.I 6]) J)<|S2 1 J<|b9 ?_;cases h;exact⟨J,[_],⟨oL J J J a3D K5 nl J,tr⟩,J,io⟩

theorem a5o:PO Tryz.prog 239 [.fn (.func 233) []] (Y8) λr=>j5.Pv r:=by
 refine pO Tryz.func239 λr h _ _=>?_;unfold Y8 at h;refine S4 1 J<|S3 1 J<|y0 J (u7 (cs:=[.fn (.func 233) [],.I 0,.I 5,.I 7]) J a1F J6 J J J)<|T1 (a7z 4 (d':=.agg [fvE (some 233),.I 0,.I 5,.I 7]) J)<|S2 1 J<|b9 ?_;cases h;exact⟨J,[_],⟨oL J J J a3D K5 nl J,tr⟩,J,io⟩

theorem T8:PO Tryz.prog 238 [.fn (.func 234) []] (N7) λr=>j5.Pv r:=by
 refine pO Tryz.func238 λr h _ _=>?_;unfold N7 at h;refine S4 1 J<|S3 1 J<|y0 J (u7 (cs:=[.fn (.func 234) [],.I (-1),.I 5,.I 6]) J a1F J6 J J J)<|T1 (a7z 4 (d':=.agg [fvE (some 234),.I (-1),.I 5,.I 6]) J)<|S2 1 J<|b9 ?_;cases h;exact⟨J,[_],⟨oL J J J a3D K5 nl J,tr⟩,J,io⟩

theorem a5p:PO Tryz.prog 239 [.fn (.func 234) []] (Y9) λr=>j5.Pv r:=by
 refine pO Tryz.func239 λr h _ _=>?_;unfold Y9 at h;refine S4 1 J<|S3 1 J<|y0 J (u7 (cs:=[.fn (.func 234) [],.I 0,.I 5,.I 7]) J a1F J6 J J J)<|T1 (a7z 4 (d':=.agg [fvE (some 234),.I 0,.I 5,.I 7]) J)<|S2 1 J<|b9 ?_;cases h;exact⟨J,[_],⟨oL J J J a3D K5 nl J,tr⟩,J,io⟩

theorem b3g:PO Tryz.prog 147 [] (a6t) λr=>.abs (W6 (List.map (ent iF (Ls j5.Pv)) r)):=by
 refine pO Tryz.func147 λr h _ _=>?_;refine S4 1 J<|sR<|c0H (KT:=Int) (VT:=List j5) (EK:=iF) (E:=(Ls j5.Pv)) 5000001 J J<|cF h A6 J J λv1 hv1 h=>y0 J (u7 (cs:=[.fn (.func 234) [],.I 0,.I 4,.I 1]) J a1F J6 J J J)<|T1 (a7z 3 (d':=.agg [fvE (some 234),.I 0,.I 4,.I 1]) J)<|cF h Z4 J J λv2 hv2 h=>y0 J (L1 (f:=j5.Pv) (l:=[v1,(⟨(some 234),0,4,1⟩:j5),v2]) J a0r K5 J6 J J nl J J)<|cF h E6 J J λv3 _ h=>a0R (es:=[]) (k:=1) (v:=v3) (E:=(Ls j5.Pv)) (EK:=iF) (.inr J) J J J J J J T6 (A8 L4)<|yc J (A5 J A6 J hv1)<|cF h K7 J J λv4 hv4 h=>y0 J (L1 (f:=j5.Pv) (l:=[v1,v4]) J a0r K5 J6 J J nl J J)<|cF h E6 J J λv5 hv5 h=>a0R (es:=(r8 [] 1 v3)) (k:=2) (v:=v5) (E:=(Ls j5.Pv)) (EK:=iF) (.inr J) J J J J J J T6 (A8 L4)<|yc J (A5 J A6 J hv1)<|y0 J (L1 (f:=j5.Pv) (l:=[v1]) J a0r K5 J6 J J nl J J)<|cF h E6 J J λv6 _ h=>a0R (es:=(r8 (r8 [] 1 v3) 2 v5)) (k:=3) (v:=v6) (E:=(Ls j5.Pv)) (EK:=iF) (.inr J) J J J J J J T6 (A8 L4)<|yc J (A5 J A6 J hv1)<|yc J (A5 J K7 J hv4)<|cF h a4I J J λv7 _ h=>y0 J (L1 (f:=j5.Pv) (l:=[v1,v4,v7]) J a0r K5 J6 J J nl J J)<|cF h E6 J J λv8 _ h=>a0R (es:=(r8 (r8 (r8 [] 1 v3) 2 v5) 3 v6)) (k:=4) (v:=v8) (E:=(Ls j5.Pv)) (EK:=iF) (.inr J) J J J J J J T6 (A8 L4)<|yc J (A5 J A6 J hv1)<|cF h a4H J J λv9 _ h=>cF h a2q J J λv10 _ h=>y0 J (L1 (f:=j5.Pv) (l:=[v1,v9,v10]) J a0r K5 J6 J J nl J J)<|cF h E6 J J λv11 _ h=>?_;refine a0R (es:=(r8 (r8 (r8 (r8 [] 1 v3) 2 v5) 3 v6) 4 v8)) (k:=5) (v:=v11) (E:=(Ls j5.Pv)) (EK:=iF) (.inr J) J J J J J J T6 (A8 L4)<|cF h a5o J J λv12 _ h=>cF h T8 J J λv13 hv13 h=>yc J (A5 J Z4 J hv2)<|y0 J (L1 (f:=j5.Pv) (l:=[v12,v13,v2]) J a0r K5 J6 J J nl J J)<|cF h E6 J J λv14 _ h=>a0R (es:=(r8 (r8 (r8 (r8 (r8 [] 1 v3) 2 v5) 3 v6) 4 v8) 5 v11)) (k:=6) (v:=v14) (E:=(Ls j5.Pv)) (EK:=iF) (.inr J) J J J J J J T6 (A8 L4)<|yc J (A5 J A6 J hv1)<|cF h a5p J J λv15 _ h=>y0 J (L1 (f:=j5.Pv) (l:=[v1,v15]) J a0r K5 J6 J J nl J J)<|cF h E6 J J λv16 _ h=>a0R (es:=(r8 (r8 (r8 (r8 (r8 (r8 [] 1 v3) 2 v5) 3 v6) 4 v8) 5 v11) 6 v14)) (k:=7) (v:=v16) (E:=(Ls j5.Pv)) (EK:=iF) (.inr J) J J J J J J T6 (A8 L4)<|yc J (A5 J A6 J hv1)<|yc J (A5 J T8 J hv13)<|y0 J (L1 (f:=j5.Pv) (l:=[v1,v13]) J a0r K5 J6 J J nl J J)<|cF h E6 J J λv17 _ h=>a0R (es:=(r8 (r8 (r8 (r8 (r8 (r8 (r8 [] 1 v3) 2 v5) 3 v6) 4 v8) 5 v11) 6 v14) 7 v16)) (k:=8) (v:=v17) (E:=(Ls j5.Pv)) (EK:=iF) (.inr J) J J J J J J T6 (A8 L4)<|yc J (A5 J A6 J hv1)<|yc J (A5 J K7 J hv4)<|y0 J (L1 (f:=j5.Pv) (l:=[v1,v4]) J a0r K5 J6 J J nl J J)<|yc J (A5 J E6 J hv5)<|a0R (es:=(r8 (r8 (r8 (r8 (r8 (r8 (r8 (r8 [] 1 v3) 2 v5) 3 v6) 4 v8) 5 v11) 6 v14) 7 v16) 8 v17)) (k:=9) (v:=v5) (E:=(Ls j5.Pv)) (EK:=iF) (.inr J) J J J J J J T6 (A8 L4)<|yc J (A5 J A6 J hv1)<|yc J (A5 J K7 J hv4)<|y0 J (L1 (f:=j5.Pv) (l:=[v1,v4]) J a0r K5 J6 J J nl J J)<|yc J (A5 J E6 J hv5)<|a0R (es:=(r8 (r8 (r8 (r8 (r8 (r8 (r8 (r8 (r8 [] 1 v3) 2 v5) 3 v6) 4 v8) 5 v11) 6 v14) 7 v16) 8 v17) 9 v5)) (k:=10) (v:=v5) (E:=(Ls j5.Pv)) (EK:=iF) (.inr J) J J J J J J T6 (A8 L4)<|cF h E6 J J λv18 _ h=>a0R (es:=(r8 (r8 (r8 (r8 (r8 (r8 (r8 (r8 (r8 (r8 [] 1 v3) 2 v5) 3 v6) 4 v8) 5 v11) 6 v14) 7 v16) 8 v17) 9 v5) 10 v5)) (k:=11) (v:=v18) (E:=(Ls j5.Pv)) (EK:=iF) (.inr J) J J J J J J T6 (A8 L4)<|y0 J (u7 (cs:=[.fn (.func 233) [],.I 0,.I 200,.I 12]) J a1F J6 J J J) ?_;refine T1 (a7z 46 (d':=.agg [fvE (some 233),.I 0,.I 200,.I 12]) J)<|y0 J (L1 (f:=j5.Pv) (l:=[(⟨(some 233),0,200,12⟩:j5)]) J a0r K5 J6 J J nl J J)<|cF h E6 J J λv19 _ h=>a0R (es:=(r8 (r8 (r8 (r8 (r8 (r8 (r8 (r8 (r8 (r8 (r8 [] 1 v3) 2 v5) 3 v6) 4 v8) 5 v11) 6 v14) 7 v16) 8 v17) 9 v5) 10 v5) 11 v18)) (k:=12) (v:=v19) (E:=(Ls j5.Pv)) (EK:=iF) (.inr J) J J J J J J T6 (A8 L4)<|S2 2 J<|a3f (c18 0 5000001 J J)<|b9 ?_;cases h;exact f1

theorem a9H{a0}:PO Tryz.prog 233 [g9.Pv a0] (a93 a0) λr=>.I r:=by
 refine pO Tryz.func233 λr h _ _=>?_;unfold a93 at h;refine S4 2 J<|S4 3 J<|b9 ?_;cases h;exact f1

theorem a9I{a0}:PO Tryz.prog 234 [g9.Pv a0] (a94 a0) λr=>.I r:=by
 refine pO Tryz.func234 λr h _ _=>?_;unfold a94 at h;refine S4 2 J<|S4 3 J<|b9 ?_;cases h;exact f1

theorem a9J{a0}:PO Tryz.prog 236 [g9.Pv a0] (a95 a0) λr=>.I r:=by
 refine pO Tryz.func236 λr h _ _=>?_;unfold a95 at h;refine S4 2 J<|S4 3 J<|b9 ?_;cases h;exact f1

theorem c1c{f:Fv}{a0:g9}{r:Int}(h:b0V f a0=some r):∃n,f=some n∧B7 Tryz.prog n∧Y4 Tryz.prog n [g9.Pv a0] (.I r):=by
 unfold b0V at h;by_cases e233:f=some 233
 ·rw[if_pos e233] at h;exact⟨233,e233,(@a9H a0).1,(@a9H a0).2 _ h⟩
 rw[if_neg e233] at h;by_cases e234:f=some 234
 ·rw[if_pos e234] at h;exact⟨234,e234,(@a9I a0).1,(@a9I a0).2 _ h⟩
 rw[if_neg e234] at h;by_cases e236:f=some 236
 ·rw[if_pos e236] at h;exact⟨236,e236,(@a9J a0).1,(@a9J a0).2 _ h⟩
 rw[if_neg e236] at h;cases h

theorem a5n{a0}:PO Tryz.prog 89 [g9.Pv a0] (R4 a0) λr=>.I r:=by
 refine pO Tryz.func89 λr h _ _=>?_;unfold R4 at h;refine S4 2 J<|dr [] w9 (by kernel_rfl) (by kernel_rfl)<|z7 h λv1 hv1 h=>d2f J (A5 J b3g J hv1) J<|S7 2 J<|d4 J (b9Q (es:=v1) (k:=a0.Kind) (E:=(Ls j5.Pv)) (EK:=iF) (d:=.tup [.L j5.Pv ((B5 v1 a0.Kind).getD ([]:List j5)),.bool ((B5 v1 a0.Kind).isSome)]) J J T6 (A8 L4) c8H J (lk2 _ _ ([]:List j5))) J<|S8 5 J<|g7<|S4 2 J ?_
 refine cN h (λhc h=>?_) λhc h=>?_
 ·refine S4 1 J ?_;refine b9 ?_;cases h;exact f1
 ·refine c5 ?_;refine jq h (λ_=>St.of [] []) (λq9 h=>?_) λκ8 h=>?_
  ·refine S4 1 J ?_;refine b9 ?_;cases h;exact f1
  ·refine S3 1 J ?_;refine nL J a0r<|S2 1 J<|g6<|lq h (λs11=>St.of [(1,.ptr 1 0 0),(17,.L j5.Pv ((B5 v1 a0.Kind).getD ([]:List j5))),(18,.I (((B5 v1 a0.Kind).getD ([]:List j5)).length:Int)),(19,.I s11)] [(1,vR (g9.Pv a0) 4)]) W λs11 x12 h hx13=>S4 1 J<|g7 ?_;refine cN h (λhc h=>?_) λhc h=>?_
   ·refine c5 ?_;refine g7<|g6<|sR<|iL h J J a0r K5 λv13 _ h=>S2 3 J<|S3 3 J ?_;obtain⟨v14,hv15,h⟩:=a9F h;obtain⟨n15,he16,hk17,hp18⟩:=c1c hv15;refine T1 (d00 24 J he16)<|y0 J (c1q J hk17 J hp18)<|S2 1 J<|S3 5 J<|k7 J (λhg=>mI J)<|k7 J (λhg=>oF J c3X J)<|k7 J (λhg=>oS (ct hg) J J x6 J)<|k7 J (λhg=>s6 (ct hg) (ct hg) J)<|y0 J (x8 J J J (λq=>U0 q))<|yN ?_;refine cN h (λhc h=>?_) λhc h=>?_
    ·refine S4 3 J ?_;refine b9 ?_;have h:=xL hx13 h;cases h;exact f1
    ·refine c5 ?_;refine S6 2 J ?_;exact eL h W
   ·refine p6 ?_;refine c7<|c7<|k9 ?_;have h:=xL hx13 h;exact eJ h W

theorem b5O{a0}:PO Tryz.prog 42 [.L (Ls g9.Pv) a0] (a37 a0) λr=>.bool r:=by
 refine pO Tryz.func42 λr h _ _=>?_;refine S4 1 J<|g7<|S3 1 J<|nL J a6m<|S2 1 J ?_;refine cN h (λhc h=>?_) λhc h=>?_
 ·refine S4 1 J ?_;refine b9 ?_;cases h;exact f1
 ·refine c5 ?_;refine jq h (λ_=>St.of [] []) (λq21 h=>?_) λκ20 h=>?_
  ·refine S4 1 J ?_;refine b9 ?_;cases h;exact f1
  ·refine S3 1 J ?_;refine nL J a6m<|S2 1 J<|g6<|lq h (λs23=>St.of [(10,.L (Ls g9.Pv) a0),(11,.I (a0.length:Int)),(12,.I s23)] []) W λs23 x24 h hx22=>S4 1 J<|g7 ?_;refine cN h (λhc h=>?_) λhc h=>?_
   ·refine c5 ?_;refine jq h (λ_=>St.of [(10,.L (Ls g9.Pv) a0),(11,.I (a0.length:Int)),(12,.I s23)] []) (λq33 h=>?_) λκ32 h=>?_
    ·refine S6 2 J ?_;exact eL h W
    ·refine g6 ?_;refine sR<|iL h J J a6m b3x λv34 _ h=>S2 2 J<|g7<|S3 1 J<|nL J a4M<|S2 1 J ?_;refine cN h (λhc h=>?_) λhc h=>?_
     ·refine S4 1 J ?_;refine b9 ?_;have h:=xL hx22 h;cases h;exact f1
     ·refine c5 ?_;refine S3 1 J<|nL J a4M<|S2 1 J<|g6<|lq h (λs36=>St.of [(10,.L (Ls g9.Pv) a0),(11,.I (a0.length:Int)),(12,.I s23),(19,.L g9.Pv v34),(20,.I (v34.length:Int)),(21,.I s36)] []) W λs36 x37 h hx34=>S4 1 J<|g7 ?_;refine cN h (λhc h=>?_) λhc h=>?_
      ·refine c5 ?_;refine g7<|g6<|sR<|iL h J J a4M a4O λv38 _ h=>S2 3 J<|S3 1 J<|cA h b5N J J λv39 _ h=>S1 2 J<|k7 J (λhg=>oL J J J b3u a4O nl J)<|z7 h λv40 hv37 h=>k7 J (λhg=>G7 J a5n (F8 (ct hg) J) (G8 hv37 hg))<|k7 J (λhg=>s6 (ct hg) J J)<|y0 J (x8 J J J (λq=>U0 q))<|yN ?_;refine cN h (λhc h=>?_) λhc h=>?_
       ·refine S4 1 J ?_;refine b9 ?_;have h:=xL hx34 h;have h:=xL hx22 h;cases h;exact f1
       ·refine c5 ?_;refine S6 2 J ?_;exact eL h W
      ·refine p6 ?_;refine c7<|c7<|k9 ?_;have h:=xL hx34 h;exact eJ h W
   ·refine p6 ?_;refine c7<|c7<|k9 ?_;have h:=xL hx22 h;exact eJ h W

theorem a7F{a0 a1}:PO Tryz.prog 148 [.I a0,.I a1] (P5 a0 a1) λr=>c8.Pv r:=by
 refine pO Tryz.func148 λr h _ _=>?_;refine S4 1 J<|g7<|S3 3 J<|k7 J (λhg=>mI J)<|k7 J (λhg=>s6 (ct hg) J J)<|y0 J (x8 J J J (λq=>U0 q))<|S1 1 J<|k7 J (λhg=>mI J)<|k7 J (λhg=>s6 (ct hg) J J)<|y0 J (x8 J J J (λq=>U0 q))<|S1 1 J<|k7 J (λhg=>mI J)<|k7 J (λhg=>s6 (ct hg) J J)<|y0 J (x8 J J J (λq=>U0 q))<|yN ?_;refine cN h (λhc h=>?_) λhc h=>?_
 ·refine sR ?_;refine y0 J (u7 (cs:=[.nl,.I 0]) J c47 c5f J J J)<|a6j (x':=.agg [.nl,.I 0]) (cl':=true) J J (.inl J) a1G<|yN<|b9 ?_;cases h;exact⟨J,[_],⟨oL J J J a3m a1G nl J,tr⟩,J,io⟩
 ·refine c5 ?_;refine S3 1 J<|z7 h λv1 hv1 h=>y1 J (c1r (f:=b8.Pv) hv1 J J J M7 P8 a8I c2g J J J) J<|S1 1 J<|y0 J (u7 (cs:=[.sl 21,.I a1]) J c47 c5f J J J)<|S2 1 J<|b9 ?_;cases h;exact⟨J,[_],⟨oL J J J a3m a1G nl J,tr⟩,J,io⟩

theorem b8H{a0 a1}:PO Tryz.prog 90 [.I a0,.I a1] (a1z a0 a1) λr=>a7.Pv r:=by
 refine pO Tryz.func90 λr h _ _=>?_;refine S4 1 J<|S3 2 J<|cF h a7F J J λv1 _ h=>y0 J (u7 (cs:=[.L b8.Pv v1.a8,.I v1.Last,.I 0]) J c48 c5g J J J)<|S2 1 J<|b9 ?_;cases h;exact⟨J,[_],⟨oL J J J a6l a6o nl J,tr⟩,J,io⟩

theorem c0E{a0}:PO Tryz.prog 91 [.I a0] (c0D a0) λr=>.L g5.Pv r:=by
 refine pO Tryz.func91 λr h _ _=>?_;refine S4 1 J<|g7<|S3 3 J<|k7 J (λhg=>mI J)<|k7 J (λhg=>s6 (ct hg) J J)<|y0 J (x8 J J J (λq=>U0 q))<|yN ?_;refine cN h (λhc h=>?_) λhc h=>?_
 ·refine S4 1 J ?_;refine b9 ?_;cases h;exact f1
 ·refine c5 ?_;refine S3 1 J<|z7 h λv1 hv1 h=>y1 J (c1r (f:=g5.Pv) hv1 J J J R3 V7 b68 c2h J J J) J<|S2 1 J ?_;refine jq h (λj9=>St.of [(3,.sl 12)] [(12,⟨List.map g5.Pv j9,0,true,3,true⟩)]) (λj9 h=>?_) λκ8 h=>?_
  ·refine S4 2 J ?_;refine b9 ?_;cases h;exact f1
  ·refine S3 1 J ?_;refine y0 J (c26 (f:=g5.Pv) J J J R3)<|S2 1 J<|g6<|lq h (λq=>St.of [(3,.sl 12),(14,.I (v1.length:Int)),(15,.I q.1)] [(12,⟨List.map g5.Pv q.2,0,true,3,true⟩)]) W λq14 x13 h hx9=>?_;obtain⟨s11,s12⟩:=q14;refine S4 1 J<|g7 ?_;refine cN h (λhc h=>?_) λhc h=>?_
   ·refine c5 ?_;refine g7<|g6<|S4 2 J<|S5 2 J<|z7 h λv15 hv10 h=>y0 J (a3B (f:=g5.Pv) hv10 J J J J R3 V7 J)<|S1 1 J<|b1Z (f:=g5.Pv) (v:=(⟨v15.Target,v15.Intact,(-1)⟩:g5)) hv10 J J (.inl J) o8<|yN<|S6 2 J ?_;exact eL h W
   ·refine p6 ?_;refine c7<|c7<|k9 ?_;have h:=xL hx9 h;exact eJ h W

theorem b9y{a0}:PO Tryz.prog 92 [.I a0] (b03 a0) λr=>.L c4.Pv r:=by
 refine pO Tryz.func92 λr h _ _=>?_;refine S4 1 J<|g7<|S3 3 J<|k7 J (λhg=>mI J)<|k7 J (λhg=>s6 (ct hg) J J)<|y0 J (x8 J J J (λq=>U0 q))<|yN ?_;refine cN h (λhc h=>?_) λhc h=>?_
 ·refine S4 1 J ?_;refine b9 ?_;cases h;exact f1
 ·refine c5 ?_;refine S3 1 J<|z7 h λv1 hv1 h=>y1 J (c1r (f:=c4.Pv) hv1 J J J Y5 a0s b3y c2i J J J) J<|S2 1 J<|b9 ?_;cases h;exact f1

theorem a6U{a0}:PO Tryz.prog 149 [.I a0] (a0O a0) λr=>c9.Pv r:=by
 refine pO Tryz.func149 λr h _ _=>?_;unfold a0O at h;refine S4 1 J<|S3 1 J<|y0 J (u7 (cs:=[.nl,.I a0]) J d09 d1h J J J)<|a6j (x':=.agg [.nl,.I a0]) (cl':=true) J J (.inl J) a1H<|yN<|b9 ?_;cases h;exact⟨J,[_],⟨oL J J J a5k a1H nl J,tr⟩,J,io⟩

theorem c0s:PO Tryz.prog 93 [] (c0r) λr=>c9.Pv r:=by
 refine pO Tryz.func93 λr h _ _=>?_;refine S4 1 J<|sR<|cF h a6U J J λv1 _ h=>S2 1 J<|b9 ?_;cases h;exact⟨J,[_],⟨oL J J J a5k a1H nl J,tr⟩,J,io⟩

theorem b9C{a0 a1 a2}:PO Tryz.prog 43 [.I a0,.I a1,.I a2] (a1S a0 a1 a2) λr=>b7.Pv r:=by
 refine pO Tryz.func43 λr h _ _=>?_;refine S4 1 J<|g7<|S3 3 J<|k7 J (λhg=>mI J)<|k7 J (λhg=>s6 (ct hg) J J)<|y0 J (x8 J J J (λq=>U0 q))<|S1 1 J<|k7 J (λhg=>mI J)<|k7 J (λhg=>s6 (ct hg) J J)<|y0 J (x8 J J J (λq=>U0 q))<|S1 1 J<|k7 J (λhg=>mI J)<|k7 J (λhg=>s6 (ct hg) J J)<|y0 J (x8 J J J (λq=>U0 q))<|S1 1 J<|k7 J (λhg=>mI J)<|k7 J (λhg=>s6 (ct hg) J J)<|y0 J (x8 J J J (λq=>U0 q))<|S1 1 J<|k7 J (λhg=>mI J)<|k7 J (λhg=>s6 (ct hg) J J)<|y0 J (x8 J J J (λq=>U0 q))<|yN ?_;refine cN h (λhc h=>?_) λhc h=>?_
 ·refine sR ?_;refine y0 J (u7 (cs:=[.nl,.I 0,.I 0,.nl,.nl,.nl,.nl,.I 0]) J c49 c5h J J J)<|a6j (x':=.agg [.nl,.I 0,.I 0,.nl,.nl,.nl,.nl,.I 0]) (cl':=true) J J (.inl J) p8<|yN<|b9 ?_;cases h;exact⟨J,[_],⟨oL J J J u6 p8 nl J,tr⟩,J,io⟩
 ·refine c5 ?_;refine dr [] w9 (by kernel_rfl) (by kernel_rfl)<|S7 2 J<|z7 h λv1 hv1 h=>d2f J (A5 J b8H J hv1) J<|z7 h λv2 hv2 h=>d1 J (c1r (f:=iF) hv2 J J J l4 o8 C2 O7 J J J) J J J<|z7 h λv3 hv3 h=>d2f J (A5 J c0E J hv3) J<|S7 1 J<|z7 h λv4 hv4 h=>d2f J (A5 J b9y J hv4) J<|z7 h λv5 hv5 h=>d2f J (A5 J c0s J hv5) J<|d7 J (λ_ hN=>u7 (cs:=[.L b8.Pv v1.S.a8,.I v1.S.Last,.I v1.Serial,.sl 33,.L g5.Pv v3,.L c4.Pv v4,.L k8.Pv v5.L,.I v5.Cap]) J c49 c5h J J J) J<|F2 (x':=.agg [.L b8.Pv v1.S.a8,.I v1.S.Last,.I v1.Serial,.sl 33,.L g5.Pv v3,.L c4.Pv v4,.L k8.Pv v5.L,.I v5.Cap]) (cl':=false) J J (.inr J) p8<|Q0<|b9 ?_
  cases h;exact⟨J,[_],⟨oL J J J u6 p8 nl J,tr⟩,J,io⟩

theorem a2S{a0 a1 a2 a3}:PO Tryz.prog 12 [.I a0,.I a1,.I a2,.L (Ls g9.Pv) a3] (O8 a0 a1 a2 a3) λr=>.tup [n9.Pv r.1,.I r.2]:=by
 refine pO Tryz.func12 λr h _ _=>?_;refine S4 2 J<|g7<|S3 1 J<|cA h b5O J J λv1 _ h=>S2 1 J ?_;refine cN h (λhc h=>?_) λhc h=>?_
 ·refine sR ?_;refine y0 J (u7 (cs:=[.nl,.I 0,.I 0,.nl,.nl,.nl,.nl,.I 0,.nl]) J c0R c0T J J J)<|a6j (x':=.agg [.nl,.I 0,.I 0,.nl,.nl,.nl,.nl,.I 0,.nl]) (cl':=true) J J (.inl J) T7<|S2 1 J<|b9 ?_;cases h;exact⟨J,[_,_],⟨oL J J J a2n T7 nl J,⟨J,tr⟩⟩,J,io⟩
 ·refine c5 ?_;refine S3 3 J<|cF h b9C J J λv2 _ h=>S2 2 J<|g7<|S3 2 J<|nL J l4<|S2 1 J ?_;refine cN h (λhc h=>?_) λhc h=>?_
  ·refine sR ?_;refine y0 J (u7 (cs:=[.nl,.I 0,.I 0,.nl,.nl,.nl,.nl,.I 0,.nl]) J c0R c0T J J J)<|a6j (x':=.agg [.nl,.I 0,.I 0,.nl,.nl,.nl,.nl,.I 0,.nl]) (cl':=true) J J (.inl J) T7<|S2 1 J<|b9 ?_;cases h;exact⟨J,[_,_],⟨oL J J J a2n T7 nl J,⟨J,tr⟩⟩,J,io⟩
  ·refine c5 ?_;refine S3 2 J<|y0 J (u7 (cs:=[.L b8.Pv v2.S.S.a8,.I v2.S.S.Last,.I v2.S.Serial,.L iF v2.Roots,.L g5.Pv v2.a8,.L c4.Pv v2.T,.L k8.Pv v2.Q.L,.I v2.Q.Cap,.L (Ls g9.Pv) a3]) J c0R c0T J J J)<|S2 2 J<|b9 ?_;cases h;exact⟨J,[_,_],⟨oL J J J a2n T7 nl J,⟨J,tr⟩⟩,J,io⟩

theorem b4j{a0}:PO Tryz.prog 57 [.L iF a0] (V5 a0) λr=>.tup [g9.Pv r.1,.I r.2]:=by
 refine pO Tryz.func57 λr h _ _=>?_;refine S4 2 J<|g7<|S3 1 J<|nL J l4<|S2 1 J ?_;refine cN h (λhc h=>?_) λhc h=>?_
 ·refine sR ?_;refine y0 J (u7 (cs:=[.I 0,.I 0,.I 0,.I 0]) J b3v b0B J J J)<|S2 2 J<|b9 ?_;cases h;exact⟨J,[_,_],⟨oL J J J b3u a4O nl J,⟨J,tr⟩⟩,J,io⟩
 ·refine c5 ?_;refine dr [] w9 (by kernel_rfl) (by kernel_rfl)<|S7 1 J<|z7 h λv1 hv1 h=>d0 J (D2 (f:=iF) (cs:=[.I v1]) hv1 J J l4 o8 J J) J<|S7 2 J<|z7 h λv2 hv2 h=>d0 J (D2 (f:=iF) (cs:=[.I v2]) hv2 J J l4 o8 J J) J<|S7 2 J<|z7 h λv3 hv3 h=>d0 J (D2 (f:=iF) (cs:=[.I v3]) hv3 J J l4 o8 J J) J<|S7 2 J<|z7 h λv4 hv4 h=>d0 J (D2 (f:=iF) (cs:=[.I v4]) hv4 J J l4 o8 J J) J<|S7 1 J<|d7 J (λ_ hN=>u7 (cs:=[.I v1,.I v2,.I v3,.I v4]) J b3v b0B J J J) J<|S7 1 J<|F2 (x':=.agg [.I v1,.I v2,.I v3,.I v4]) (cl':=true) J J (.inl J) a4O<|Q0<|g7<|S3 1 J<|cA h a5n J J λv5 _ h=>S2 1 J<|S4 2 J ?_
  refine cN h (λhc h=>?_) λhc h=>?_
  ·refine sR ?_;refine y0 J (u7 (cs:=[.I 0,.I 0,.I 0,.I 0]) J b3v b0B J J J)<|S2 3 J<|b9 ?_;cases h;exact⟨J,[_,_],⟨oL J J J b3u a4O nl J,⟨J,tr⟩⟩,J,io⟩
  ·refine c5 ?_;refine S4 3 J<|b9 ?_;cases h;exact⟨J,[_,_],⟨oL J J J b3u a4O nl J,⟨J,tr⟩⟩,J,io⟩

theorem b3i{a0}:PO Tryz.prog 58 [g9.Pv a0] (a6w a0) λr=>ifE a9X r:=by
 refine pO Tryz.func58 λr h _ _=>?_;refine S4 2 J<|g7<|S4 2 J<|g6<|S4 2 J ?_;refine cN h (λhc h=>?_) λhc h=>?_
 ·refine sR ?_;refine y0 J (u7 (cs:=[]) J c8n c2v J J J)<|y0 J (c1s (n:=a9X) (T:=136) (xs:=[]) J c2r J)<|S2 1 J<|b9 ?_;cases h;exact f1
 ·refine S4 2 J ?_;refine cN h (λhc h=>?_) λhc h=>?_
  ·refine S3 2 J ?_;refine y0 J (u7 (cs:=[.I a0.A]) J c8o c2w J J J)<|y0 J (c1s (n:=a9X) (T:=140) (xs:=[a0.A]) J c2s J)<|S2 1 J<|b9 ?_;cases h;exact f1
  ·refine c5 ?_;refine S3 1 J<|y0 J (u7 (cs:=[.I a0.Kind,.I a0.A,.I a0.B,.I a0.C]) J c8m c2u J J J)<|y0 J (c1s (n:=a9X) (T:=132) (xs:=[a0.Kind,a0.A,a0.B,a0.C]) J c2q J)<|S2 1 J<|b9 ?_;cases h;exact f1

theorem b2l:PO Tryz.prog 102 [] (a2W) λr=>.abs (W6 (List.map (ent iF fvE) r)):=by
 refine pO Tryz.func102 λr h _ _=>?_;unfold a2W at h;refine S4 1 J<|sR<|c0H (KT:=Int) (VT:=Fv) (EK:=iF) (E:=fvE) 5000001 J J<|a5y (es:=[]) (k:=1) (v:=(some 151)) (E:=fvE) (EK:=iF) (.inr J) J J J J J J a0c (A8 L4)<|a5y (es:=(r8 [] 1 (some 151))) (k:=2) (v:=(some 152)) (E:=fvE) (EK:=iF) (.inr J) J J J J J J a0c (A8 L4)<|a5y (es:=(r8 (r8 [] 1 (some 151)) 2 (some 152))) (k:=3) (v:=(some 153)) (E:=fvE) (EK:=iF) (.inr J) J J J J J J a0c (A8 L4)<|a5y (es:=(r8 (r8 (r8 [] 1 (some 151)) 2 (some 152)) 3 (some 153))) (k:=4) (v:=(some 154)) (E:=fvE) (EK:=iF) (.inr J) J J J J J J a0c (A8 L4)<|a5y (es:=(r8 (r8 (r8 (r8 [] 1 (some 151)) 2 (some 152)) 3 (some 153)) 4 (some 154))) (k:=5) (v:=(some 155)) (E:=fvE) (EK:=iF) (.inr J) J J J J J J a0c (A8 L4)<|a5y (es:=(r8 (r8 (r8 (r8 (r8 [] 1 (some 151)) 2 (some 152)) 3 (some 153)) 4 (some 154)) 5 (some 155))) (k:=6) (v:=(some 156)) (E:=fvE) (EK:=iF) (.inr J) J J J J J J a0c (A8 L4)<|a5y (es:=(r8 (r8 (r8 (r8 (r8 (r8 [] 1 (some 151)) 2 (some 152)) 3 (some 153)) 4 (some 154)) 5 (some 155)) 6 (some 156))) (k:=7) (v:=(some 157)) (E:=fvE) (EK:=iF) (.inr J) J J J J J J a0c (A8 L4)<|a5y (es:=(r8 (r8 (r8 (r8 (r8 (r8 (r8 [] 1 (some 151)) 2 (some 152)) 3 (some 153)) 4 (some 154)) 5 (some 155)) 6 (some 156)) 7 (some 157))) (k:=8) (v:=(some 158)) (E:=fvE) (EK:=iF) (.inr J) J J J J J J a0c (A8 L4)<|a5y (es:=(r8 (r8 (r8 (r8 (r8 (r8 (r8 (r8 [] 1 (some 151)) 2 (some 152)) 3 (some 153)) 4 (some 154)) 5 (some 155)) 6 (some 156)) 7 (some 157)) 8 (some 158))) (k:=9) (v:=(some 159)) (E:=fvE) (EK:=iF) (.inr J) J J J J J J a0c (A8 L4)<|a5y (es:=(r8 (r8 (r8 (r8 (r8 (r8 (r8 (r8 (r8 [] 1 (some 151)) 2 (some 152)) 3 (some 153)) 4 (some 154)) 5 (some 155)) 6 (some 156)) 7 (some 157)) 8 (some 158)) 9 (some 159))) (k:=10) (v:=(some 160)) (E:=fvE) (EK:=iF) (.inr J) J J J J J J a0c (A8 L4)<|S2 2 J<|a3f (c18 0 5000001 J J)<|b9 ?_;cases h;exact f1

theorem c12{a0}:PO Tryz.prog 297 [.I a0] (b8Q a0) λr=>.tup [.L iF r.1,.I r.2]:=by
 refine pO Tryz.func297 λr h _ _=>?_;refine S4 2 J<|g7<|S3 3 J<|k7 J (λhg=>mI J)<|k7 J (λhg=>s6 (ct hg) J J)<|y0 J (x8 J J J (λq=>U0 q))<|yN ?_;refine cN h (λhc h=>?_) λhc h=>?_
 ·refine S4 2 J ?_;refine b9 ?_;cases h;exact f2
 ·refine c5 ?_;refine S3 1 J<|z7 h λv1 hv1 h=>y1 J (c1r (f:=iF) hv1 J J J l4 o8 C2 O7 J J J) J<|S2 2 J<|b9 ?_;cases h;exact f2

theorem a8A{a0}:PO Tryz.prog 298 [.I a0] (Q9 a0) λr=>.bool r:=by
 refine pO Tryz.func298 λr h _ _=>?_;unfold Q9 at h;refine S4 1 J<|S3 3 J<|k7 J (λhg=>mI J)<|k7 J (λhg=>s6 (ct hg) J J)<|y0 J (y8 J J J (λq=>eqT q))<|S2 1 J<|b9 ?_;cases h;exact f1

theorem a68{a0}:PO Tryz.prog 342 [c8.Pv a0] (N6 a0) λr=>.fn (.func 361) [.rptr (c8.Pc r)]:=by
 refine pO Tryz.func342 λr h _ _=>?_;unfold N6 at h;refine S4 2 J<|S4 2 J<|b9 ?_;cases h;exact f1

theorem M0{a0}:PON Tryz.prog 348 [.L b8.Pv a0] (y5 a0) λr=>⟨List.map b8.Pv r,0,true,8,true⟩:=by
 refine pON Tryz.func348 λr h _ _=>?_;unfold y5 at h;refine S4 1 J<|g7<|S3 1 J<|b8Z J M7 λb hb=>yN ?_;refine I3 b J (λhc=>?_) (λhc=>?_)
 ·obtain rfl:a0 = []:=by simpa using hb hc
  refine S4 1 J<|a3f (I7 (t:=2) (l:=920000) (z:=8) J J)<|b9 ?_;cases h;exact⟨J,_,_,J,J,J,J⟩
 ·refine c5 ?_;refine sR<|y0 J (P1 J M7 P8)<|S1 1 J<|y1 J (b6L (f:=b8.Pv) h J J (.inl ⟨_,J,J⟩) M7 P8 c2g a8I J (λ_=>J)) J<|S2 1 J<|b9 ?_;exact⟨J,_,_,J,J,J,J⟩

theorem I5{a0 a1 a2}:PO Tryz.prog 312 [c8.Pv a0,.I a1,b8.Pv a2] (D0 a0 a1 a2) λr=>c8.Pv r:=by
 refine pO Tryz.func312 λr h _ _=>?_;unfold D0 at h;refine S4 3 J<|S3 2 J<|z7 h λv1 hv1 h=>ycN J (b6M J M0 J hv1) J J<|S2 2 J<|S3 4 J<|z7 h λv2 hv2 h=>y0 J (a3B (f:=b8.Pv) hv2 J J J J M7 P8 J)<|b1Z (f:=b8.Pv) (v:=a2) hv2 J J (.inr J) P8<|yN<|S4 2 J<|b9 ?_;cases h;exact⟨J,[_],⟨oL J J J a3m a1G nl J,tr⟩,J,io⟩

theorem a7Y{a0 a1}:PO Tryz.prog 122 [.I a0,.I a1] (a1p a0 a1) λr=>.I r:=by
 refine pO Tryz.func122 λr h _ _=>?_;refine S4 1 J<|g7<|S3 3 J<|k7 J (λhg=>mI J)<|k7 J (λhg=>s6 (ct hg) J J)<|y0 J (x8 J J J (λq=>U0 q))<|S1 1 J<|k7 J (λhg=>mI J)<|k7 J (λhg=>s6 (ct hg) J J)<|y0 J (x8 J J J (λq=>U0 q))<|S1 1 J<|k7 J (λhg=>mI J)<|k7 J (λhg=>s6 (ct hg) J J)<|y0 J (x8 J J J (λq=>U0 q))<|yN ?_;refine cN h (λhc h=>?_) λhc h=>?_
 ·refine S4 1 J ?_;refine b9 ?_;cases h;exact f1
 ·refine c5 ?_;refine S4 7 J<|b9 ?_;cases h;exact f1

theorem a67{a0 a1}:PO Tryz.prog 299 [c8.Pv a0,m8.Pv a1] (I9 a0 a1) λr=>.tup [c8.Pv r.1,.I r.2.1,.I r.2.2]:=by
 refine pO Tryz.func299 λr h _ _=>?_;refine S4 5 J ?_;refine jq h (λ_=>St.of [(2,.ptr 2005 0 0),(4,.ptr 2003 0 0),(5,.ptr 2002 0 0),(6,.ptr 2001 0 0)] [(2001,vR (.I 0) 1),(2002,vR (.I 0) 1),(2003,vR (.agg [.nl,.I 0]) 2),(2005,vR (c8.Pv a0) 2)]) (λq10 h=>?_) λκ9 h=>?_
 ·refine S4 4 J ?_;refine b9 ?_;cases h;exact⟨J,[_,_,_],⟨oL J J J a3m a1G nl J,⟨oS J J J x6 J,⟨oS J J J a9W J,tr⟩⟩⟩,J,io⟩
 ·refine S3 1 J ?_;refine cF h a68 J J λv11 _ h=>yN<|g6<|a3f (WPE (λl=>if l=2006 then 6 else if l=2007 then 5 else if l=2008 then 4 else if l=2009 then 3 else if l=2010 then 2 else l) [(2,.ptr 2010 0 0),(3,.ptr 2009 0 0),(4,.ptr 2008 0 0),(5,.ptr 2007 0 0),(6,.ptr 2006 0 0),(10,.fn (.func 361) [.rptr (c8.Pc v11)])] [(2006,vR (.I 0) 1),(2007,vR (.I 0) 1),(2008,vR (.agg [.nl,.I 0]) 2),(2009,vR (m8.Pv a1) 6),(2010,vR (c8.Pv a0) 2)]) ?_
  refine a11 (fn:=Tryz.f361) (N1:=23) J Tryz.func361 J J nl J c8i J J (λl19 e20 o21 hR22=>?_);refine S3 2 J<|nL J M7<|S2 1 J<|g6<|lq h (λs13=>St.of [(1000002,.ptr 2010 0 0),(1000003,.ptr 2009 0 0),(1000004,.ptr 2008 0 0),(1000005,.ptr 2007 0 0),(1000006,.ptr 2006 0 0),(1000010,.fn (.func 361) [.rptr (c8.Pc v11)]),(0,.fn (.yield l19) []),(6,.L b8.Pv v11.a8),(7,.I (v11.a8.length:Int)),(8,.I s13)] [(2006,vR (.I 0) 1),(2007,vR (.I 0) 1),(2008,vR (.agg [.nl,.I 0]) 2),(2009,vR (m8.Pv a1) 6),(2010,vR (c8.Pv a0) 2)]) W λs13 x14 h hx25=>S4 1 J<|g7 ?_;refine cN h (λhc h=>?_) λhc h=>?_
  ·refine c5 ?_;refine g7<|g6<|S3 1 J<|iL h J J M7 P8 λv15 _ h=>S2 4 J<|S3 4 J<|k7 J (λhg=>om (d:=.fn (.yield l19) []) J)<|k7 J (λhg=>mI J) ?_;rcases Bool.eq_false_or_eq_true ((v15.State==0)==true) with hg27 | hg27
   ·have h:=ifT h hg27;refine T1 (WE [(1000002,.ptr 2010 0 0),(1000003,.ptr 2009 0 0),(1000004,.ptr 2008 0 0),(1000005,.ptr 2007 0 0),(1000006,.ptr 2006 0 0),(1000010,.fn (.func 361) [.rptr (c8.Pc v11)]),(0,.fn (.yield l19) []),(6,.L b8.Pv v11.a8),(7,.I (v11.a8.length:Int)),(8,.I s13),(16,.bool (v15.State==0)),(17,.fn (.yield l19) []),(18,.I s13)] [(2006,vR (.I 0) 1),(2007,vR (.I 0) 1),(2008,vR (.agg [.nl,.I 0]) 2),(2009,vR (m8.Pv a1) 6),(2010,vR (c8.Pv a0) 2)]) ?_;refine a7j hR22 (congrArg some hg27) J J J J J (λe28 o29 o30=>?_);refine S6 1 J ?_;refine⟨J,?_⟩;refine g6<|S3 3 J<|iL h J J M7 P8 λv16 _ h=>S2 3 J<|S3 4 J<|y0 J (u7 (cs:=[.I 1,.I v16.Gen,.I a1.Serial,.I a1.Strong,.I a1.Weak,.I a1.Prog,.bool a1.Started,.L iF a1.Fields]) J b3w a8I J J J)<|cF h I5 J J λv17 _ h=>S1 2 J<|cA h a7Y J J λv18 _ h=>S2 3 J<|b9 ?_;refine⟨J,?_⟩;refine T1 (WE [(1000002,.ptr 2010 0 0),(1000003,.ptr 2009 0 0),(1000004,.ptr 2008 0 0),(1000005,.ptr 2007 0 0),(1000006,.ptr 2006 0 0),(1000010,.fn (.func 361) [.rptr (c8.Pc v11)]),(0,.fn (.yield l19) []),(6,.L b8.Pv v11.a8),(7,.I (v11.a8.length:Int)),(8,.I s13),(16,.bool (v15.State==0)),(19,.bool false)] [(2006,vR (.I 0) 1),(2007,vR (.I v18) 1),(2008,vR (c8.Pv v17) 2),(2009,vR (m8.Pv a1) 6),(2010,vR (c8.Pv a0) 2)])<|y0 (congrArg some hg27) (a1s J J)<|y0 J (a6Q J J hg27)<|yN ?_;refine I3 true J (λ_=>?_) (λq=>nomatch q);refine b9 ?_;refine .inr ⟨.ret,J,c9c ?_⟩;have h:=xL hx25 h;cases h;exact⟨J,[_,_,_],⟨oL J J J a3m a1G nl J,⟨oS J J J x6 J,⟨oS J J J a9W J,tr⟩⟩⟩,J,io⟩
   ·have h:=ifF h hg27;refine a2d (congrArg some hg27)<|a2d (congrArg some hg27)<|y0 J (a8U J J hg27)<|yN ?_;refine I3 false J (λq=>nomatch q) (λ_=>?_);refine c5<|S6 2 J ?_;exact eL h W
  ·refine p6 ?_;refine c7<|c7<|k9 ?_;refine .inl ⟨J,?_⟩;have h:=xL hx25 h;exact eJ h (WP (λl=>if l=2005 then 2010 else if l=2003 then 2008 else if l=2002 then 2007 else if l=2001 then 2006 else l))

theorem b55{a0 a1 a2}:PO Tryz.prog 240 [a7.Pv a0,.I a1,.I a2] (T0 a0 a1 a2) λr=>.tup [a7.Pv r.1,.I r.2.1,.I r.2.2]:=by
 refine pO Tryz.func240 λr h _ _=>?_;refine S4 4 J<|S3 1 J<|cF h c12 J J λv1 _ h=>S2 5 J<|g7<|S4 2 J ?_;refine cN h (λhc h=>?_) λhc h=>?_
 ·refine S4 5 J ?_;refine b9 ?_;cases h;exact⟨J,[_,_,_],⟨oL J J J a6l a6o nl J,⟨J,⟨J,tr⟩⟩⟩,J,io⟩
 ·refine c5 ?_;refine g7<|S3 1 J<|cA h a8A J J λv2 _ h=>S2 1 J ?_;refine cN h (λhc h=>?_) λhc h=>?_
  ·refine S4 4 J ?_;refine b9 ?_;cases h;exact⟨J,[_,_,_],⟨oL J J J a6l a6o nl J,⟨J,⟨J,tr⟩⟩⟩,J,io⟩
  ·refine c5 ?_;refine S3 7 J<|y0 J (u7 (cs:=[.I (u5 (a0.Serial+1)),.I 0,.I 0,.I a2,.bool false,.L iF v1.1]) J c8p c8D J J J)<|cF h a67 J J λv3 _ h=>S2 8 J<|g7<|S4 2 J ?_;refine cN h (λhc h=>?_) λhc h=>?_
   ·refine S4 5 J ?_;refine b9 ?_;cases h;exact⟨J,[_,_,_],⟨oL J J J a6l a6o nl J,⟨J,⟨J,tr⟩⟩⟩,J,io⟩
   ·refine c5 ?_;refine S3 4 J<|y0 J (u7 (cs:=[.L b8.Pv v3.1.a8,.I v3.1.Last,.I (u5 (a0.Serial+1))]) J c48 c5g J J J)<|S2 4 J<|b9 ?_;cases h;exact⟨J,[_,_,_],⟨oL J J J a6l a6o nl J,⟨J,⟨J,tr⟩⟩⟩,J,io⟩

theorem a7q{a0}:PO Tryz.prog 353 [.I a0] (a1R a0) λr=>.tup [.I r.1,.I r.2.1,.bool r.2.2]:=by
 refine pO Tryz.func353 λr h _ _=>?_;refine S4 3 J<|g7<|S4 2 J ?_;refine cN h (λhc h=>?_) λhc h=>?_
 ·refine S4 3 J ?_;refine b9 ?_;cases h;exact f3
 ·refine c5 ?_;refine S3 2 J<|z7 h λv1 hv1 h=>y0 J (a3d J J hv1)<|z7 h λv2 hv2 h=>y0 J (a3d J J hv2)<|S1 2 J<|z7 h λv3 hv3 h=>y0 J (a3d J J hv3)<|S2 2 J<|g7<|S3 3 J<|k7 J (λhg=>mI J)<|k7 J (λhg=>s6 (ct hg) J J)<|y0 J (x8 J J J (λq=>U0 q))<|yN ?_;refine cN h (λhc h=>?_) λhc h=>?_
  ·refine S4 3 J ?_;refine b9 ?_;cases h;exact f3
  ·refine c5 ?_;refine S4 5 J<|b9 ?_;cases h;exact f3

theorem a7Z{a0}:PO Tryz.prog 323 [.I a0] (a27 a0) λr=>.I r:=by
 refine pO Tryz.func323 λr h _ _=>?_;refine S4 1 J<|S3 1 J<|cA h a7q J J λv1 _ h=>S2 7 J<|S4 2 J<|b9 ?_;cases h;exact f1

theorem a9N{a0}:PO Tryz.prog 324 [.I a0] (a4i a0) λr=>.I r:=by
 refine pO Tryz.func324 λr h _ _=>?_;refine S4 1 J<|S3 1 J<|cA h a7q J J λv1 _ h=>S2 7 J<|S4 2 J<|b9 ?_;cases h;exact f1

theorem I4{a0 a1}:PO Tryz.prog 288 [c8.Pv a0,.I a1] (w8 a0 a1) λr=>.tup [.I r.1,.I r.2]:=by
 refine pO Tryz.func288 λr h _ _=>?_;refine S4 3 J<|g7<|S4 2 J ?_;refine cN h (λhc h=>?_) λhc h=>?_
 ·refine S4 2 J ?_;refine b9 ?_;cases h;exact f2
 ·refine c5 ?_;refine S3 1 J<|cA h a7Z J J λv1 _ h=>S2 1 J<|g7<|S3 3 J<|k7 J (λhg=>mI J)<|k7 J (λhg=>oF J c41 J)<|k7 J (λhg=>oS (ct hg) J J d04 J)<|k7 J (λhg=>Z8 (f:=b8.Pv) (ct hg) M7)<|k7 J (λhg=>s6 (ct hg) (ct hg) J)<|y0 J (x8 J J J (λq=>U0 q))<|yN ?_;refine cN h (λhc h=>?_) λhc h=>?_
  ·refine S4 2 J ?_;refine b9 ?_;cases h;exact f2
  ·refine c5 ?_;refine S3 3 J<|iL h J J M7 P8 λv2 _ h=>S2 3 J<|g7<|dr [] w9 (by kernel_rfl) (by kernel_rfl)<|S7 3 J<|z7 h λv3 hv3 h=>d2 J (G7 J a9N J hv3) J<|S7 2 J<|z6 J (λhg _ hN=>oF J b6b J) J<|D1 J (λhg=>oS (ct hg) J J x6 J) J<|z6 J (λhg _ hN=>s6 (ct hg) J J) J<|z6 J (λhg _ hN=>om (d:=.bool (v2.State != 1)) (ct hg)) J<|z6 (C7 J J J) (λhg _ hN=>oF J b6b J) J<|D1 (C7 J J J) (λhg=>oS (ct hg) J J x6 J) J<|z6 (C7 J J J) (λhg _ hN=>s6 (ct hg) J J) J<|z6 J (λhg _ hN=>y8 (ct hg) J J (λq=>b0D hg (eqT q))) J<|d7 J (λ_ hN=>x8 J J J (λq=>U0 q)) J<|Q0 ?_
   refine cN h (λhc h=>?_) λhc h=>?_
   ·refine S4 2 J ?_;refine b9 ?_;cases h;exact f2
   ·refine c5 ?_;refine S4 3 J<|b9 ?_;cases h;exact f2

theorem a2k{a0 a1}:PO Tryz.prog 210 [c8.Pv a0,.I a1] (E0 a0 a1) λr=>.tup [m8.Pv r.1,.I r.2]:=by
 refine pO Tryz.func210 λr h _ _=>?_;refine S4 3 J<|S4 1 J<|S3 2 J<|cA h I4 J J λv1 _ h=>S2 5 J<|g7<|S4 2 J ?_;refine cN h (λhc h=>?_) λhc h=>?_
 ·refine S3 2 J ?_;refine a6j (x':=.agg [.I 0,.I 0,.I 0,.I 0,.bool false,.nl]) (cl':=true) J J (.inl J) a4P<|S2 1 J<|b9 ?_;cases h;exact⟨J,[_,_],⟨oL J J J b0x a4P nl J,⟨J,tr⟩⟩,J,io⟩
 ·refine c5 ?_;refine g7<|S3 3 J<|iL h J J M7 P8 λv2 hv2 h=>S2 3 J ?_;refine cN h (λhc h=>?_) λhc h=>?_
  ·refine S3 1 J ?_;refine a6j (x':=.agg [.I 0,.I 0,.I 0,.I 0,.bool false,.nl]) (cl':=true) J J (.inl J) a4P<|S2 1 J<|b9 ?_;cases h;exact⟨J,[_,_],⟨oL J J J b0x a4P nl J,⟨J,tr⟩⟩,J,io⟩
  ·refine c5 ?_;refine S3 3 J<|y0 J (D2 (f:=b8.Pv) (cs:=b8.Pc v2) hv2 J J M7 P8 J J)<|S2 4 J<|b9 ?_;cases h;exact⟨J,[_,_],⟨oL J J J b0x a4P nl J,⟨J,tr⟩⟩,J,io⟩

theorem C4{a0 a1}:PO Tryz.prog 126 [a7.Pv a0,.I a1] (y4 a0 a1) λr=>.tup [m8.Pv r.1,.I r.2]:=by
 refine pO Tryz.func126 λr h _ _=>?_;refine S4 3 J<|S3 3 J<|cF h a2k J J λv1 _ h=>S2 4 J<|b9 ?_;cases h;exact⟨J,[_,_],⟨oL J J J b0x a4P nl J,⟨J,tr⟩⟩,J,io⟩

theorem b4F{a0 a1}:PO Tryz.prog 344 [b7.Pv a0,.I a1] (a4Z a0 a1) λr=>.bool r:=by
 refine pO Tryz.func344 λr h _ _=>?_;refine S4 2 J<|S3 3 J<|cF h C4 J J λv1 _ h=>S2 6 J<|S4 3 J<|b9 ?_;cases h;exact f1

theorem U3{a0 a1}:PO Tryz.prog 301 [b7.Pv a0,.I a1] (K8 a0 a1) λr=>.bool r:=by
 refine pO Tryz.func301 λr h _ _=>?_;unfold K8 at h;refine S4 2 J<|S3 3 J<|k7 J (λhg=>oL J J J u6 p8 nl J)<|k7 J (λhg=>mI J)<|z7 h λv1 hv1 h=>k7 J (λhg=>G7 J b4F (F8 (ct hg) (F8 (ct hg) J)) (G8 hv1 hg))<|y0 J (x8 J J J (λq=>U0 q))<|S2 1 J<|b9 ?_;cases h;exact f1

theorem a0d{a0}:PO Tryz.prog 349 [.I a0] (G0 a0) λr=>.bool r:=by
 refine pO Tryz.func349 λr h _ _=>?_;unfold G0 at h;refine S4 1 J<|S4 3 J<|b9 ?_;cases h;exact f1

theorem b0J{a0}:PO Tryz.prog 315 [.I a0] (a38 a0) λr=>.tup [.I r.1,.I r.2]:=by
 refine pO Tryz.func315 λr h _ _=>?_;refine S4 2 J<|g7<|S3 1 J<|cA h a0d J J λv1 _ h=>yN ?_;refine cN h (λhc h=>?_) λhc h=>?_
 ·refine S4 2 J ?_;refine b9 ?_;cases h;exact f2
 ·refine c5 ?_;refine S3 1 J<|y0 J (c6F J J J)<|S2 3 J<|b9 ?_;cases h;exact f2

theorem b7k{a0}:PO Tryz.prog 252 [.I a0] (a8K a0) λr=>.I r:=by
 refine pO Tryz.func252 λr h _ _=>?_;refine S4 1 J<|S3 1 J<|cA h b0J J J λv1 _ h=>S2 5 J<|S4 2 J<|b9 ?_;cases h;exact f1

theorem a7G{a0 a1 a2}:PO Tryz.prog 249 [c8.Pv a0,.I a1,m8.Pv a2] (K1 a0 a1 a2) λr=>.tup [c8.Pv r.1,.I r.2]:=by
 refine pO Tryz.func249 λr h _ _=>?_;refine S4 4 J<|S3 2 J<|cA h I4 J J λv1 _ h=>S2 5 J<|g7<|S4 2 J ?_;refine cN h (λhc h=>?_) λhc h=>?_
 ·refine S4 4 J ?_;refine b9 ?_;cases h;exact⟨J,[_,_],⟨oL J J J a3m a1G nl J,⟨J,tr⟩⟩,J,io⟩
 ·refine c5 ?_;refine S3 3 J<|iL h J J M7 P8 λv2 _ h=>S2 3 J<|S4 3 J<|S3 3 J<|cF h I5 J J λv3 _ h=>S2 2 J<|b9 ?_;cases h;exact⟨J,[_,_],⟨oL J J J a3m a1G nl J,⟨J,tr⟩⟩,J,io⟩

theorem a0G{a0 a1 a2}:PO Tryz.prog 167 [a7.Pv a0,.I a1,m8.Pv a2] (K2 a0 a1 a2) λr=>.tup [a7.Pv r.1,.I r.2]:=by
 refine pO Tryz.func167 λr h _ _=>?_;refine S4 4 J<|S4 1 J<|S3 4 J<|cF h a7G J J λv1 _ h=>S2 6 J<|S4 4 J<|b9 ?_;cases h;exact⟨J,[_,_],⟨oL J J J a6l a6o nl J,⟨J,tr⟩⟩,J,io⟩

theorem a4k{a0 a1}:PO Tryz.prog 251 [b7.Pv a0,.I a1,.fn (.func 252) []] (U2 a0 a1) λr=>b7.Pv r:=by
 refine pO Tryz.func251 λr h _ _=>?_;refine S4 2 J<|S3 3 J<|cF h C4 J J λv1 _ h=>S2 6 J<|g7<|S4 2 J ?_;refine cN h (λhc h=>?_) λhc h=>?_
 ·refine S3 3 J ?_;refine cA h b7k J J λv2 _ h=>S2 2 J<|S5 4 J<|cF h a0G J J λv3 _ h=>S2 5 J<|S4 2 J<|b9 ?_;cases h;exact⟨J,[_],⟨oL J J J u6 p8 nl J,tr⟩,J,io⟩
 ·refine c5 ?_;refine S4 2 J<|b9 ?_;cases h;exact⟨J,[_],⟨oL J J J u6 p8 nl J,tr⟩,J,io⟩

theorem a1U{a0 a1}:PO Tryz.prog 169 [b7.Pv a0,.I a1] (a0g a0 a1) λr=>b7.Pv r:=by
 refine pO Tryz.func169 λr h _ _=>?_;refine S4 2 J<|S3 2 J<|cF h a4k J J λv1 _ h=>S2 1 J<|b9 ?_;cases h;exact⟨J,[_],⟨oL J J J u6 p8 nl J,tr⟩,J,io⟩

theorem a5w{a0}:PON Tryz.prog 359 [.L iF a0] (L9 a0) λr=>⟨List.map iF r,0,true,1,true⟩:=by
 refine pON Tryz.func359 λr h _ _=>?_;unfold L9 at h;refine S4 1 J<|g7<|S3 1 J<|b8Z J l4 λb hb=>yN ?_;refine I3 b J (λhc=>?_) (λhc=>?_)
 ·obtain rfl:a0 = []:=by simpa using hb hc
  refine S4 1 J<|a3f (I7 (t:=2) (l:=920000) (z:=1) J J)<|b9 ?_;cases h;exact⟨J,_,_,J,J,J,J⟩
 ·refine c5 ?_;refine sR<|y0 J (P1 J l4 o8)<|S1 1 J<|y1 J (b6L (f:=iF) h J J (.inl ⟨_,J,J⟩) l4 o8 O7 C2 J (λ_=>J)) J<|S2 1 J<|b9 ?_;exact⟨J,_,_,J,J,J,J⟩

theorem a7C{a0 a1}:PO Tryz.prog 332 [I0.Pv a0,b7.Pv a1] (O9 a0 a1) λr=>b7.Pv r:=by
 refine pO Tryz.func332 λr h _ _=>?_;unfold O9 at h;refine S4 3 J<|S3 2 J<|z7 h λv1 hv1 h=>ycN J (b6M J a5w J hv1) J J<|S2 2 J<|S3 6 J<|z7 h λv2 hv2 h=>y0 J (a3B (f:=iF) hv2 J J J J l4 o8 J)<|b1Z (f:=iF) (v:=a0.h) hv2 J J (.inl J) o8<|yN<|S4 2 J<|b9 ?_;cases h;exact⟨J,[_],⟨oL J J J u6 p8 nl J,tr⟩,J,io⟩

theorem a9t{a0}:PO Tryz.prog 325 [.I a0] (a2r a0) λr=>.tup [.I r.1,.I r.2]:=by
 refine pO Tryz.func325 λr h _ _=>?_;refine S4 2 J<|g7<|S3 1 J<|cA h a0d J J λv1 _ h=>yN ?_;refine cN h (λhc h=>?_) λhc h=>?_
 ·refine S4 2 J ?_;refine b9 ?_;cases h;exact f2
 ·refine c5 ?_;refine g7<|S4 2 J ?_;refine cN h (λhc h=>?_) λhc h=>?_
  ·refine S4 2 J ?_;refine b9 ?_;cases h;exact f2
  ·refine c5 ?_;refine S4 4 J<|b9 ?_;cases h;exact f2

theorem b7j{a0}:PO Tryz.prog 259 [.I a0] (b19 a0) λr=>.tup [.I r.1,.I r.2]:=by
 refine pO Tryz.func259 λr h _ _=>?_;refine S4 2 J<|S3 1 J<|cA h a9t J J λv1 _ h=>S2 5 J<|S4 4 J<|b9 ?_;cases h;exact f2

theorem b06{a0}:PO Tryz.prog 258 [.I a0] (a1T a0) λr=>.I r:=by
 refine pO Tryz.func258 λr h _ _=>?_;refine S4 1 J<|S3 1 J<|cA h b7j J J λv1 _ h=>S2 5 J<|g7<|S4 2 J ?_;refine cN h (λhc h=>?_) λhc h=>?_
 ·refine S4 2 J ?_;refine b9 ?_;cases h;exact f1
 ·refine c5 ?_;refine S4 2 J<|b9 ?_;cases h;exact f1

theorem a2f{a0 a1}:PO Tryz.prog 251 [b7.Pv a0,.I a1,.fn (.func 258) []] (N2 a0 a1) λr=>b7.Pv r:=by
 refine pO Tryz.func251 λr h _ _=>?_;refine S4 2 J<|S3 3 J<|cF h C4 J J λv1 _ h=>S2 6 J<|g7<|S4 2 J ?_;refine cN h (λhc h=>?_) λhc h=>?_
 ·refine S3 3 J ?_;refine cA h b06 J J λv2 _ h=>S2 2 J<|S5 4 J<|cF h a0G J J λv3 _ h=>S2 5 J<|S4 2 J<|b9 ?_;cases h;exact⟨J,[_],⟨oL J J J u6 p8 nl J,tr⟩,J,io⟩
 ·refine c5 ?_;refine S4 2 J<|b9 ?_;cases h;exact⟨J,[_],⟨oL J J J u6 p8 nl J,tr⟩,J,io⟩

theorem W8{a0 a1}:PO Tryz.prog 176 [b7.Pv a0,.I a1] (C9 a0 a1) λr=>b7.Pv r:=by
 refine pO Tryz.func176 λr h _ _=>?_;refine S4 2 J<|S3 2 J<|cF h a2f J J λv1 _ h=>S2 1 J<|b9 ?_;cases h;exact⟨J,[_],⟨oL J J J u6 p8 nl J,tr⟩,J,io⟩

theorem a1b{a0 a1 a2 a3}:PO Tryz.prog 302 [b7.Pv a0,.I a1,.I a2,.abs (BFn 332 [I0.Pv a3])] (F0 a0 a1 a2 a3) λr=>b7.Pv r:=by
 refine pO Tryz.func302 λr h _ _=>?_;refine S4 2 J<|S3 3 J<|cF h a1U J J λv1 _ h=>z7 h λv2 hv2 h=>b8Y (xs:=[b7.Pv v1]) J J c8h J (a7C.2 _ hv2)<|S1 1 J<|cF h W8 J J λv3 _ h=>S2 1 J<|b9 ?_;cases h;exact⟨J,[_],⟨oL J J J u6 p8 nl J,tr⟩,J,io⟩

theorem a6E{a0 a1 a2}:PO Tryz.prog 263 [b7.Pv a0,.I a1,.I a2] (a0w a0 a1 a2) λr=>.tup [b7.Pv r.1,.I r.2]:=by
 refine pO Tryz.func263 λr h _ _=>?_;refine S4 3 J<|g7<|S3 3 J<|k7 J (λhg=>mI J)<|k7 J (λhg=>oF J b35 J)<|k7 J (λhg=>oS (ct hg) J J a7J J)<|k7 J (λhg=>Z8 (f:=iF) (ct hg) l4)<|k7 J (λhg=>s6 (ct hg) (ct hg) J)<|y0 J (x8 J J J (λq=>U0 q))<|yN ?_;refine cN h (λhc h=>?_) λhc h=>?_
 ·refine S4 3 J ?_;refine b9 ?_;cases h;exact⟨J,[_,_],⟨oL J J J u6 p8 nl J,⟨J,tr⟩⟩,J,io⟩
 ·refine c5 ?_;refine g7<|S3 2 J<|cA h U3 J J λv1 _ h=>S2 1 J ?_;refine cN h (λhc h=>?_) λhc h=>?_
  ·refine S4 3 J ?_;refine b9 ?_;cases h;exact⟨J,[_,_],⟨oL J J J u6 p8 nl J,⟨J,tr⟩⟩,J,io⟩
  ·refine c5 ?_;refine dr [] w9 (by kernel_rfl) (by kernel_rfl)<|S7 4 J<|z7 h λv2 hv2 h=>d0 J (D2 (f:=iF) (cs:=[.I v2]) hv2 J J l4 o8 J J) J<|S7 4 J<|d7 J (λ_ hN=>u7 (cs:=[.I a1,.I a2]) J c8y c8L J J J) J<|d7 J (λ_ hN=>b2q (d:=.agg [.I a1,.I a2]) J) J<|z7 h λv3 hv3 h=>d2f J (A5 J a1b J hv3) J<|F2 (x':=b7.Pv v3) (cl':=true) J J (.inr J) p8<|S8 1 J<|b9 ?_
   cases h;exact⟨J,[_,_],⟨oL J J J u6 p8 nl J,⟨J,tr⟩⟩,J,io⟩

theorem H2{a0 a1 a2}:PO Tryz.prog 241 [r9.Pv a0,.I a1,.I a2] (C1 a0 a1 a2) λr=>.tup [b7.Pv r.1,.I r.2]:=by
 refine pO Tryz.func241 λr h _ _=>?_;refine S4 3 J<|g7<|S4 2 J ?_;refine cN h (λhc h=>?_) λhc h=>?_
 ·refine S4 5 J ?_;refine b9 ?_;cases h;exact⟨J,[_,_],⟨oL J J J u6 p8 nl J,⟨J,tr⟩⟩,J,io⟩
 ·refine c5 ?_;refine S3 6 J<|cF h a6E J J λv1 _ h=>S2 4 J<|b9 ?_;cases h;exact⟨J,[_,_],⟨oL J J J u6 p8 nl J,⟨J,tr⟩⟩,J,io⟩

theorem a1Y{a0}:PO Tryz.prog 151 [r9.Pv a0] (T2 a0) λr=>.tup [b7.Pv r.1,.I r.2]:=by
 refine pO Tryz.func151 λr h _ _=>?_;refine S4 3 J<|S3 9 J<|cF h b55 J J λv1 _ h=>S2 8 J<|g7<|S4 2 J ?_;refine cN h (λhc h=>?_) λhc h=>?_
 ·refine S4 5 J ?_;refine b9 ?_;cases h;exact⟨J,[_,_],⟨oL J J J u6 p8 nl J,⟨J,tr⟩⟩,J,io⟩
 ·refine c5 ?_;refine S4 4 J<|S3 2 J<|cF h H2 J J λv2 _ h=>S2 4 J<|b9 ?_;cases h;exact⟨J,[_,_],⟨oL J J J u6 p8 nl J,⟨J,tr⟩⟩,J,io⟩

theorem N3{a0 a1}:PO Tryz.prog 164 [b7.Pv a0,.I a1] (L0 a0 a1) λr=>.I r:=by
 refine pO Tryz.func164 λr h _ _=>?_;refine S4 2 J<|g7<|S3 3 J<|k7 J (λhg=>mI J)<|k7 J (λhg=>oF J b35 J)<|k7 J (λhg=>oS (ct hg) J J a7J J)<|k7 J (λhg=>Z8 (f:=iF) (ct hg) l4)<|k7 J (λhg=>s6 (ct hg) (ct hg) J)<|y0 J (x8 J J J (λq=>U0 q))<|yN ?_;refine cN h (λhc h=>?_) λhc h=>?_
 ·refine S4 1 J ?_;refine b9 ?_;cases h;exact f1
 ·refine c5 ?_;refine S3 3 J<|iL h J J l4 o8 λv1 _ h=>S2 2 J<|b9 ?_;cases h;exact f1

theorem a0K{a0}:PO Tryz.prog 152 [r9.Pv a0] (I2 a0) λr=>.tup [b7.Pv r.1,.I r.2]:=by
 refine pO Tryz.func152 λr h _ _=>?_;unfold I2 at h;refine S4 3 J<|dr [] w9 (by kernel_rfl) (by kernel_rfl)<|S7 6 J<|z7 h λv1 hv1 h=>d2 J (G7 J N3 J hv1) J<|z7 h λv2 hv2 h=>d2f J (A5 J H2 J hv2) J<|S7 2 J<|F2 (x':=b7.Pv v2.1) (cl':=true) J J (.inr J) p8<|S8 1 J<|b9 ?_
 cases h;exact⟨J,[_,_],⟨oL J J J u6 p8 nl J,⟨J,tr⟩⟩,J,io⟩

theorem a3a{a0}:PO Tryz.prog 153 [r9.Pv a0] (Z5 a0) λr=>.tup [b7.Pv r.1,.I r.2]:=by
 refine pO Tryz.func153 λr h _ _=>?_;refine S4 3 J<|S3 1 J<|cF h H2 J J λv1 _ h=>S2 4 J<|b9 ?_;cases h;exact⟨J,[_,_],⟨oL J J J u6 p8 nl J,⟨J,tr⟩⟩,J,io⟩

theorem Q4{a0 a1}:PO Tryz.prog 242 [b7.Pv a0,.I a1] (L7 a0 a1) λr=>.tup [.I r.1,.I r.2]:=by
 refine pO Tryz.func242 λr h _ _=>?_;refine S4 3 J<|S3 2 J<|cA h N3 J J λv1 _ h=>S2 1 J<|g7<|S4 2 J ?_;refine cN h (λhc h=>?_) λhc h=>?_
 ·refine S4 2 J ?_;refine b9 ?_;cases h;exact f2
 ·refine c5 ?_;refine S4 3 J<|b9 ?_;cases h;exact f2

theorem b5w{a0 a1}:PO Tryz.prog 343 [.L iF a0,.I a1] (a7g a0 a1) λr=>.bool r:=by
 refine pO Tryz.func343 λr h _ _=>?_;unfold a7g at h;refine S4 1 J<|S3 3 J<|k7 J (λhg=>mI J)<|k7 J (λhg=>om (d:=.L iF a0) J)<|k7 J (λhg=>Z8 (f:=iF) (ct hg) l4)<|k7 J (λhg=>s6 (ct hg) (ct hg) J)<|y0 J (y8 J J J (λq=>eqT q))<|S2 1 J<|b9 ?_;cases h;exact f1

theorem c4S{a0 a1}:PO Tryz.prog 300 [.L iF a0,.I a1] (b2Q a0 a1) λr=>.tup [.I r.1,.I r.2]:=by
 refine pO Tryz.func300 λr h _ _=>?_;refine S4 2 J<|g7<|S3 2 J<|cA h b5w J J λv1 _ h=>S2 1 J ?_;refine cN h (λhc h=>?_) λhc h=>?_
 ·refine S4 2 J ?_;refine b9 ?_;cases h;exact f2
 ·refine c5 ?_;refine S3 2 J<|iL h J J l4 o8 λv2 _ h=>S2 3 J<|b9 ?_;cases h;exact f2

theorem a8z{a0 a1 a2}:PO Tryz.prog 243 [a7.Pv a0,.I a1,.I a2] (a0o a0 a1 a2) λr=>.tup [.I r.1,.I r.2]:=by
 refine pO Tryz.func243 λr h _ _=>?_;refine S4 3 J<|S3 2 J<|cF h C4 J J λv1 _ h=>S2 6 J<|g7<|S4 2 J ?_;refine cN h (λhc h=>?_) λhc h=>?_
 ·refine S4 3 J ?_;refine b9 ?_;cases h;exact f2
 ·refine c5 ?_;refine S3 3 J<|cA h c4S J J λv2 _ h=>S2 4 J<|b9 ?_;cases h;exact f2

theorem a3b{a0}:PO Tryz.prog 154 [r9.Pv a0] (Z6 a0) λr=>.tup [b7.Pv r.1,.I r.2]:=by
 refine pO Tryz.func154 λr h _ _=>?_;refine S4 3 J<|S3 5 J<|cA h Q4 J J λv1 _ h=>S2 5 J<|g7<|S4 2 J ?_;refine cN h (λhc h=>?_) λhc h=>?_
 ·refine S4 5 J ?_;refine b9 ?_;cases h;exact⟨J,[_,_],⟨oL J J J u6 p8 nl J,⟨J,tr⟩⟩,J,io⟩
 ·refine c5 ?_;refine dr [] w9 (by kernel_rfl) (by kernel_rfl)<|S7 8 J<|z7 h λv2 hv2 h=>d2 J (G7 J a8z J hv2) J<|S7 2 J<|z7 h λv3 hv3 h=>d2f J (A5 J H2 J hv3) J<|S7 2 J<|F2 (x':=b7.Pv v3.1) (cl':=true) J J (.inr J) p8<|S8 1 J<|b9 ?_
  cases h;exact⟨J,[_,_],⟨oL J J J u6 p8 nl J,⟨J,tr⟩⟩,J,io⟩

theorem c0z{a0 a1 a2}:PO Tryz.prog 362 [.L iF a0,.I a1,.I a2] (b5v a0 a1 a2) λr=>.tup [.L iF r.1,.I r.2]:=by
 refine pO Tryz.func362 λr h _ _=>?_;refine S4 2 J<|g7<|S3 2 J<|cA h b5w J J λv1 _ h=>S2 1 J ?_;refine cN h (λhc h=>?_) λhc h=>?_
 ·refine S4 3 J ?_;refine b9 ?_;cases h;exact f2
 ·refine c5 ?_;refine S3 1 J<|nL J l4<|z7 h λv2 hv2 h=>y1 J (c1r (f:=iF) hv2 J J J l4 o8 C2 O7 J J J) J<|S2 1 J<|S3 2 J<|z7 h λv3 hv3 h=>d5c (f:=iF) hv3 J J J (.inl ⟨_,J,J⟩) l4 o8 (λ_=>J) (by decide)<|yN<|S3 3 J<|z7 h λv4 hv4 h=>y0 J (a3B (f:=iF) hv4 J J J J l4 o8 J)<|b1Z (f:=iF) (v:=a2) hv4 J J (.inl J) o8<|yN<|S4 3 J<|b9 ?_
  cases h;exact f2

theorem b8I{a0 a1 a2 a3}:PO Tryz.prog 345 [a7.Pv a0,.I a1,.I a2,.I a3] (a9j a0 a1 a2 a3) λr=>.tup [a7.Pv r.1,.I r.2]:=by
 refine pO Tryz.func345 λr h _ _=>?_;refine S4 3 J<|S3 2 J<|cF h C4 J J λv1 _ h=>S2 6 J<|g7<|S4 2 J ?_;refine cN h (λhc h=>?_) λhc h=>?_
 ·refine S4 4 J ?_;refine b9 ?_;cases h;exact⟨J,[_,_],⟨oL J J J a6l a6o nl J,⟨J,tr⟩⟩,J,io⟩
 ·refine c5 ?_;refine g7<|S3 4 J<|cF h c0z J J λv2 _ h=>S2 6 J<|S4 2 J ?_;refine cN h (λhc h=>?_) λhc h=>?_
  ·refine S4 4 J ?_;refine b9 ?_;cases h;exact⟨J,[_,_],⟨oL J J J a6l a6o nl J,⟨J,tr⟩⟩,J,io⟩
  ·refine c5 ?_;refine S3 3 J<|cF h a0G J J λv3 _ h=>S2 4 J<|b9 ?_;cases h;exact⟨J,[_,_],⟨oL J J J a6l a6o nl J,⟨J,tr⟩⟩,J,io⟩

theorem a6F{a0 a1}:PO Tryz.prog 303 [G6.Pv a0,b7.Pv a1] (a0M a0 a1) λr=>b7.Pv r:=by
 refine pO Tryz.func303 λr h _ _=>?_;refine S4 3 J<|S3 8 J<|cF h b8I J J λv1 _ h=>S2 5 J<|S4 2 J<|b9 ?_;cases h;exact⟨J,[_],⟨oL J J J u6 p8 nl J,tr⟩,J,io⟩

theorem a0W{a0 a1 a2 a3}:PO Tryz.prog 302 [b7.Pv a0,.I a1,.I a2,.abs (BFn 303 [G6.Pv a3])] (I1 a0 a1 a2 a3) λr=>b7.Pv r:=by
 refine pO Tryz.func302 λr h _ _=>?_;refine S4 2 J<|S3 3 J<|cF h a1U J J λv1 _ h=>z7 h λv2 hv2 h=>b8Y (xs:=[b7.Pv v1]) J J c8d J (a6F.2 _ hv2)<|S1 1 J<|cF h W8 J J λv3 _ h=>S2 1 J<|b9 ?_;cases h;exact⟨J,[_],⟨oL J J J u6 p8 nl J,tr⟩,J,io⟩

theorem b5W{a0 a1 a2 a3}:PO Tryz.prog 244 [b7.Pv a0,.I a1,.I a2,.I a3] (a2u a0 a1 a2 a3) λr=>.tup [b7.Pv r.1,.I r.2]:=by
 refine pO Tryz.func244 λr h _ _=>?_;refine S4 3 J<|S3 4 J<|cA h a8z J J λv1 _ h=>S2 5 J<|g7<|S4 2 J ?_;refine cN h (λhc h=>?_) λhc h=>?_
 ·refine S4 4 J ?_;refine b9 ?_;cases h;exact⟨J,[_,_],⟨oL J J J u6 p8 nl J,⟨J,tr⟩⟩,J,io⟩
 ·refine c5 ?_;refine g7<|S3 2 J<|cA h U3 J J λv2 _ h=>S2 1 J ?_;refine cN h (λhc h=>?_) λhc h=>?_
  ·refine S4 3 J ?_;refine b9 ?_;cases h;exact⟨J,[_,_],⟨oL J J J u6 p8 nl J,⟨J,tr⟩⟩,J,io⟩
  ·refine c5 ?_;refine S3 6 J<|y0 J (u7 (cs:=[.I a1,.I a2,.I a3]) J c8v c8I J J J)<|y0 J (b2q (d:=.agg [.I a1,.I a2,.I a3]) J)<|cF h a0W J J λv3 _ h=>S2 2 J<|b9 ?_;cases h;exact⟨J,[_,_],⟨oL J J J u6 p8 nl J,⟨J,tr⟩⟩,J,io⟩

theorem a2j{a0}:PO Tryz.prog 155 [r9.Pv a0] (W3 a0) λr=>.tup [b7.Pv r.1,.I r.2]:=by
 refine pO Tryz.func155 λr h _ _=>?_;refine S4 3 J<|S3 5 J<|cA h Q4 J J λv1 _ h=>S2 5 J<|g7<|S4 2 J ?_;refine cN h (λhc h=>?_) λhc h=>?_
 ·refine S4 5 J ?_;refine b9 ?_;cases h;exact⟨J,[_,_],⟨oL J J J u6 p8 nl J,⟨J,tr⟩⟩,J,io⟩
 ·refine c5 ?_;refine dr [] w9 (by kernel_rfl) (by kernel_rfl)<|S7 11 J<|z7 h λv2 hv2 h=>d2 J (G7 J N3 J hv2) J<|z7 h λv3 hv3 h=>d2f J (A5 J b5W J hv3) J<|S7 2 J<|F2 (x':=b7.Pv v3.1) (cl':=true) J J (.inr J) p8<|S8 1 J<|b9 ?_
  cases h;exact⟨J,[_,_],⟨oL J J J u6 p8 nl J,⟨J,tr⟩⟩,J,io⟩

theorem c1Y{a0 a1}:PO Tryz.prog 346 [c9.Pv a0,.I a1] (b3W a0 a1) λr=>.fn (.func 363) [.rptr (c9.Pc r.1),.rptr [.I r.2]]:=by
 refine pO Tryz.func346 λr h _ _=>?_;unfold b3W at h;refine S4 3 J<|S4 2 J<|b9 ?_;cases h;exact f1

theorem b56{a0 a1}:PO Tryz.prog 304 [c9.Pv a0,.I a1] (a4B a0 a1) λr=>.bool r:=by
 refine pO Tryz.func304 λr h _ _=>?_;refine S4 3 J ?_;refine jq h (λ_=>St.of [(4,.ptr 2001 0 0)] [(2001,vR (.bool false) 1)]) (λq7 h=>?_) λκ6 h=>?_
 ·refine S4 1 J ?_;refine b9 ?_;cases h;exact⟨J,[_],⟨oS J J J b0y J,tr⟩,J,io⟩
 ·refine S3 1 J ?_;refine cF h c1Y J J λv8 _ h=>yN<|g6<|a3f (WPE (λl=>if l=2003 then 4 else if l=2004 then 3 else l) [(3,.ptr 2004 0 0),(4,.ptr 2003 0 0),(7,.fn (.func 363) [.rptr (c9.Pc v8.1),.rptr [.I v8.2]])] [(2003,vR (.bool false) 1),(2004,vR (.I a1) 1)]) ?_
  refine a11 (fn:=Tryz.f363) (N1:=24) J Tryz.func363 J J nl J c8j J J (λl16 e17 o18 hR19=>?_);refine S3 2 J<|nL J a35<|S2 1 J<|g6<|lq h (λs10=>St.of [(1000003,.ptr 2004 0 0),(1000004,.ptr 2003 0 0),(1000007,.fn (.func 363) [.rptr (c9.Pc v8.1),.rptr [.I v8.2]]),(0,.fn (.yield l16) []),(2,.rptr [.I v8.2]),(7,.L k8.Pv v8.1.L),(8,.I (v8.1.L.length:Int)),(9,.I s10)] [(2003,vR (.bool false) 1),(2004,vR (.I a1) 1)]) W λs10 x11 h hx22=>S4 1 J<|g7 ?_;refine cN h (λhc h=>?_) λhc h=>?_
  ·refine c5 ?_;refine g7<|g6<|sR<|iL h J J a35 K4 λv12 _ h=>S2 3 J<|S3 5 J<|k7 J (λhg=>om (d:=.fn (.yield l16) []) J)<|k7 J (λhg=>oL J J J a1D K4 nl J) ?_;rcases Bool.eq_false_or_eq_true ((v12.Kind==v8.2)==true) with hg24 | hg24
   ·have h:=ifT h hg24;refine T1 (WE [(1000003,.ptr 2004 0 0),(1000004,.ptr 2003 0 0),(1000007,.fn (.func 363) [.rptr (c9.Pc v8.1),.rptr [.I v8.2]]),(0,.fn (.yield l16) []),(2,.rptr [.I v8.2]),(7,.L k8.Pv v8.1.L),(8,.I (v8.1.L.length:Int)),(9,.I s10),(17,.bool (v12.Kind==v8.2)),(18,.fn (.yield l16) []),(19,k8.Pv v12)] [(2003,vR (.bool false) 1),(2004,vR (.I a1) 1)]) ?_;refine a7j hR19 (congrArg some hg24) J J J J J (λe25 o26 o27=>?_);refine S6 2 J ?_;refine⟨J,?_⟩;refine g6<|S4 4 J ?_;refine cN h (λhc h=>?_) λhc h=>?_
    ·refine S4 1 J ?_;refine b9 ?_;refine⟨J,?_⟩;refine T1 (WE [(1000003,.ptr 2004 0 0),(1000004,.ptr 2003 0 0),(1000007,.fn (.func 363) [.rptr (c9.Pc v8.1),.rptr [.I v8.2]]),(0,.fn (.yield l16) []),(2,.rptr [.I v8.2]),(7,.L k8.Pv v8.1.L),(8,.I (v8.1.L.length:Int)),(9,.I s10),(17,.bool (v12.Kind==v8.2)),(20,.bool false)] [(2003,vR (.bool true) 1),(2004,vR (.I a1) 1)])<|y0 (congrArg some hg24) (a1s J J)<|y0 J (a6Q J J hg24)<|yN ?_;refine I3 true J (λ_=>?_) (λq=>nomatch q);refine b9 ?_;refine .inr ⟨.ret,J,c9c ?_⟩;have h:=xL hx22 h;cases h;exact⟨J,[_],⟨oS J J J b0y J,tr⟩,J,io⟩
    ·refine c5 ?_;refine⟨J,?_⟩;refine T1 (WE [(1000003,.ptr 2004 0 0),(1000004,.ptr 2003 0 0),(1000007,.fn (.func 363) [.rptr (c9.Pc v8.1),.rptr [.I v8.2]]),(0,.fn (.yield l16) []),(2,.rptr [.I v8.2]),(7,.L k8.Pv v8.1.L),(8,.I (v8.1.L.length:Int)),(9,.I s10),(17,.bool (v12.Kind==v8.2)),(20,.bool true)] [(2003,vR (.bool false) 1),(2004,vR (.I a1) 1)])<|y0 (congrArg some hg24) (a1s J J)<|y0 J (a6Q J J hg24)<|yN ?_;refine I3 false J (λq=>nomatch q) (λ_=>?_);refine c5<|S6 2 J ?_;exact eL h W
   ·have h:=ifF h hg24;refine a2d (congrArg some hg24)<|a2d (congrArg some hg24)<|y0 J (a8U J J hg24)<|yN ?_;refine I3 false J (λq=>nomatch q) (λ_=>?_);refine c5<|S6 2 J ?_;exact eL h W
  ·refine p6 ?_;refine c7<|c7<|k9 ?_;refine .inl ⟨J,?_⟩;have h:=xL hx22 h;exact eJ h (WP (λl=>if l=2001 then 2003 else l))

theorem b3b{a0 a1}:PO Tryz.prog 308 [.L g5.Pv a0,.I a1] (a6h a0 a1) λr=>.bool r:=by
 refine pO Tryz.func308 λr h _ _=>?_;unfold a6h at h;refine S4 1 J<|S3 3 J<|k7 J (λhg=>mI J)<|k7 J (λhg=>om (d:=.L g5.Pv a0) J)<|k7 J (λhg=>Z8 (f:=g5.Pv) (ct hg) R3)<|k7 J (λhg=>s6 (ct hg) (ct hg) J)<|y0 J (y8 J J J (λq=>eqT q))<|S2 1 J<|b9 ?_;cases h;exact f1

theorem a7y{a0}:PON Tryz.prog 319 [.L g5.Pv a0] (a0p a0) λr=>⟨List.map g5.Pv r,0,true,3,true⟩:=by
 refine pON Tryz.func319 λr h _ _=>?_;unfold a0p at h;refine S4 1 J<|S3 1 J<|nL J R3<|z7 h λv1 hv1 h=>y1 J (c1r (f:=g5.Pv) hv1 J J J R3 V7 b68 c2h J J J) J<|S2 1 J<|S3 2 J<|z7 h λv2 hv2 h=>d5c (f:=g5.Pv) hv2 J J J (.inl ⟨_,J,J⟩) R3 V7 (λ_=>J) (by decide)<|yN<|S4 2 J<|b9 ?_
 cases h;exact⟨J,_,_,J,J,J,J⟩

theorem c0F{a0 a1 a2 a3}:PO Tryz.prog 305 [.L g5.Pv a0,.I a1,.I a2,.I a3] (b1X a0 a1 a2 a3) λr=>.tup [.L g5.Pv r.1,.I r.2.1,.I r.2.2]:=by
 refine pO Tryz.func305 λr h _ _=>?_;refine S4 3 J<|g7<|S3 2 J<|cA h b3b J J λv1 _ h=>S2 1 J ?_;refine cN h (λhc h=>?_) λhc h=>?_
 ·refine S4 4 J ?_;refine b9 ?_;cases h;exact f3
 ·refine c5 ?_;refine S3 1 J<|z7 h λv2 hv2 h=>ycN J (b6M J a7y J hv2) J J<|S2 1 J<|S3 6 J<|y0 J (u7 (cs:=[.I a2,.bool (a2 != 0),.I a3]) J c8r b68 J J J)<|z7 h λv3 hv3 h=>y0 J (a3B (f:=g5.Pv) hv3 J J J J R3 V7 J)<|b1Z (f:=g5.Pv) (v:=(⟨a2,(a2 != 0),a3⟩:g5)) hv3 J J (.inl J) V7<|yN<|dr [] w9 (by kernel_rfl) (by kernel_rfl)<|S7 3 J<|z7 h λv4 hv4 h=>d0 J (D2 (f:=g5.Pv) (cs:=g5.Pc v4) hv4 J J R3 V7 J J) J<|S8 5 J<|b9 ?_
  cases h;exact f3

theorem a73{a0 a1 a2}:PO Tryz.prog 307 [b7.Pv a0,.I a1,.I a2] (a1r a0 a1 a2) λr=>b7.Pv r:=by
 refine pO Tryz.func307 λr h _ _=>?_;refine S4 2 J<|S3 4 J<|cA h I4 J J λv1 _ h=>S2 5 J<|g7<|S4 2 J ?_;refine cN h (λhc h=>?_) λhc h=>?_
 ·refine S3 5 J ?_;refine iL h J J M7 P8 λv2 _ h=>S2 4 J<|S4 6 J<|S5 4 J<|cF h a0G J J λv3 _ h=>S2 5 J<|S4 2 J<|b9 ?_;cases h;exact⟨J,[_],⟨oL J J J u6 p8 nl J,tr⟩,J,io⟩
 ·refine c5 ?_;refine S4 2 J<|b9 ?_;cases h;exact⟨J,[_],⟨oL J J J u6 p8 nl J,tr⟩,J,io⟩

theorem a18{a0 a1}:PO Tryz.prog 257 [c8.Pv a0,.I a1] (N5 a0 a1) λr=>.tup [c8.Pv r.1,.I r.2]:=by
 refine pO Tryz.func257 λr h _ _=>?_;refine S4 3 J<|S3 2 J<|cA h I4 J J λv1 _ h=>S2 5 J<|g7<|S4 2 J ?_;refine cN h (λhc h=>?_) λhc h=>?_
 ·refine S4 4 J ?_;refine b9 ?_;cases h;exact⟨J,[_,_],⟨oL J J J a3m a1G nl J,⟨J,tr⟩⟩,J,io⟩
 ·refine c5 ?_;refine S3 3 J<|iL h J J M7 P8 λv2 _ h=>S2 3 J<|g7<|S4 4 J ?_;refine cN h (λhc h=>?_) λhc h=>?_
  ·refine S3 3 J ?_;refine y0 J (u7 (cs:=[.I 3,.I v2.Gen,.I 0,.I 0,.I 0,.I 0,.bool false,.nl]) J b3w a8I J J J)<|cF h I5 J J λv3 _ h=>S2 2 J<|b9 ?_;cases h;exact⟨J,[_,_],⟨oL J J J a3m a1G nl J,⟨J,tr⟩⟩,J,io⟩
  ·refine c5 ?_;refine S3 4 J<|y0 J (u7 (cs:=[.I 0,.I (u5 (v2.Gen+1)),.I 0,.I 0,.I 0,.I 0,.bool false,.nl]) J b3w a8I J J J)<|cF h I5 J J λv4 _ h=>S2 2 J<|b9 ?_;cases h;exact⟨J,[_,_],⟨oL J J J a3m a1G nl J,⟨J,tr⟩⟩,J,io⟩

theorem b2h{a0 a1}:PO Tryz.prog 306 [b7.Pv a0,.I a1] (a2V a0 a1) λr=>b7.Pv r:=by
 refine pO Tryz.func306 λr h _ _=>?_;refine S4 2 J<|S3 2 J<|cF h a73 J J λv1 _ h=>S2 1 J<|S3 4 J<|cA h I4 J J λv2 _ h=>S2 5 J<|g7<|S4 2 J ?_;refine cN h (λhc h=>?_) λhc h=>?_
 ·refine S4 2 J ?_;refine b9 ?_;cases h;exact⟨J,[_],⟨oL J J J u6 p8 nl J,tr⟩,J,io⟩
 ·refine c5 ?_;refine g7<|S3 5 J<|iL h J J M7 P8 λv3 _ h=>S2 3 J<|S3 4 J<|k7 J (λhg=>oF J c3R J)<|k7 J (λhg=>oF (ct hg) c3P J)<|k7 J (λhg=>oS (ct hg) J J x6 J)<|k7 J (λhg=>s6 (ct hg) J J)<|y0 J (y8 J J J (λq=>eqT q))<|yN ?_;refine cN h (λhc h=>?_) λhc h=>?_
  ·refine S5 4 J ?_;refine cF h a18 J J λv4 _ h=>S2 6 J<|S4 2 J<|b9 ?_;cases h;exact⟨J,[_],⟨oL J J J u6 p8 nl J,tr⟩,J,io⟩
  ·refine c5 ?_;refine S4 2 J<|b9 ?_;cases h;exact⟨J,[_],⟨oL J J J u6 p8 nl J,tr⟩,J,io⟩

theorem b07{a0 a1 a2 a3}:PO Tryz.prog 245 [b7.Pv a0,.I a1,.I a2,.I a3] (a0x a0 a1 a2 a3) λr=>.tup [b7.Pv r.1,.I r.2]:=by
 refine pO Tryz.func245 λr h _ _=>?_;unfold a0x at h;refine S4 3 J<|g7<|S3 3 J<|k7 J (λhg=>mI J)<|k7 J (λhg=>oF J b89 J)<|k7 J (λhg=>oS (ct hg) J J c4X J)<|k7 J (λhg=>Z8 (f:=g5.Pv) (ct hg) R3)<|k7 J (λhg=>s6 (ct hg) (ct hg) J)<|y0 J (x8 J J J (λq=>U0 q))<|S1 1 J<|k7 J (λhg=>oF J b9a J)<|k7 J (λhg=>oL (ct hg) J J a5k a1H nl J)<|k7 J (λhg=>mI J)<|z7 h λv1 hv1 h=>k7 J (λhg=>G7 J b56 (F8 (ct hg) (F8 (ct hg) J)) (G8 hv1 hg))<|y0 J (x8 J J J (λq=>U0 q))<|yN ?_;refine cN h (λhc h=>?_) λhc h=>?_
 ·refine S4 3 J ?_;refine b9 ?_;cases h;exact⟨J,[_,_],⟨oL J J J u6 p8 nl J,⟨J,tr⟩⟩,J,io⟩
 ·refine c5 ?_;refine g7<|S3 2 J<|cA h U3 J J λv2 _ h=>S2 1 J ?_;refine cN h (λhc h=>?_) λhc h=>?_
  ·refine S4 3 J ?_;refine b9 ?_;cases h;exact⟨J,[_,_],⟨oL J J J u6 p8 nl J,⟨J,tr⟩⟩,J,io⟩
  ·refine c5 ?_;refine S3 5 J<|cF h c0F J J λv3 _ h=>S2 7 J<|S4 3 J<|S3 2 J<|cF h a73 J J λv4 _ h=>S1 1 J<|cF h b2h J J λv5 _ h=>S2 2 J<|b9 ?_;cases h;exact⟨J,[_,_],⟨oL J J J u6 p8 nl J,⟨J,tr⟩⟩,J,io⟩

theorem a1Z{a0}:PO Tryz.prog 156 [r9.Pv a0] (T3 a0) λr=>.tup [b7.Pv r.1,.I r.2]:=by
 refine pO Tryz.func156 λr h _ _=>?_;refine S4 3 J<|g7<|S4 4 J ?_;refine cN h (λhc h=>?_) λhc h=>?_
 ·refine S3 8 J ?_;refine cF h b07 J J λv1 _ h=>S2 4 J<|b9 ?_;cases h;exact⟨J,[_,_],⟨oL J J J u6 p8 nl J,⟨J,tr⟩⟩,J,io⟩
 ·refine c5 ?_;refine S3 5 J<|cA h Q4 J J λv2 _ h=>S2 5 J<|g7<|S4 2 J ?_;refine cN h (λhc h=>?_) λhc h=>?_
  ·refine S4 5 J ?_;refine b9 ?_;cases h;exact⟨J,[_,_],⟨oL J J J u6 p8 nl J,⟨J,tr⟩⟩,J,io⟩
  ·refine c5 ?_;refine S3 9 J<|cF h b07 J J λv3 _ h=>S2 4 J<|b9 ?_;cases h;exact⟨J,[_,_],⟨oL J J J u6 p8 nl J,⟨J,tr⟩⟩,J,io⟩

theorem b8W{a0 a1}:PO Tryz.prog 246 [.L g5.Pv a0,.I a1] (a6g a0 a1) λr=>.tup [.I r.1,.I r.2]:=by
 refine pO Tryz.func246 λr h _ _=>?_;refine S4 2 J<|g7<|S3 2 J<|cA h b3b J J λv1 _ h=>S2 1 J ?_;refine cN h (λhc h=>?_) λhc h=>?_
 ·refine S4 2 J ?_;refine b9 ?_;cases h;exact f2
 ·refine c5 ?_;refine g7<|S3 2 J<|iL h J J R3 V7 λv2 hv2 h=>S1 4 J<|k7 J (λhg=>om (d:=.L g5.Pv a0) J)<|k7 J (λhg=>mI J)<|k7 J (λhg=>D2 (f:=g5.Pv) (cs:=g5.Pc v2) hv2 (ct hg) (ct hg) R3 V7 J J)<|k7 J (λhg=>B6 (ct hg) c3U J)<|k7 J (λhg=>G3 (ct hg) b0y J)<|k7 J (λhg=>a1s (ct hg) J)<|y0 J (x8 J J J (λq=>U0 q))<|yN ?_;refine cN h (λhc h=>?_) λhc h=>?_
  ·refine S4 2 J ?_;refine b9 ?_;cases h;exact f2
  ·refine c5 ?_;refine S3 2 J<|y0 J (D2 (f:=g5.Pv) (cs:=g5.Pc v2) hv2 J J R3 V7 J J)<|S2 4 J<|b9 ?_;cases h;exact f2

theorem a4m{a0}:PO Tryz.prog 157 [r9.Pv a0] (W9 a0) λr=>.tup [b7.Pv r.1,.I r.2]:=by
 refine pO Tryz.func157 λr h _ _=>?_;unfold W9 at h;refine S4 3 J<|dr [] w9 (by kernel_rfl) (by kernel_rfl)<|S7 7 J<|z7 h λv1 hv1 h=>d2 J (G7 J b8W J hv1) J<|S7 2 J<|z7 h λv2 hv2 h=>d2f J (A5 J H2 J hv2) J<|S7 2 J<|F2 (x':=b7.Pv v2.1) (cl':=true) J J (.inr J) p8<|S8 1 J<|b9 ?_
 cases h;exact⟨J,[_,_],⟨oL J J J u6 p8 nl J,⟨J,tr⟩⟩,J,io⟩

theorem b04{a0 a1}:PO Tryz.prog 351 [.I a0,.I a1] (a3W a0 a1) λr=>.fn (.func 364) [.rptr [.I r.1],.rptr [.I r.2]]:=by
 refine pO Tryz.func351 λr h _ _=>?_;unfold a3W at h;refine S4 3 J<|S4 2 J<|b9 ?_;cases h;exact f1

theorem b01{a0 a1}:PO Tryz.prog 365 [.I a0,.I a1] (a0v a0 a1) λr=>.I r:=by
 refine pO Tryz.func365 λr h _ _=>?_;refine S4 1 J<|g7<|S4 2 J ?_;refine cN h (λhc h=>?_) λhc h=>?_
 ·refine S4 1 J ?_;refine b9 ?_;cases h;exact f1
 ·refine c5 ?_;refine S3 4 J<|z7 h λv1 hv1 h=>y0 J (a3d J J hv1)<|S2 1 J<|g7<|S4 2 J ?_;refine cN h (λhc h=>?_) λhc h=>?_
  ·refine S6 4 J ?_;refine S4 2 J<|b9 ?_;cases h;exact f1
  ·refine c5 ?_;refine S4 2 J<|b9 ?_;cases h;exact f1

theorem a6B{a0 a1}:PO Tryz.prog 321 [.L c4.Pv a0,.I a1] (X8 a0 a1) λr=>.I r:=by
 refine pO Tryz.func321 λr h _ _=>?_;refine S4 3 J ?_;refine jq h (λ_=>St.of [(4,.ptr 2001 0 0)] [(2001,vR (.I 0) 1)]) (λq9 h=>?_) λκ8 h=>?_
 ·refine S4 1 J ?_;refine b9 ?_;cases h;exact⟨J,[_],⟨oS J J J x6 J,tr⟩,J,io⟩
 ·refine S3 1 J ?_;refine nL J Y5<|S1 1 J<|cF h b04 J J λv10 _ h=>yN<|g6<|a3f (WPE (λl=>if l=2004 then 4 else if l=2005 then 3 else if l=2006 then 2 else l) [(2,.ptr 2006 0 0),(3,.ptr 2005 0 0),(4,.ptr 2004 0 0),(9,.fn (.func 364) [.rptr [.I v10.1],.rptr [.I v10.2]])] [(2004,vR (.I 0) 1),(2005,vR (.I a1) 1),(2006,vR (.L c4.Pv a0) 1)]) ?_
  refine a11 (fn:=Tryz.f364) (N1:=20) J Tryz.func364 J J nl J c2l J J (λl17 e18 o19 hR20=>?_);refine S4 2 J<|g6<|lq h (λs12=>St.of [(1000002,.ptr 2006 0 0),(1000003,.ptr 2005 0 0),(1000004,.ptr 2004 0 0),(1000009,.fn (.func 364) [.rptr [.I v10.1],.rptr [.I v10.2]]),(0,.fn (.yield l17) []),(1,.rptr [.I v10.1]),(2,.rptr [.I v10.2]),(5,.I v10.1),(6,.I s12)] [(2004,vR (.I 0) 1),(2005,vR (.I a1) 1),(2006,vR (.L c4.Pv a0) 1)]) W λs12 x13 h hx23=>S4 1 J<|g7 ?_;refine cN h (λhc h=>?_) λhc h=>?_
  ·refine c5 ?_;refine g7<|g6<|S4 2 J<|drY [] 8 w9 (by kernel_rfl) (by kernel_rfl) (by kernel_rfl) (by kernel_rfl) nl<|S7 3 J<|z7 h λv14 hv24 h=>d2 J (G7 J b01 J hv24) J<|S7 3 J<|z7 h λv15 hv25 h=>d7 J (λ_ hN=>a3d J J hv25) J<|Q0<|c6S (WE [(1000002,.ptr 2006 0 0),(1000003,.ptr 2005 0 0),(1000004,.ptr 2004 0 0),(1000009,.fn (.func 364) [.rptr [.I v10.1],.rptr [.I v10.2]]),(0,.fn (.yield l17) []),(1,.rptr [.I v10.1]),(2,.rptr [.I v10.2]),(5,.I v10.1),(6,.I s12),(9,.fn (.yield l17) []),(16,.I v15)] [(2004,vR (.I 0) 1),(2005,vR (.I a1) 1),(2006,vR (.L c4.Pv a0) 1)]) ?_
   refine b5C J hR20 J J J J J J (λe26 o27 o28=>?_);refine S6 1 J ?_;refine⟨J,?_⟩;refine g6<|g7<|S3 2 J<|iL h J J Y5 a0s λv16 hv29 h=>S2 3 J ?_;refine cN h (λhc h=>?_) λhc h=>?_
   ·refine p6 ?_;refine c7<|a3F (by decide) ?_
    refine⟨J,?_⟩;refine⟨_,b5A [(1000002,.ptr 2006 0 0),(1000003,.ptr 2005 0 0),(1000004,.ptr 2004 0 0),(1000009,.fn (.func 364) [.rptr [.I v10.1],.rptr [.I v10.2]]),(0,.fn (.yield l17) []),(1,.rptr [.I v10.1]),(2,.rptr [.I v10.2]),(5,.I v10.1),(6,.I s12),(17,.bool false)] [(2004,vR (.I 0) 1),(2005,vR (.I a1) 1),(2006,vR (.L c4.Pv a0) 1)] ⟨J,J,J,J,J,J,J,J,J,J,J,J,J,J,J,J,J,J,J,J,J,J,J,J,J,J,J,J,J,J,tr⟩ ⟨rS,rS,rS,tr⟩,?_⟩;refine S8 1 J ?_;refine I3 true J (λ_=>?_) (λq=>nomatch q);refine b9 ?_;refine .inr ⟨.exit 0,J,d5R ?_⟩;refine k9 ?_;have h:=xL hx23 h;exact eJ h (WP (λl=>if l=2001 then 2004 else l))
   ·refine c5 ?_;refine dr [] w9 (by kernel_rfl) (by kernel_rfl)<|S7 2 J<|d0 J (D2 (f:=c4.Pv) (cs:=c4.Pc v16) hv29 J J Y5 a0s J J) J<|S7 4 J<|D1 J (λhg=>oS J J J b34 J) J<|z6 J (λhg _ hN=>mI J) J<|D1 J (λhg=>D2 (f:=c4.Pv) (cs:=c4.Pc v16) hv29 (ct hg) (ct hg) Y5 a0s J J) J<|z6 J (λhg _ hN=>B6 (ct hg) c3V J) J<|D1 J (λhg=>G3 (ct hg) x6 J) J<|D1 J (λhg=>oS J J J x6 J) J<|z6 J (λhg _ hN=>s6 (ct hg) (ct hg) J) J<|d7 J (λ_ hN=>y8 J J J (λq=>eqT q)) J<|Q0 ?_
    refine cN h (λhc h=>?_) λhc h=>?_
    ·refine S4 2 J ?_;refine b9 ?_;refine⟨J,?_⟩;refine⟨_,b5A [(1000002,.ptr 2006 0 0),(1000003,.ptr 2005 0 0),(1000004,.ptr 2004 0 0),(1000009,.fn (.func 364) [.rptr [.I v10.1],.rptr [.I v10.2]]),(0,.fn (.yield l17) []),(1,.rptr [.I v10.1]),(2,.rptr [.I v10.2]),(5,.I v10.1),(6,.I s12),(17,.bool false)] [(2004,vR (.I v15) 1),(2005,vR (.I a1) 1),(2006,vR (.L c4.Pv a0) 1)] ⟨J,J,J,J,J,J,J,J,J,J,J,J,J,J,J,J,J,J,J,J,J,J,J,J,J,J,J,J,J,J,tr⟩ ⟨rS,rS,rS,tr⟩,?_⟩;refine S8 1 J ?_;refine I3 true J (λ_=>?_) (λq=>nomatch q);refine b9 ?_;refine .inr ⟨.ret,J,c9c ?_⟩;have h:=xL hx23 h;cases h;exact⟨J,[_],⟨oS J J J x6 J,tr⟩,J,io⟩
    ·refine c5 ?_;refine⟨J,?_⟩;refine⟨_,b5A [(1000002,.ptr 2006 0 0),(1000003,.ptr 2005 0 0),(1000004,.ptr 2004 0 0),(1000009,.fn (.func 364) [.rptr [.I v10.1],.rptr [.I v10.2]]),(0,.fn (.yield l17) []),(1,.rptr [.I v10.1]),(2,.rptr [.I v10.2]),(5,.I v10.1),(6,.I s12),(17,.bool true)] [(2004,vR (.I 0) 1),(2005,vR (.I a1) 1),(2006,vR (.L c4.Pv a0) 1)] ⟨J,J,J,J,J,J,J,J,J,J,J,J,J,J,J,J,J,J,J,J,J,J,J,J,J,J,J,J,J,J,tr⟩ ⟨rS,rS,rS,tr⟩,?_⟩;refine S8 1 J ?_;refine I3 false J (λq=>nomatch q) (λ_=>?_);refine c5<|S6 2 J ?_;exact eL h W
  ·refine p6 ?_;refine c7<|c7<|k9 ?_;refine .inl ⟨J,?_⟩;have h:=xL hx23 h;exact eJ h (WP (λl=>if l=2001 then 2004 else l))

theorem a4Y{a0 a1}:PO Tryz.prog 311 [.L c4.Pv a0,.I a1] (L6 a0 a1) λr=>.tup [.I r.1,.I r.2]:=by
 refine pO Tryz.func311 λr h _ _=>?_;refine S4 2 J<|S3 2 J<|cA h a6B J J λv1 _ h=>S2 1 J<|g7<|S4 2 J ?_;refine cN h (λhc h=>?_) λhc h=>?_
 ·refine S4 2 J ?_;refine b9 ?_;cases h;exact f2
 ·refine c5 ?_;refine S3 2 J<|iL h J J Y5 a0s λv2 _ h=>S2 4 J<|b9 ?_;cases h;exact f2

theorem a0m{a0}:PON Tryz.prog 352 [.L c4.Pv a0] (E1 a0) λr=>⟨List.map c4.Pv r,0,true,3,true⟩:=by
 refine pON Tryz.func352 λr h _ _=>?_;unfold E1 at h;refine S4 1 J<|g7<|S3 1 J<|b8Z J Y5 λb hb=>yN ?_;refine I3 b J (λhc=>?_) (λhc=>?_)
 ·obtain rfl:a0 = []:=by simpa using hb hc
  refine S4 1 J<|a3f (I7 (t:=2) (l:=920000) (z:=3) J J)<|b9 ?_;cases h;exact⟨J,_,_,J,J,J,J⟩
 ·refine c5 ?_;refine sR<|y0 J (P1 J Y5 a0s)<|S1 1 J<|y1 J (b6L (f:=c4.Pv) h J J (.inl ⟨_,J,J⟩) Y5 a0s c2i b3y J (λ_=>J)) J<|S2 1 J<|b9 ?_;exact⟨J,_,_,J,J,J,J⟩

theorem a6C{a0 a1 a2}:PO Tryz.prog 322 [.L c4.Pv a0,.I a1,c4.Pv a2] (a1q a0 a1 a2) λr=>.L c4.Pv r:=by
 refine pO Tryz.func322 λr h _ _=>?_;unfold a1q at h;refine S4 2 J<|S3 1 J<|z7 h λv1 hv1 h=>ycN J (b6M J a0m J hv1) J J<|S2 1 J<|S3 3 J<|z7 h λv2 hv2 h=>y0 J (a3B (f:=c4.Pv) hv2 J J J J Y5 a0s J)<|b1Z (f:=c4.Pv) (v:=a2) hv2 J J (.inl J) a0s<|yN<|S4 2 J<|b9 ?_;cases h;exact f1

theorem b00{a0 a1}:PO Tryz.prog 255 [.L c4.Pv a0,.I a1] (X7 a0 a1) λr=>.tup [.L c4.Pv r.1,.I r.2.1,.I r.2.2]:=by
 refine pO Tryz.func255 λr h _ _=>?_;refine S4 3 J<|S3 2 J<|cA h a6B J J λv1 _ h=>S2 1 J<|g7<|S4 2 J ?_;refine cN h (λhc h=>?_) λhc h=>?_
 ·refine S4 4 J ?_;refine b9 ?_;cases h;exact f3
 ·refine c5 ?_;refine dr [] w9 (by kernel_rfl) (by kernel_rfl)<|S7 2 J<|d7 J (λ_ hN=>u7 (cs:=[.I 2,.I 0,.I 0]) J c2o b3y J J J) J<|z7 h λv2 hv2 h=>d2f J (A5 J a6C J hv2) J<|S7 2 J<|z7 h λv3 hv3 h=>d0 J (D2 (f:=c4.Pv) (cs:=c4.Pc v3) hv3 J J Y5 a0s J J) J<|S8 5 J<|b9 ?_
  cases h;exact f3

theorem b9z{a0 a1 a2}:PO Tryz.prog 347 [.L c4.Pv a0,.I a1,.I a2] (a71 a0 a1 a2) λr=>.tup [.L c4.Pv r.1,.I r.2]:=by
 refine pO Tryz.func347 λr h _ _=>?_;refine S4 3 J<|S3 2 J<|y0 J (u7 (cs:=[.I 1,.I a1,.I a2]) J c2o b3y J J J)<|S2 2 J<|g7<|S3 2 J<|cA h a6B J J λv1 _ h=>S2 1 J<|S4 2 J ?_;refine cN h (λhc h=>?_) λhc h=>?_
 ·refine S3 3 J ?_;refine cF h a6C J J λv2 _ h=>S2 2 J<|b9 ?_;cases h;exact⟨J,[_,_],⟨oS J J J b34 J,⟨oS J J J a9W J,tr⟩⟩,J,io⟩
 ·refine c5 ?_;refine jq h (λ_=>St.of [(3,.ptr 2004 0 0),(6,.ptr 2003 0 0),(7,.ptr 2002 0 0)] [(2002,vR (.I 0) 1),(2003,vR (.nl) 1),(2004,vR (.L c4.Pv a0) 1)]) (λq12 h=>?_) λκ11 h=>?_
  ·refine S4 3 J ?_;refine b9 ?_;cases h;exact⟨J,[_,_],⟨oS J J J b34 J,⟨oS J J J a9W J,tr⟩⟩,J,io⟩
  ·refine S3 1 J ?_;refine nL J Y5<|S1 1 J<|cF h b04 J J λv13 _ h=>yN<|g6<|a3f (WPE (λl=>if l=2005 then 8 else if l=2006 then 7 else if l=2007 then 6 else if l=2008 then 3 else l) [(3,.ptr 2008 0 0),(6,.ptr 2007 0 0),(7,.ptr 2006 0 0),(8,.ptr 2005 0 0),(26,.fn (.func 364) [.rptr [.I v13.1],.rptr [.I v13.2]])] [(2005,vR (.agg [.I 1,.I a1,.I a2]) 3),(2006,vR (.I 0) 1),(2007,vR (.nl) 1),(2008,vR (.L c4.Pv a0) 1)]) ?_
   refine a11 (fn:=Tryz.f364) (N1:=20) J Tryz.func364 J J nl J c2l J J (λl20 e21 o22 hR23=>?_);refine S4 2 J<|g6<|lq h (λs15=>St.of [(1000003,.ptr 2008 0 0),(1000006,.ptr 2007 0 0),(1000007,.ptr 2006 0 0),(1000008,.ptr 2005 0 0),(1000026,.fn (.func 364) [.rptr [.I v13.1],.rptr [.I v13.2]]),(0,.fn (.yield l20) []),(1,.rptr [.I v13.1]),(2,.rptr [.I v13.2]),(5,.I v13.1),(6,.I s15)] [(2005,vR (.agg [.I 1,.I a1,.I a2]) 3),(2006,vR (.I 0) 1),(2007,vR (.nl) 1),(2008,vR (.L c4.Pv a0) 1)]) W λs15 x16 h hx26=>S4 1 J<|g7 ?_;refine cN h (λhc h=>?_) λhc h=>?_
   ·refine c5 ?_;refine g7<|g6<|S4 2 J<|drY [] 8 w9 (by kernel_rfl) (by kernel_rfl) (by kernel_rfl) (by kernel_rfl) nl<|S7 3 J<|z7 h λv17 hv27 h=>d2 J (G7 J b01 J hv27) J<|S7 3 J<|z7 h λv18 hv28 h=>d7 J (λ_ hN=>a3d J J hv28) J<|Q0<|c6S (WE [(1000003,.ptr 2008 0 0),(1000006,.ptr 2007 0 0),(1000007,.ptr 2006 0 0),(1000008,.ptr 2005 0 0),(1000026,.fn (.func 364) [.rptr [.I v13.1],.rptr [.I v13.2]]),(0,.fn (.yield l20) []),(1,.rptr [.I v13.1]),(2,.rptr [.I v13.2]),(5,.I v13.1),(6,.I s15),(9,.fn (.yield l20) []),(16,.I v18)] [(2005,vR (.agg [.I 1,.I a1,.I a2]) 3),(2006,vR (.I 0) 1),(2007,vR (.nl) 1),(2008,vR (.L c4.Pv a0) 1)]) ?_
    refine b5C J hR23 J J J J J J (λe29 o30 o31=>?_);refine S6 1 J ?_;refine⟨J,?_⟩;refine g6<|S3 2 J<|iL h J J Y5 a0s λv19 _ h=>S2 3 J ?_;refine cN h (λhc h=>?_) λhc h=>?_
    ·refine S3 3 J ?_;refine cF h a6C J J λv20 _ h=>S2 2 J<|b9 ?_;refine⟨J,?_⟩;refine⟨_,b5A [(1000003,.ptr 2008 0 0),(1000006,.ptr 2007 0 0),(1000007,.ptr 2006 0 0),(1000008,.ptr 2005 0 0),(1000026,.fn (.func 364) [.rptr [.I v13.1],.rptr [.I v13.2]]),(0,.fn (.yield l20) []),(1,.rptr [.I v13.1]),(2,.rptr [.I v13.2]),(5,.I v13.1),(6,.I s15),(17,.bool false)] [(2005,vR (.agg [.I 1,.I a1,.I a2]) 3),(2006,vR (.I 0) 1),(2007,vR (.L c4.Pv v20) 1),(2008,vR (.L c4.Pv a0) 1)] ⟨J,J,J,J,J,J,J,J,J,J,J,J,J,J,J,J,J,J,J,J,J,J,J,J,J,J,J,J,J,J,J,J,J,tr⟩ ⟨rS,rS,rS,rS,tr⟩,?_⟩;refine S8 1 J ?_;refine I3 true J (λ_=>?_) (λq=>nomatch q);refine b9 ?_;refine .inr ⟨.ret,J,c9c ?_⟩;have h:=xL hx26 h;cases h;exact⟨J,[_,_],⟨oS J J J b34 J,⟨oS J J J a9W J,tr⟩⟩,J,io⟩
    ·refine c5 ?_;refine⟨J,?_⟩;refine⟨_,b5A [(1000003,.ptr 2008 0 0),(1000006,.ptr 2007 0 0),(1000007,.ptr 2006 0 0),(1000008,.ptr 2005 0 0),(1000026,.fn (.func 364) [.rptr [.I v13.1],.rptr [.I v13.2]]),(0,.fn (.yield l20) []),(1,.rptr [.I v13.1]),(2,.rptr [.I v13.2]),(5,.I v13.1),(6,.I s15),(17,.bool true)] [(2005,vR (.agg [.I 1,.I a1,.I a2]) 3),(2006,vR (.I 0) 1),(2007,vR (.nl) 1),(2008,vR (.L c4.Pv a0) 1)] ⟨J,J,J,J,J,J,J,J,J,J,J,J,J,J,J,J,J,J,J,J,J,J,J,J,J,J,J,J,J,J,J,J,J,tr⟩ ⟨rS,rS,rS,rS,tr⟩,?_⟩;refine S8 1 J ?_;refine I3 false J (λq=>nomatch q) (λ_=>?_);refine c5<|S6 2 J ?_;exact eL h W
   ·refine p6 ?_;refine c7<|c7<|k9 ?_;refine .inl ⟨J,?_⟩;have h:=xL hx26 h;exact eJ h (WP (λl=>if l=2004 then 2008 else if l=2003 then 2007 else if l=2002 then 2006 else l))

theorem b7s{a0 a1 a2}:PO Tryz.prog 309 [.L c4.Pv a0,.I a1,.I a2] (T9 a0 a1 a2) λr=>.tup [.L c4.Pv r.1,.I r.2.1,.I r.2.2]:=by
 refine pO Tryz.func309 λr h _ _=>?_;refine S4 3 J<|g7<|S4 2 J ?_;refine cN h (λhc h=>?_) λhc h=>?_
 ·refine S4 4 J ?_;refine b9 ?_;cases h;exact f3
 ·refine c5 ?_;refine S3 2 J<|cA h a4Y J J λv1 _ h=>S2 5 J<|g7<|S4 2 J ?_;refine cN h (λhc h=>?_) λhc h=>?_
  ·refine S3 2 J ?_;refine cF h b00 J J λv2 _ h=>S2 7 J<|S4 5 J<|b9 ?_;cases h;exact f3
  ·refine c5 ?_;refine S3 3 J<|cF h b9z J J λv3 _ h=>S2 5 J<|g7<|S4 2 J ?_;refine cN h (λhc h=>?_) λhc h=>?_
   ·refine S4 5 J ?_;refine b9 ?_;cases h;exact f3
   ·refine c5 ?_;refine S4 5 J<|b9 ?_;cases h;exact f3

theorem a7B{a0 a1}:PO Tryz.prog 310 [H9.Pv a0,b7.Pv a1] (W2 a0 a1) λr=>b7.Pv r:=by
 refine pO Tryz.func310 λr h _ _=>?_;unfold W2 at h;refine S4 3 J<|S4 4 J<|S4 2 J<|b9 ?_;cases h;exact⟨J,[_],⟨oL J J J u6 p8 nl J,tr⟩,J,io⟩

theorem a1a{a0 a1 a2 a3}:PO Tryz.prog 302 [b7.Pv a0,.I a1,.I a2,.abs (BFn 310 [H9.Pv a3])] (J2 a0 a1 a2 a3) λr=>b7.Pv r:=by
 refine pO Tryz.func302 λr h _ _=>?_;refine S4 2 J<|S3 3 J<|cF h a1U J J λv1 _ h=>z7 h λv2 hv2 h=>b8Y (xs:=[b7.Pv v1]) J J c8e J (a7B.2 _ hv2)<|S1 1 J<|cF h W8 J J λv3 _ h=>S2 1 J<|b9 ?_;cases h;exact⟨J,[_],⟨oL J J J u6 p8 nl J,tr⟩,J,io⟩

theorem b7G{a0 a1 a2}:PO Tryz.prog 247 [b7.Pv a0,.I a1,.I a2] (a3X a0 a1 a2) λr=>.tup [b7.Pv r.1,.I r.2]:=by
 refine pO Tryz.func247 λr h _ _=>?_;refine S4 3 J<|g7<|S4 2 J ?_;refine cN h (λhc h=>?_) λhc h=>?_
 ·refine S4 3 J ?_;refine b9 ?_;cases h;exact⟨J,[_,_],⟨oL J J J u6 p8 nl J,⟨J,tr⟩⟩,J,io⟩
 ·refine c5 ?_;refine g7<|S3 2 J<|cA h U3 J J λv1 _ h=>S1 2 J<|k7 J (λhg=>oL J J J u6 p8 nl J)<|k7 J (λhg=>mI J)<|z7 h λv2 hv2 h=>k7 J (λhg=>G7 J U3 (F8 (ct hg) (F8 (ct hg) J)) (G8 hv2 hg))<|k7 J (λhg=>a1s (ct hg) J)<|y0 J (x8 J J J (λq=>U0 q))<|yN ?_;refine cN h (λhc h=>?_) λhc h=>?_
  ·refine S4 3 J ?_;refine b9 ?_;cases h;exact⟨J,[_,_],⟨oL J J J u6 p8 nl J,⟨J,tr⟩⟩,J,io⟩
  ·refine c5 ?_;refine S3 4 J<|cF h b7s J J λv3 _ h=>S2 7 J<|g7<|S4 2 J ?_;refine cN h (λhc h=>?_) λhc h=>?_
   ·refine S4 4 J ?_;refine b9 ?_;cases h;exact⟨J,[_,_],⟨oL J J J u6 p8 nl J,⟨J,tr⟩⟩,J,io⟩
   ·refine c5 ?_;refine S3 4 J<|y0 J (u7 (cs:=[.L c4.Pv v3.1]) J c8w c8J J J J)<|y0 J (b2q (d:=.agg [.L c4.Pv v3.1]) J)<|cF h a1a J J λv4 _ h=>S2 2 J<|b9 ?_;cases h;exact⟨J,[_,_],⟨oL J J J u6 p8 nl J,⟨J,tr⟩⟩,J,io⟩

theorem a3c{a0}:PO Tryz.prog 158 [r9.Pv a0] (Z7 a0) λr=>.tup [b7.Pv r.1,.I r.2]:=by
 refine pO Tryz.func158 λr h _ _=>?_;refine S4 3 J<|S3 5 J<|cA h Q4 J J λv1 _ h=>S2 5 J<|g7<|S4 2 J ?_;refine cN h (λhc h=>?_) λhc h=>?_
 ·refine S4 5 J ?_;refine b9 ?_;cases h;exact⟨J,[_,_],⟨oL J J J u6 p8 nl J,⟨J,tr⟩⟩,J,io⟩
 ·refine c5 ?_;refine dr [] w9 (by kernel_rfl) (by kernel_rfl)<|S7 8 J<|z7 h λv2 hv2 h=>d2 J (G7 J N3 J hv2) J<|z7 h λv3 hv3 h=>d2f J (A5 J b7G J hv3) J<|S7 2 J<|F2 (x':=b7.Pv v3.1) (cl':=true) J J (.inr J) p8<|S8 1 J<|b9 ?_
  cases h;exact⟨J,[_,_],⟨oL J J J u6 p8 nl J,⟨J,tr⟩⟩,J,io⟩

theorem b7r{a0 a1}:PO Tryz.prog 248 [.L c4.Pv a0,.I a1] (b2a a0 a1) λr=>.tup [.I r.1,.I r.2]:=by
 refine pO Tryz.func248 λr h _ _=>?_;refine S4 2 J<|S3 2 J<|cA h a4Y J J λv1 _ h=>S2 4 J<|b9 ?_;cases h;exact f2

theorem a3A{a0}:PO Tryz.prog 159 [r9.Pv a0] (a0z a0) λr=>.tup [b7.Pv r.1,.I r.2]:=by
 refine pO Tryz.func159 λr h _ _=>?_;refine S4 3 J<|S3 5 J<|cA h Q4 J J λv1 _ h=>S2 5 J<|g7<|S4 2 J ?_;refine cN h (λhc h=>?_) λhc h=>?_
 ·refine S4 5 J ?_;refine b9 ?_;cases h;exact⟨J,[_,_],⟨oL J J J u6 p8 nl J,⟨J,tr⟩⟩,J,io⟩
 ·refine c5 ?_;refine dr [] w9 (by kernel_rfl) (by kernel_rfl)<|S7 5 J<|z7 h λv2 hv2 h=>d2 J (G7 J b7r J hv2) J<|S7 2 J<|z7 h λv3 hv3 h=>d2f J (A5 J H2 J hv3) J<|S7 2 J<|F2 (x':=b7.Pv v3.1) (cl':=true) J J (.inr J) p8<|S8 1 J<|b9 ?_
  cases h;exact⟨J,[_,_],⟨oL J J J u6 p8 nl J,⟨J,tr⟩⟩,J,io⟩

theorem a2i{a0}:PO Tryz.prog 160 [r9.Pv a0] (P0 a0) λr=>.tup [b7.Pv r.1,.I r.2]:=by
 refine pO Tryz.func160 λr h _ _=>?_;unfold P0 at h;refine S4 3 J<|S4 4 J<|b9 ?_;cases h;exact⟨J,[_,_],⟨oL J J J u6 p8 nl J,⟨J,tr⟩⟩,J,io⟩

theorem c1d{f:Fv}{a0:r9}{r:b7 × Int}(h:b3E f a0=some r):∃n,f=some n∧B7 Tryz.prog n∧Y4 Tryz.prog n [r9.Pv a0] (.tup [b7.Pv r.1,.I r.2]):=by
 unfold b3E at h;by_cases e151:f=some 151
 ·rw[if_pos e151] at h;exact⟨151,e151,(@a1Y a0).1,(@a1Y a0).2 _ h⟩
 rw[if_neg e151] at h;by_cases e152:f=some 152
 ·rw[if_pos e152] at h;exact⟨152,e152,(@a0K a0).1,(@a0K a0).2 _ h⟩
 rw[if_neg e152] at h;by_cases e153:f=some 153
 ·rw[if_pos e153] at h;exact⟨153,e153,(@a3a a0).1,(@a3a a0).2 _ h⟩
 rw[if_neg e153] at h;by_cases e154:f=some 154
 ·rw[if_pos e154] at h;exact⟨154,e154,(@a3b a0).1,(@a3b a0).2 _ h⟩
 rw[if_neg e154] at h;by_cases e155:f=some 155
 ·rw[if_pos e155] at h;exact⟨155,e155,(@a2j a0).1,(@a2j a0).2 _ h⟩
 rw[if_neg e155] at h;by_cases e156:f=some 156
 ·rw[if_pos e156] at h;exact⟨156,e156,(@a1Z a0).1,(@a1Z a0).2 _ h⟩
 rw[if_neg e156] at h;by_cases e157:f=some 157
 ·rw[if_pos e157] at h;exact⟨157,e157,(@a4m a0).1,(@a4m a0).2 _ h⟩
 rw[if_neg e157] at h;by_cases e158:f=some 158
 ·rw[if_pos e158] at h;exact⟨158,e158,(@a3c a0).1,(@a3c a0).2 _ h⟩
 rw[if_neg e158] at h;by_cases e159:f=some 159
 ·rw[if_pos e159] at h;exact⟨159,e159,(@a3A a0).1,(@a3A a0).2 _ h⟩
 rw[if_neg e159] at h;by_cases e160:f=some 160
 ·rw[if_pos e160] at h;exact⟨160,e160,(@a2i a0).1,(@a2i a0).2 _ h⟩
 rw[if_neg e160] at h;cases h

theorem a5F{a0}:PO Tryz.prog 209 [.I a0] (a0U a0) λr=>.bool r:=by
 refine pO Tryz.func209 λr h _ _=>?_;unfold a0U at h;refine S4 1 J<|S4 4 J<|b9 ?_;cases h;exact f1

theorem a92{a0 a1}:PO Tryz.prog 125 [.I a0,.I a1] (a3o a0 a1) λr=>.I r:=by
 refine pO Tryz.func125 λr h _ _=>?_;refine S4 1 J<|S3 1 J<|cA h a5F J J λv1 _ h=>S2 1 J<|S3 1 J<|cA h a5F J J λv2 _ h=>S2 1 J<|g7<|S4 1 J ?_;refine cN h (λhc h=>?_) λhc h=>?_
 ·refine g7 ?_;refine S4 1 J ?_;refine cN h (λhc h=>?_) λhc h=>?_
  ·refine S4 1 J ?_;refine b9 ?_;cases h;exact f1
  ·refine c5 ?_;refine S4 1 J<|b9 ?_;cases h;exact f1
 ·refine c5 ?_;refine g7<|S4 1 J ?_;refine cN h (λhc h=>?_) λhc h=>?_
  ·refine S4 1 J ?_;refine b9 ?_;cases h;exact f1
  ·refine c5 ?_;refine g7<|S4 3 J ?_;refine cN h (λhc h=>?_) λhc h=>?_
   ·refine S4 1 J ?_;refine b9 ?_;cases h;exact f1
   ·refine c5 ?_;refine g7<|S4 3 J ?_;refine cN h (λhc h=>?_) λhc h=>?_
    ·refine S4 1 J ?_;refine b9 ?_;cases h;exact f1
    ·refine c5 ?_;refine S4 1 J<|b9 ?_;cases h;exact f1

theorem b3q{a0 a1 a2}:PO Tryz.prog 124 [.I a0,.I a1,.rptr [.abs (W6 (List.map (ent iF iF) a2))]] (a3S a0 a1 a2) λr=>.I r:=by
 refine pO Tryz.func124 λr h _ _=>?_;refine S4 1 J<|S3 2 J<|y0 J (b9Q (es:=a2) (k:=a0) (E:=iF) (EK:=iF) (d:=.I ((B5 a2 a0).getD (0:Int))) J J b4e (A8 L4) C2 J (lk1 _ _ _))<|S1 2 J<|y0 J (b9Q (es:=a2) (k:=a1) (E:=iF) (EK:=iF) (d:=.I ((B5 a2 a1).getD (0:Int))) J J b4e (A8 L4) C2 J (lk1 _ _ _))<|cA h a92 J J λv1 _ h=>S2 1 J<|b9 ?_;cases h;exact f1

theorem L3{a0}:PO Tryz.prog 68 [a7.Pv a0] (E2 a0) λr=>.L iF r:=by
 refine pO Tryz.func68 λr h _ _=>?_;refine S4 2 J<|S4 1 J<|sR<|c0H (KT:=Int) (VT:=Int) (EK:=iF) (E:=iF) 5000008 J J<|S2 2 J ?_;refine jq h (λq=>St.of [(3,.sl 910003),(4,.ptr 4 0 0)] [(4,vS (.mp 5000008) 1),(5000008,⟨[.mapc (List.map (ent iF iF) q.1)],0,false,0,false⟩),(910003,⟨List.map iF q.2,0,true,1,true⟩)]) (λq20 h=>?_) λκ17 h=>?_
 ·obtain⟨j18,j19⟩:=q20;refine S3 2 J<|T1 (Wk.trans (d0o 5000008 nl J) (d3v 4 0 5000008 J J J J))<|z7 h λv21 hv12 h=>d3y hv12 J J c8a d3j J J J c8b J J J J J (λp q r h=>b3q.2 r h)<|yN<|S4 2 J<|b9 ?_;cases h;exact f1
 ·refine S3 3 J ?_;refine nL J M7<|S2 1 J<|g6<|lq h (λq=>St.of [(3,.sl 910003),(4,.ptr 4 0 0),(11,.L b8.Pv a0.S.a8),(12,.I (a0.S.a8.length:Int)),(13,.I q.1)] [(4,vS (.mp 5000008) 1),(5000008,⟨[.mapc (List.map (ent iF iF) q.2.1)],0,false,0,false⟩),(910003,⟨List.map iF q.2.2,0,true,1,true⟩)]) (Wk.trans (I7 (t:=3) (l:=920003) (z:=1) J J) (WP (λl=>if l=910003 then 920003 else l))) λq27 x26 h hx15=>?_
  obtain⟨s23,s24,s25⟩:=q27;refine S4 1 J<|g7 ?_;refine cN h (λhc h=>?_) λhc h=>?_
  ·refine c5 ?_;refine jq h (λq=>St.of [(3,.sl 33),(4,.ptr 4 0 0),(11,.L b8.Pv a0.S.a8),(12,.I (a0.S.a8.length:Int)),(13,.I s23)] [(4,vS (.mp 5000008) 1),(5000008,⟨[.mapc (List.map (ent iF iF) q.1)],0,false,0,false⟩),(33,⟨List.map iF q.2,0,true,1,true⟩)]) (λq34 h=>?_) λκ31 h=>?_
   ·obtain⟨j32,j33⟩:=q34;refine S6 2 J ?_;exact eL h (WP (λl=>if l=910003 then 33 else l))
   ·refine g6 ?_;refine S3 1 J<|iL h J J M7 P8 λv35 _ h=>S2 4 J<|S4 3 J ?_;refine cN h (λhc h=>?_) λhc h=>?_
    ·refine S3 3 J ?_;refine cA h a7Y J J λv36 _ h=>S2 1 J<|S3 5 J<|a0R (es:=s24) (k:=v36) (v:=v35.Val.Serial) (E:=iF) (EK:=iF) (.inl J) J J J J J J b4e (A8 L4)<|yN<|S5 2 J<|y0 J (L1 (f:=iF) (l:=[v36]) J l4 o8 C2 J J nl J J)<|z7 h λv37 hv22 h=>d01 (f:=iF) (b:=8) [(4,.ptr 4 0 0),(11,.L b8.Pv a0.S.a8),(12,.I (a0.S.a8.length:Int)),(13,.I s23),(14,.bool (decide (s23<(a0.S.a8.length:Int)))),(15,.I s23),(16,.rptr (b8.Pc v35)),(17,b8.Pv v35),(6,.ptr 6 0 0),(5,.I s23),(18,.ptr 6 0 0),(19,.I v35.State),(20,.bool (v35.State==1)),(21,.I s23),(22,.ptr 6 0 1),(23,.I v35.Gen),(24,.I v36),(7,.I v36),(25,.mp 5000008),(26,.I v36),(27,.ptr 6 0 2),(28,.ptr 6 0 2),(29,.I v35.Val.Serial),(31,.I v36),(32,.lst true (List.map iF [v36]))] [(6,vR (b8.Pv v35) 8),(5000008,⟨[.mapc (List.map (ent iF iF) (r8 s24 v36 v35.Val.Serial))],0,false,0,false⟩),(4,vS (.mp 5000008) 1)] J hv22 ⟨J,J,J,J,J,J,J,J,J,J,J,J,J,J,J,J,J,J,J,J,J,J,J,J,J,J,J,J,J,J,J,J,J,J,J,J,J,J,J,J,J,J,J,J,J,J,J,J,J,J,J,J,J,J,J,J,J,J,J,J,J,J,J,J,J,J,J,J,J,J,J,J,J,J,J,tr⟩ ⟨rS,a2G J J J (λq=>nomatch q) J J J J,a2G J J J (λq=>nomatch q) J J J J,tr⟩ J J J J (.inl ⟨_,J,J⟩) l4 o8 O7 C2 J (λ_=>J)<|S2 1 J ?_;exact eJ h W
    ·refine c5 ?_;exact eJ h (WP (λl=>if l=33 then 910003 else l))
  ·refine p6 ?_;refine c7<|c7<|k9 ?_;have h:=xL hx15 h;exact eJ h W

theorem b5n{a0}:PO Tryz.prog 161 [b7.Pv a0] (a1y a0) λr=>.L iF r:=by
 refine pO Tryz.func161 λr h _ _=>?_;refine S4 2 J<|S4 1 J ?_;refine jq h (λj16=>St.of [(3,.sl 910003)] [(910003,⟨List.map iF j16,(List.map iF j16).length,true,1,true⟩)]) (λj16 h=>?_) λκ15 h=>?_
 ·refine S4 2 J ?_;refine b9 ?_;cases h;exact f1
 ·refine S3 2 J ?_;refine cF h L3 J J λv17 _ h=>nL J l4<|S2 1 J<|g6<|lq h (λq=>St.of [(1,.ptr 1 0 0),(3,.sl 910003),(10,.L iF v17),(11,.I (v17.length:Int)),(12,.I q.1)] [(1,vR (b7.Pv a0) 8),(910003,⟨List.map iF q.2,(List.map iF q.2).length,true,1,true⟩)]) (Wk.trans (I7 (t:=3) (l:=920003) (z:=1) J J) (WP (λl=>if l=910003 then 920003 else l))) λq22 x21 h hx16=>?_
  obtain⟨s19,s20⟩:=q22;refine S4 1 J<|g7 ?_;refine cN h (λhc h=>?_) λhc h=>?_
  ·refine c5 ?_;refine jq h (λj27=>St.of [(1,.ptr 1 0 0),(3,.sl 29),(10,.L iF v17),(11,.I (v17.length:Int)),(12,.I s19)] [(29,⟨List.map iF j27,(List.map iF j27).length,true,1,true⟩),(1,vR (b7.Pv a0) 8)]) (λj27 h=>?_) λκ26 h=>?_
   ·refine S6 2 J ?_;exact eL h (Wk.trans (p7 _ [29]) (WP (λl=>if l=910003 then 29 else l)))
   ·refine g6 ?_;refine sR<|iL h J J l4 o8 λv28 _ h=>S2 2 J<|S3 3 J<|cF h C4 J J λv29 _ h=>S2 6 J<|S4 3 J ?_;refine cN h (λhc h=>?_) λhc h=>?_
    ·refine S5 2 J ?_;refine y0 J (L1 (f:=iF) (l:=[v28]) J l4 o8 C2 J J nl J J)<|z7 h λv30 hv23 h=>R2 J (O4 (f:=iF) hv23 J J J J J J (.inl ⟨_,J,J⟩) l4 o8 O7 C2 J (λ_=>J)) J J J<|S2 1 J ?_;exact eJ h (Wk.trans (p7 _ [29]) W)
    ·refine c5 ?_;exact eJ h (Wk.trans (p7 _ [910003]) (WP (λl=>if l=29 then 910003 else l)))
  ·refine p6 ?_;refine c7<|c7<|k9 ?_;have h:=xL hx16 h;exact eJ h (Wk.trans (p7 _ [910003]) W)

theorem a5e{a0}:PO Tryz.prog 162 [m8.Pv a0] (L8 a0) λr=>.bool r:=by
 refine pO Tryz.func162 λr h _ _=>?_;unfold L8 at h;refine S4 2 J<|S3 4 J<|k7 J (λhg=>oF J b6a J)<|k7 J (λhg=>oS (ct hg) J J b0y J)<|k7 J (λhg=>a1s (ct hg) J)<|y0 J (y8 J J J (λq=>eqT q))<|S2 1 J<|b9 ?_;cases h;exact f1

theorem O1{a0}:PO Tryz.prog 313 [c9.Pv a0] (I8 a0) λr=>.I r:=by
 refine pO Tryz.func313 λr h _ _=>?_;unfold I8 at h;refine S4 2 J<|S3 2 J<|nL J a35<|S2 1 J<|b9 ?_;cases h;exact f1

theorem U9{a0 a1 a2}:PO Tryz.prog 314 [.L k8.Pv a0,.I a1,.I a2] (F4 a0 a1 a2) λr=>.lst true (List.map k8.Pv r):=by
 refine pO Tryz.func314 λr h _ _=>?_;unfold F4 at h;refine S4 1 J<|S3 4 J<|z7 h λv1 hv1 h=>y0 J (c6E (f:=k8.Pv) hv1 J ⟨_,J⟩ ⟨_,J⟩ ⟨_,J⟩ J J a35 K4 (λ_=>J))<|S2 1 J<|b9 ?_;cases h;exact f1

theorem a5T{a0 a1}:PO Tryz.prog 250 [c9.Pv a0,k8.Pv a1] (Q5 a0 a1) λr=>.tup [c9.Pv r.1,.I r.2]:=by
 refine pO Tryz.func250 λr h _ _=>?_;unfold Q5 at h;refine S4 4 J<|g7<|dr [] w9 (by kernel_rfl) (by kernel_rfl)<|S7 1 J<|z7 h λv1 hv1 h=>d2 J (G7 J O1 J hv1) J<|S8 3 J ?_
 refine cN h (λhc h=>?_) λhc h=>?_
 ·refine S4 3 J ?_;refine b9 ?_;cases h;exact⟨J,[_,_],⟨oL J J J a5k a1H nl J,⟨J,tr⟩⟩,J,io⟩
 ·refine c5 ?_;refine dr [] w9 (by kernel_rfl) (by kernel_rfl)<|S7 3 J<|d2 J (G7 J O1 J hv1) J<|z7 h λv2 hv2 h=>d2f J (A5 J U9 J hv2) J<|S7 1 J<|d1n J (L1 (f:=k8.Pv) (l:=[a1]) J a35 K4 b0C J J nl J J) J<|z7 h λv3 hv3 h=>d3 J (b6L (f:=k8.Pv) hv3 J J (.inl ⟨_,J,J⟩) a35 K4 c76 b0C J (λ_=>J)) J J J<|S7 1 J<|F2 (x':=.agg [.sl 19,.I a0.Cap]) (cl':=false) J J (.inl J) c5c<|Q0<|S4 3 J<|b9 ?_
  cases h;exact⟨J,[_,_],⟨oL J J J a5k a1H nl J,⟨J,tr⟩⟩,J,io⟩

theorem b28{a0 a1}:PO Tryz.prog 168 [c9.Pv a0,k8.Pv a1] (a8B a0 a1) λr=>.tup [c9.Pv r.1,.I r.2]:=by
 refine pO Tryz.func168 λr h _ _=>?_;refine S4 4 J<|S3 2 J<|cF h a5T J J λv1 _ h=>S2 4 J<|b9 ?_;cases h;exact⟨J,[_,_],⟨oL J J J a5k a1H nl J,⟨J,tr⟩⟩,J,io⟩

theorem a6b{a0 a1}:PO Tryz.prog 106 [b7.Pv a0,.I a1] (S0 a0 a1) λr=>b7.Pv r:=by
 refine pO Tryz.func106 λr h _ _=>?_;refine S4 2 J<|S3 3 J<|cF h C4 J J λv1 _ h=>S2 6 J<|g7<|S3 3 J<|k7 J (λhg=>oL J J J b0x a4P nl J)<|z7 h λv2 hv2 h=>k7 J (λhg=>G7 J a5e (F8 (ct hg) J) (G8 hv2 hg))<|k7 J (λhg=>a1s (ct hg) J)<|y0 J (x8 J J J (λq=>U0 q))<|yN ?_;refine cN h (λhc h=>?_) λhc h=>?_
 ·refine S4 2 J ?_;refine b9 ?_;cases h;exact⟨J,[_],⟨oL J J J u6 p8 nl J,tr⟩,J,io⟩
 ·refine c5 ?_;refine S4 2 J<|S3 4 J<|cF h a0G J J λv3 _ h=>S2 5 J<|S3 5 J<|y0 J (u7 (cs:=[.I 1,.I a1,.I v1.1.Prog]) J b66 b0C J J J)<|cF h b28 J J λv4 _ h=>S2 5 J<|S3 2 J<|cF h a1U J J λv5 _ h=>S2 1 J<|b9 ?_;cases h;exact⟨J,[_],⟨oL J J J u6 p8 nl J,tr⟩,J,io⟩

theorem a9z{a0 a1}:PO Tryz.prog 170 [b7.Pv a0,.L iF a1] (V0 a0 a1) λr=>.L iF r:=by
 refine pO Tryz.func170 λr h _ _=>?_;refine S4 2 J<|sR<|c0H (KT:=Int) (VT:=Bool) (EK:=iF) (E:=PV.bool) 5000011 J J<|S2 1 J<|S4 1 J ?_;refine jq h (λj18=>St.of [(6,.sl 910006)] [(910006,⟨List.map iF j18,(List.map iF j18).length,true,1,true⟩)]) (λj18 h=>?_) λκ17 h=>?_
 ·refine S4 2 J ?_;refine b9 ?_;cases h;exact f1
 ·refine S3 1 J ?_;refine nL J l4<|S2 1 J<|g6<|lq h (λq=>St.of [(2,.ptr 2 0 0),(5,.mp 5000011),(6,.sl 910006),(12,.L iF a1),(13,.I (a1.length:Int)),(14,.I q.1)] [(5000011,⟨[.mapc (List.map (ent iF PV.bool) q.2.1)],0,false,0,false⟩),(2,vR (b7.Pv a0) 8),(910006,⟨List.map iF q.2.2,(List.map iF q.2.2).length,true,1,true⟩)]) (Wk.trans (I7 (t:=6) (l:=920006) (z:=1) J J) (WP (λl=>if l=910006 then 920006 else l))) λq24 x23 h hx16=>?_
  obtain⟨s20,s21,s22⟩:=q24;refine S4 1 J<|g7 ?_;refine cN h (λhc h=>?_) λhc h=>?_
  ·refine c5 ?_;refine jq h (λq=>St.of [(2,.ptr 2 0 0),(5,.mp 5000011),(6,.sl 38),(12,.L iF a1),(13,.I (a1.length:Int)),(14,.I s20)] [(38,⟨List.map iF q.1,(List.map iF q.1).length,true,1,true⟩),(5000011,⟨[.mapc (List.map (ent iF PV.bool) q.2)],0,false,0,false⟩),(2,vR (b7.Pv a0) 8)]) (λq31 h=>?_) λκ28 h=>?_
   ·obtain⟨j29,j30⟩:=q31;refine S6 2 J ?_;exact eL h (Wk.trans (p7 _ [38]) (WP (λl=>if l=910006 then 38 else l)))
   ·refine g6 ?_;refine sR<|iL h J J l4 o8 λv32 _ h=>S2 2 J<|S3 3 J<|cF h C4 J J λv33 _ h=>S2 6 J<|S3 3 J<|k7 J (λhg=>om (d:=.mp 5000011) J)<|k7 J (λhg=>mI J) ?_;rcases Bool.eq_false_or_eq_true ((v33.2==0)==true) with hg24 | hg24
    ·have h:=ifT h hg24;refine c7M (es:=s21) (k:=v32) (E:=PV.bool) (EK:=iF) (d:=.bool ((B5 s21 v32).getD (false:Bool))) (congrArg some hg24) (ct hg24) J (ct hg24) a21 (A8 L4) b9f J (lk1 _ _ _)<|y0 (congrArg some hg24) (a1s J J)<|y0 J (a6Q J J hg24)<|yN ?_;refine cN h (λhc h=>?_) λhc h=>?_
     ·refine S3 2 J ?_;refine a0R (es:=s21) (k:=v32) (v:=true) (E:=PV.bool) (EK:=iF) (.inl J) J J J J J J a21 (A8 L4)<|yN<|S5 2 J<|y0 J (L1 (f:=iF) (l:=[v32]) J l4 o8 C2 J J nl J J)<|z7 h λv34 hv25 h=>R2 J (O4 (f:=iF) hv25 J J J J J J (.inl ⟨_,J,J⟩) l4 o8 O7 C2 J (λ_=>J)) J J J<|S2 1 J ?_;exact eJ h (Wk.trans (p7 _ [38]) W)
     ·refine c5 ?_;exact eJ h (Wk.trans (p7 _ [910006]) (WP (λl=>if l=38 then 910006 else l)))
    ·have h:=ifF h hg24;refine a2d (congrArg some hg24)<|a2d (congrArg some hg24)<|y0 J (a8U J J hg24)<|yN ?_;refine I3 false J (λq=>nomatch q) (λ_=>?_);refine c5 ?_;exact eJ h (Wk.trans (p7 _ [910006]) (WP (λl=>if l=38 then 910006 else l)))
  ·refine p6 ?_;refine c7<|c7<|k9 ?_;have h:=xL hx16 h;exact eJ h (Wk.trans (p7 _ [910006]) W)

theorem a6d{a0 a1}:PO Tryz.prog 350 [.L iF a0,.I a1] (Q8 a0 a1) λr=>.I r:=by
 refine pO Tryz.func350 λr h _ _=>?_;refine S4 1 J ?_;refine jq h (λ_=>St.of [] []) (λq6 h=>?_) λκ5 h=>?_
 ·refine S4 1 J ?_;refine b9 ?_;cases h;exact f1
 ·refine S3 1 J ?_;refine nL J l4<|S2 1 J<|g6<|lq h (λs8=>St.of [(0,.L iF a0),(1,.I a1),(7,.I (a0.length:Int)),(8,.I s8)] []) W λs8 x9 h hx8=>S4 1 J<|g7 ?_;refine cN h (λhc h=>?_) λhc h=>?_
  ·refine c5 ?_;refine g7<|g6<|S4 2 J<|S3 3 J<|iL h J J l4 o8 λv10 _ h=>S2 2 J ?_;refine cN h (λhc h=>?_) λhc h=>?_
   ·refine S4 2 J ?_;refine b9 ?_;have h:=xL hx8 h;cases h;exact f1
   ·refine c5 ?_;refine S6 2 J ?_;exact eL h W
  ·refine p6 ?_;refine c7<|c7<|k9 ?_;have h:=xL hx8 h;exact eJ h W

theorem P6{a0 a1}:PO Tryz.prog 318 [.L iF a0,.I a1] (E9 a0 a1) λr=>.bool r:=by
 refine pO Tryz.func318 λr h _ _=>?_;refine S4 1 J<|S3 2 J<|cA h a6d J J λv1 _ h=>S2 2 J<|b9 ?_;cases h;exact f1

theorem b3s{a0 a1}:PO Tryz.prog 317 [g5.Pv a0,.rptr [.L iF a1]] (a0H a0 a1) λr=>.bool r:=by
 refine pO Tryz.func317 λr h _ _=>?_;unfold a0H at h;refine S4 2 J<|S3 3 J<|k7 J (λhg=>oF J b6h J)<|k7 J (λhg=>oS (ct hg) J J x6 J)<|k7 J (λhg=>s6 (ct hg) J J)<|y0 J (y8 J J J (λq=>eqT q))<|S1 1 J<|k7 J (λhg=>G3 J a7J J)<|k7 J (λhg=>oF J b6h J)<|k7 J (λhg=>oS (ct hg) J J x6 J)<|z7 h λv1 hv1 h=>k7 J (λhg=>G7 J P6 (F8 (ct hg) (F8 (ct hg) J)) (G8 hv1 hg))<|y0 J (y8 J J J (λq=>eqT q))<|S2 1 J<|b9 ?_;cases h;exact f1

theorem a3z{a0 a1}:PO Tryz.prog 316 [.L g5.Pv a0,.fn (.func 317) [.rptr [.L iF a1]]] (J7 a0 a1) λr=>.L iF r:=by
 refine pO Tryz.func316 λr h _ _=>?_;refine S4 1 J<|S4 1 J ?_;refine jq h (λj15=>St.of [(5,.sl 910005)] [(910005,⟨List.map iF j15,(List.map iF j15).length,true,1,true⟩)]) (λj15 h=>?_) λκ14 h=>?_
 ·refine S4 2 J ?_;refine b9 ?_;cases h;exact f1
 ·refine S3 1 J ?_;refine nL J R3<|S2 1 J<|g6<|lq h (λq=>St.of [(1,.fn (.func 317) [.rptr [.L iF a1]]),(5,.sl 910005),(8,.L g5.Pv a0),(9,.I (a0.length:Int)),(10,.I q.1)] [(910005,⟨List.map iF q.2,(List.map iF q.2).length,true,1,true⟩)]) (Wk.trans (I7 (t:=5) (l:=920005) (z:=1) J J) (WP (λl=>if l=910005 then 920005 else l))) λq20 x19 h hx14=>?_
  obtain⟨s17,s18⟩:=q20;refine S4 1 J<|g7 ?_;refine cN h (λhc h=>?_) λhc h=>?_
  ·refine c5 ?_;refine jq h (λj25=>St.of [(1,.fn (.func 317) [.rptr [.L iF a1]]),(5,.sl 21),(8,.L g5.Pv a0),(9,.I (a0.length:Int)),(10,.I s17)] [(21,⟨List.map iF j25,(List.map iF j25).length,true,1,true⟩)]) (λj25 h=>?_) λκ24 h=>?_
   ·refine S6 2 J ?_;exact eL h (Wk.trans (p7 _ [21]) (WP (λl=>if l=910005 then 21 else l)))
   ·refine g6 ?_;refine S3 1 J<|iL h J J R3 V7 λv26 _ h=>S2 4 J<|S3 2 J<|cA h b3s J J λv27 _ h=>yN ?_;refine cN h (λhc h=>?_) λhc h=>?_
    ·refine S5 2 J ?_;refine y0 J (L1 (f:=iF) (l:=[s17]) J l4 o8 C2 J J nl J J)<|z7 h λv28 hv21 h=>R2 J (O4 (f:=iF) hv21 J J J J J J (.inl ⟨_,J,J⟩) l4 o8 O7 C2 J (λ_=>J)) J J J<|S2 1 J ?_;exact eJ h (Wk.trans (p7 _ [21]) W)
    ·refine c5 ?_;exact eJ h (Wk.trans (p7 _ [910005]) (WP (λl=>if l=21 then 910005 else l)))
  ·refine p6 ?_;refine c7<|c7<|k9 ?_;have h:=xL hx14 h;exact eJ h (Wk.trans (p7 _ [910005]) W)

theorem b59{a0 a1}:PO Tryz.prog 253 [.L g5.Pv a0,.L iF a1] (a4D a0 a1) λr=>.tup [.L g5.Pv r.1,.L iF r.2]:=by
 refine pO Tryz.func253 λr h _ _=>?_;unfold a4D at h;refine S4 3 J<|S3 2 J<|z7 h λv1 hv1 h=>ycL J (A5 J a3z J hv1) J<|S2 1 J<|S3 1 J<|z7 h λv2 hv2 h=>ycN J (b6M J a7y J hv2) J J<|S2 1 J<|S4 1 J ?_;refine jq h (λq=>St.of [(7,.sl 15),(8,.sl 910008)] [(910008,⟨List.map iF q.1,(List.map iF q.1).length,true,1,true⟩),(15,⟨List.map g5.Pv q.2,0,true,3,true⟩)]) (λq24 h=>?_) λκ21 h=>?_
 ·obtain⟨j22,j23⟩:=q24;refine S4 4 J<|b9 ?_;cases h;exact f2
 ·refine S3 1 J ?_;refine nL J l4<|S2 1 J<|g6<|lq h (λq=>St.of [(7,.sl 15),(8,.sl 910008),(16,.L iF v1),(17,.I (v1.length:Int)),(18,.I q.1)] [(15,⟨List.map g5.Pv q.2.1,0,true,3,true⟩),(910008,⟨List.map iF q.2.2,(List.map iF q.2.2).length,true,1,true⟩)]) (Wk.trans (I7 (t:=8) (l:=920008) (z:=1) J J) (WP (λl=>if l=910008 then 920008 else l))) λq30 x29 h hx18=>?_
  obtain⟨s26,s27,s28⟩:=q30;refine S4 1 J<|g7 ?_;refine cN h (λhc h=>?_) λhc h=>?_
  ·refine c5 ?_;refine jq h (λq=>St.of [(7,.sl 15),(8,.sl 35),(16,.L iF v1),(17,.I (v1.length:Int)),(18,.I s26)] [(35,⟨List.map iF q.1,(List.map iF q.1).length,true,1,true⟩),(15,⟨List.map g5.Pv q.2,0,true,3,true⟩)]) (λq38 h=>?_) λκ35 h=>?_
   ·obtain⟨j36,j37⟩:=q38;refine S6 2 J ?_;exact eL h (Wk.trans (p7 _ [35]) (WP (λl=>if l=910008 then 35 else l)))
   ·refine g6 ?_;refine sR<|iL h J J l4 o8 λv39 _ h=>S2 2 J<|S3 2 J<|z7 h λv40 hv25 h=>y0 J (a3B (f:=g5.Pv) hv25 J J J J R3 V7 J)<|S1 1 J<|b1Z (f:=g5.Pv) (v:=(⟨v40.Target,false,v40.Call⟩:g5)) hv25 J J (.inl J) d3L<|yN<|S3 2 J<|z7 h λv41 hv26 h=>y0 J (a3B (f:=g5.Pv) hv26 J J J J R3 V7 J)<|S1 1 J<|y0 J (b4R (f:=g5.Pv) hv26 J J J x6 J)<|S2 1 J ?_;refine cN h (λhc h=>?_) λhc h=>?_
    ·refine S5 2 J ?_;refine y0 J (L1 (f:=iF) (l:=[v39]) J l4 o8 C2 J J nl J J)<|z7 h λv42 hv27 h=>R2 J (O4 (f:=iF) hv27 J J J J J J (.inl ⟨_,J,J⟩) l4 o8 O7 C2 J (λ_=>J)) J J J<|S2 1 J ?_;exact eJ h (Wk.trans (p7 _ [35]) W)
    ·refine c5 ?_;exact eJ h (Wk.trans (p7 _ [910008]) (WP (λl=>if l=35 then 910008 else l)))
  ·refine p6 ?_;refine c7<|c7<|k9 ?_;have h:=xL hx18 h;exact eJ h (Wk.trans (p7 _ [910008]) W)

theorem b1J{a0 a1}:PO Tryz.prog 171 [b7.Pv a0,.L iF a1] (a17 a0 a1) λr=>b7.Pv r:=by
 refine pO Tryz.func171 λr h _ _=>?_;refine S4 2 J<|S3 3 J<|cF h b59 J J λv1 _ h=>S2 5 J<|S4 3 J ?_;refine jq h (λj11=>St.of [(2,.ptr 2 0 0),(4,.ptr 4 0 0)] [(4,vR (.agg [.nl,.I 0,.I 0,.nl,.nl,.nl,.nl,.I 0]) 8),(2,vR (.agg [.L b8.Pv a0.S.S.a8,.I a0.S.S.Last,.I a0.S.Serial,.L iF a0.Roots,.L g5.Pv v1.1,.L c4.Pv a0.T,.L k8.Pv j11.L,.I j11.Cap]) 8)]) (λj11 h=>?_) λκ10 h=>?_
 ·refine S4 2 J ?_;refine b9 ?_;cases h;exact⟨J,[_],⟨oL J J J u6 p8 nl J,tr⟩,J,io⟩
 ·refine S3 1 J ?_;refine nL J l4<|S2 1 J<|g6<|lq h (λq=>St.of [(2,.ptr 2 0 0),(4,.ptr 4 0 0),(5,.L g5.Pv v1.1),(18,.L iF v1.2),(19,.I (v1.2.length:Int)),(20,.I q.1)] [(4,vR (.agg [.nl,.I 0,.I 0,.nl,.nl,.nl,.nl,.I 0]) 8),(2,vR (.agg [.L b8.Pv a0.S.S.a8,.I a0.S.S.Last,.I a0.S.Serial,.L iF a0.Roots,.L g5.Pv v1.1,.L c4.Pv a0.T,.L k8.Pv q.2.L,.I q.2.Cap]) 8)]) W λq16 x15 h hx11=>?_;obtain⟨s13,s14⟩:=q16;refine S4 1 J<|g7 ?_;refine cN h (λhc h=>?_) λhc h=>?_
  ·refine c5 ?_;refine g7<|g6<|sR<|iL h J J l4 o8 λv17 _ h=>S2 2 J<|b0k [] w9 (by kernel_rfl) (by kernel_rfl)<|S7 5 J<|z7 h λv18 hv13 h=>d0 J (D2 (f:=g5.Pv) (cs:=g5.Pc v18) hv13 J J R3 V7 J J) J<|S7 2 J<|d7 J (λ_ hN=>u7 (cs:=[.I 2,.I v17,.I v18.Call]) J b66 b0C J J J) J<|z7 h λv19 hv14 h=>d2f J (A5 J b28 J hv14) J<|S7 4 J<|F2 (x':=.agg [.L b8.Pv a0.S.S.a8,.I a0.S.S.Last,.I a0.S.Serial,.L iF a0.Roots,.L g5.Pv v1.1,.L c4.Pv a0.T,.L k8.Pv v19.1.L,.I v19.1.Cap]) (cl':=true) J J (.inr J) a1H<|Q0<|S6 2 J ?_
   exact eL h W
  ·refine p6 ?_;refine c7<|c7<|k9 ?_;have h:=xL hx11 h;exact eJ h W

theorem b8R{a0}:PO Tryz.prog 254 [.L iF a0] (a9n a0) λr=>.fn (.func 320) [.rptr [.L iF r]]:=by
 refine pO Tryz.func254 λr h _ _=>?_;unfold a9n at h;refine S4 2 J<|S4 2 J<|b9 ?_;cases h;exact f1

theorem b1U{a0}:PO Tryz.prog 173 [.L iF a0] (a34 a0) λr=>.L iF r:=by
 refine pO Tryz.func173 λr h _ _=>?_;refine S4 1 J<|S4 1 J ?_;refine jq h (λj10=>St.of [(3,.ptr 2001 0 0)] [(2001,vS (.sl 912501) 1),(912501,⟨List.map iF j10,(List.map iF j10).length,true,1,true⟩)]) (λj10 h=>?_) λκ9 h=>?_
 ·refine S4 2 J ?_;refine b9 ?_;cases h;exact f1
 ·refine S3 1 J ?_;refine cF h b8R J J λv11 _ h=>yN<|g6<|a3f (WPE (λl=>if l=2011 then 3 else l) [(3,.ptr 2011 0 0),(6,.fn (.func 320) [.rptr [.L iF v11]])] [(2011,vR (.nl) 1)]) ?_
  refine a11 (fn:=Tryz.f320) (N1:=20) J Tryz.func320 J J nl J c8f J J (λl17 e18 o19 hR20=>?_);refine S3 1 J<|nL J l4<|S2 1 J<|g6<|lq h (λq=>St.of [(1000003,.ptr 2011 0 0),(1000006,.fn (.func 320) [.rptr [.L iF v11]]),(0,.fn (.yield l17) []),(5,.L iF v11),(6,.I (v11.length:Int)),(7,.I q.1)] [(2011,vS (.sl 912511) 1),(912511,⟨List.map iF q.2,(List.map iF q.2).length,true,1,true⟩)]) (Wk.trans (b1Y (l0:=2011) (j:=0) (l:=922511) (z:=1) J J J J J) (WP (λl=>if l=912511 then 922511 else l))) λq16 x15 h hx23=>?_
  obtain⟨s13,s14⟩:=q16;refine S4 1 J<|g7 ?_;refine cN h (λhc h=>?_) λhc h=>?_
  ·refine c5 ?_;refine g7<|g6<|sR<|iL h J J l4 o8 λv17 _ h=>S2 2 J<|S3 3 J<|k7 J (λhg=>om (d:=.fn (.yield l17) []) J)<|k7 J (λhg=>mI J) ?_;rcases Bool.eq_false_or_eq_true ((v17 != 0)==true) with hg25 | hg25
   ·have h:=ifT h hg25;refine T1 (WPE (λl=>if l=2019 then 912511 else l) [(1000003,.ptr 2011 0 0),(1000006,.fn (.func 320) [.rptr [.L iF v11]]),(0,.fn (.yield l17) []),(5,.L iF v11),(6,.I (v11.length:Int)),(7,.I s13),(13,.bool (v17 != 0)),(14,.fn (.yield l17) []),(15,.I v17)] [(2011,vS (.sl 2019) 1),(2019,⟨List.map iF s14,(List.map iF s14).length,true,1,true⟩)]) ?_
    refine a7j hR20 (congrArg some hg25) J J J J J (λe26 o27 o28=>?_);refine S6 1 J ?_;refine⟨J,?_⟩;refine g6<|S5 2 J<|y0 J (L1 (f:=iF) (l:=[v17]) J l4 o8 C2 J J nl J J)<|z7 h λv18 hv29 h=>R2 J (O4 (f:=iF) hv29 J J J J J J (.inl ⟨_,J,J⟩) l4 o8 O7 C2 J (λ_=>J)) J J J<|S2 1 J ?_;refine⟨J,?_⟩;refine T1 (WPE (λl=>if l=2020 then 11 else l) [(1000003,.ptr 2011 0 0),(1000006,.fn (.func 320) [.rptr [.L iF v11]]),(0,.fn (.yield l17) []),(5,.L iF v11),(6,.I (v11.length:Int)),(7,.I s13),(13,.bool (v17 != 0)),(16,.bool true)] [(2011,vS (.sl 2020) 1),(2020,⟨List.map iF v18,s14.length,true,1,true⟩)])<|y0 (congrArg some hg25) (a1s J J)<|y0 J (a6Q J J hg25)<|yN ?_
    refine I3 false J (λq=>nomatch q) (λ_=>?_);refine c5<|S6 2 J ?_;exact eL h (Wk.trans (p7 _ [2020]) (WP (λl=>if l=912511 then 2020 else l)))
   ·have h:=ifF h hg25;refine a2d (congrArg some hg25)<|a2d (congrArg some hg25)<|y0 J (a8U J J hg25)<|yN ?_;refine I3 false J (λq=>nomatch q) (λ_=>?_);refine c5<|S6 2 J ?_;exact eL h (Wk.trans (p7 _ [912511]) W)
  ·refine p6 ?_;refine c7<|c7<|k9 ?_;refine .inl ⟨J,?_⟩;have h:=xL hx23 h;exact eJ h (Wk.trans (p7 _ [912511]) (WP (λl=>if l=2001 then 2011 else if l=912501 then 912511 else l)))

theorem b2d{a0 a1}:PO Tryz.prog 174 [.L c4.Pv a0,.L iF a1] (X5 a0 a1) λr=>.tup [.L c4.Pv r.1,.L iF r.2]:=by
 refine pO Tryz.func174 λr h _ _=>?_;refine S4 2 J<|S4 1 J ?_;refine jq h (λq=>St.of [(0,.L c4.Pv q.1),(6,.sl 910006)] [(910006,⟨List.map iF q.2,(List.map iF q.2).length,true,1,true⟩)]) (λq20 h=>?_) λκ17 h=>?_
 ·obtain⟨j18,j19⟩:=q20;refine S4 4 J<|b9 ?_;cases h;exact f2
 ·refine S3 1 J ?_;refine nL J l4<|S2 1 J<|g6<|lq h (λq=>St.of [(0,.L c4.Pv q.1),(6,.sl 910006),(12,.L iF a1),(13,.I (a1.length:Int)),(14,.I q.2.1)] [(910006,⟨List.map iF q.2.2,(List.map iF q.2.2).length,true,1,true⟩)]) (Wk.trans (I7 (t:=6) (l:=920006) (z:=1) J J) (WP (λl=>if l=910006 then 920006 else l))) λq26 x25 h hx14=>?_
  obtain⟨s22,s23,s24⟩:=q26;refine S4 1 J<|g7 ?_;refine cN h (λhc h=>?_) λhc h=>?_
  ·refine c5 ?_;refine jq h (λq=>St.of [(0,.L c4.Pv q.1),(6,.sl 31),(12,.L iF a1),(13,.I (a1.length:Int)),(14,.I s23)] [(31,⟨List.map iF q.2,(List.map iF q.2).length,true,1,true⟩)]) (λq33 h=>?_) λκ30 h=>?_
   ·obtain⟨j31,j32⟩:=q33;refine S6 2 J ?_;exact eL h (Wk.trans (p7 _ [31]) (WP (λl=>if l=910006 then 31 else l)))
   ·refine g6 ?_;refine sR<|iL h J J l4 o8 λv34 _ h=>S2 2 J<|S3 2 J<|cF h b00 J J λv35 _ h=>S2 7 J<|S4 2 J ?_;refine cN h (λhc h=>?_) λhc h=>?_
    ·refine S5 3 J ?_;refine y0 J (L1 (f:=iF) (l:=[v35.2.1]) J l4 o8 C2 J J nl J J)<|z7 h λv36 hv21 h=>R2 J (O4 (f:=iF) hv21 J J J J J J (.inl ⟨_,J,J⟩) l4 o8 O7 C2 J (λ_=>J)) J J J<|S2 2 J ?_;exact eJ h (Wk.trans (p7 _ [31]) W)
    ·refine c5 ?_;exact eJ h (Wk.trans (p7 _ [910006]) (WP (λl=>if l=31 then 910006 else l)))
  ·refine p6 ?_;refine c7<|c7<|k9 ?_;have h:=xL hx14 h;exact eJ h (Wk.trans (p7 _ [910006]) W)

theorem a65{a0 a1}:PO Tryz.prog 256 [c8.Pv a0,.I a1] (T4 a0 a1) λr=>.tup [c8.Pv r.1,.I r.2]:=by
 refine pO Tryz.func256 λr h _ _=>?_;refine S4 3 J<|S3 2 J<|cF h a2k J J λv1 _ h=>S2 6 J<|g7<|S4 2 J ?_;refine cN h (λhc h=>?_) λhc h=>?_
 ·refine S4 4 J ?_;refine b9 ?_;cases h;exact⟨J,[_,_],⟨oL J J J a3m a1G nl J,⟨J,tr⟩⟩,J,io⟩
 ·refine c5 ?_;refine dr [] w9 (by kernel_rfl) (by kernel_rfl)<|S7 2 J<|z7 h λv2 hv2 h=>d2 J (G7 J a7Z J hv2) J<|S7 1 J<|z7 h λv3 hv3 h=>d2 J (G7 J a9N J hv3) J<|S7 1 J<|d7 J (λ_ hN=>u7 (cs:=[.I 2,.I v3,.I v1.1.Serial,.I v1.1.Strong,.I v1.1.Weak,.I v1.1.Prog,.bool v1.1.Started,.L iF v1.1.Fields]) J b3w a8I J J J) J<|z7 h λv4 hv4 h=>d2f J (A5 J I5 J hv4) J<|F2 (x':=c8.Pv v4) (cl':=true) J J (.inr J) a1G<|S8 1 J<|b9 ?_
  cases h;exact⟨J,[_,_],⟨oL J J J a3m a1G nl J,⟨J,tr⟩⟩,J,io⟩

theorem b2J{a0 a1}:PO Tryz.prog 175 [b7.Pv a0,.I a1] (Y3 a0 a1) λr=>b7.Pv r:=by
 refine pO Tryz.func175 λr h _ _=>?_;refine S4 2 J<|S3 3 J<|cF h C4 J J λv1 _ h=>S2 6 J<|S3 1 J<|a6j (x':=.agg [.I v1.1.Serial,.I v1.1.Strong,.I v1.1.Weak,.I v1.1.Prog,.bool v1.1.Started,.nl]) (cl':=true) J J (.inl J) a9Z<|S1 1 J<|a6j (x':=.agg [.I v1.1.Serial,.I 0,.I v1.1.Weak,.I v1.1.Prog,.bool v1.1.Started,.nl]) (cl':=true) J J (.inl J) o8<|yN<|S3 4 J<|cF h a0G J J λv2 _ h=>S2 5 J<|S3 4 J<|cF h a65 J J λv3 _ h=>S2 6 J<|g7<|S4 3 J ?_;refine cN h (λhc h=>?_) λhc h=>?_
 ·refine S5 4 J ?_;refine cF h a18 J J λv4 _ h=>S2 6 J<|S4 2 J<|b9 ?_;cases h;exact⟨J,[_],⟨oL J J J u6 p8 nl J,tr⟩,J,io⟩
 ·refine c5 ?_;refine S4 2 J<|b9 ?_;cases h;exact⟨J,[_],⟨oL J J J u6 p8 nl J,tr⟩,J,io⟩

end Go.Proofs.YtjlokngooekbcaaGreat.Ok
