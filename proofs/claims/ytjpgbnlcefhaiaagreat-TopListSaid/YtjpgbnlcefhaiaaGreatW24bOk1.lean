/-
 The functions of the program do as the plain functions do.
-/
import Derived.Test.YtjpgbnlcefhaiaaGreatW24bPwC
import Derived.Test.YtjpgbnlcefhaiaaGreatW24bPwD
import Derived.Test.YtjpgbnlcefhaiaaGreatSrt
import Derived.Test.YtjpgbnlcefhaiaaGreatSrtI
import Derived.Test.YtjpgbnlcefhaiaaGreatW24bSh
import Derived.Test.YtjpgbnlcefhaiaaGreatProg
set_option linter.unusedVariables false
set_option linter.unusedSimpArgs false
set_option linter.unusedSectionVars false
namespace Go.Proofs.YtjpgbnlcefhaiaaGreat.Ok
open Go Go.Pw Go.Sh Go.Proofs
set_option maxRecDepth 100000
set_option maxHeartbeats 4000000
abbrev _root_.Go.Sh.m7.Pc(x:m7):List PV:=[.I x.Serial,.I x.Strong,.I x.Weak,.I x.Prog,.bool x.Started,.L iF x.Fields]
abbrev _root_.Go.Sh.m7.Pv(x:m7):PV:=.agg x.Pc
abbrev _root_.Go.Sh.b7.Pc(x:b7):List PV:=[.I x.State,.I x.Gen,.I x.Val.Serial,.I x.Val.Strong,.I x.Val.Weak,.I x.Val.Prog,.bool x.Val.Started,.L iF x.Val.Fields]
abbrev _root_.Go.Sh.b7.Pv(x:b7):PV:=.agg x.Pc
abbrev _root_.Go.Sh.e6.Pc(x:e6):List PV:=[.I x.Target,.bool x.Intact,.I x.Call]
abbrev _root_.Go.Sh.e6.Pv(x:e6):PV:=.agg x.Pc
abbrev _root_.Go.Sh.b8.Pc(x:b8):List PV:=[.I x.State,.I x.Key,.I x.Val]
abbrev _root_.Go.Sh.b8.Pv(x:b8):PV:=.agg x.Pc
abbrev _root_.Go.Sh.k7.Pc(x:k7):List PV:=[.I x.Kind,.I x.At,.I x.Prog]
abbrev _root_.Go.Sh.k7.Pv(x:k7):PV:=.agg x.Pc
abbrev _root_.Go.Sh.g8.Pc(x:g8):List PV:=[.I x.Kind,.I x.A,.I x.B,.I x.C]
abbrev _root_.Go.Sh.g8.Pv(x:g8):PV:=.agg x.Pc
abbrev _root_.Go.Sh.g7.Pc(x:g7):List PV:=[fvE x.part,.I x.least,.I x.most,.I x.e]
abbrev _root_.Go.Sh.g7.Pv(x:g7):PV:=.agg x.Pc
abbrev _root_.Go.Sh.c7.Pc(x:c7):List PV:=[.L b7.Pv x.a8,.I x.Last]
abbrev _root_.Go.Sh.c7.Pv(x:c7):PV:=.agg x.Pc
abbrev _root_.Go.Sh.a7.Pc(x:a7):List PV:=[.L b7.Pv x.S.a8,.I x.S.Last,.I x.Serial]
abbrev _root_.Go.Sh.a7.Pv(x:a7):PV:=.agg x.Pc
abbrev _root_.Go.Sh.c9.Pc(x:c9):List PV:=[.L k7.Pv x.L,.I x.Cap]
abbrev _root_.Go.Sh.c9.Pv(x:c9):PV:=.agg x.Pc
abbrev _root_.Go.Sh.b6.Pc(x:b6):List PV:=[.L b7.Pv x.S.S.a8,.I x.S.S.Last,.I x.S.Serial,.L iF x.Roots,.L e6.Pv x.a8,.L b8.Pv x.T,.L k7.Pv x.Q.L,.I x.Q.Cap]
abbrev _root_.Go.Sh.b6.Pv(x:b6):PV:=.agg x.Pc
abbrev _root_.Go.Sh.c8.Pc(x:c8):List PV:=[.L b7.Pv x.X.S.S.a8,.I x.X.S.S.Last,.I x.X.S.Serial,.L iF x.X.Roots,.L e6.Pv x.X.a8,.L b8.Pv x.X.T,.L k7.Pv x.X.Q.L,.I x.X.Q.Cap,.L (Ls g8.Pv) x.Progs]
abbrev _root_.Go.Sh.c8.Pv(x:c8):PV:=.agg x.Pc
abbrev _root_.Go.Sh.l5.Pc(x:l5):List PV:=[.I x.V,.I x.E]
abbrev _root_.Go.Sh.l5.Pv(x:l5):PV:=.agg x.Pc
abbrev _root_.Go.Sh.o8.Pc(x:o8):List PV:=[.L b7.Pv x.x.S.S.a8,.I x.x.S.S.Last,.I x.x.S.Serial,.L iF x.x.Roots,.L e6.Pv x.x.a8,.L b8.Pv x.x.T,.L k7.Pv x.x.Q.L,.I x.x.Q.Cap,.I x.o.Kind,.I x.o.A,.I x.o.B,.I x.o.C]
abbrev _root_.Go.Sh.o8.Pv(x:o8):PV:=.agg x.Pc
abbrev _root_.Go.Sh.G2.Pc(x:G2):List PV:=[.I x.r,.I x.h]
abbrev _root_.Go.Sh.G2.Pv(x:G2):PV:=.agg x.Pc
abbrev _root_.Go.Sh.E8.Pc(x:E8):List PV:=[.I x.h,.I x.k,.I x.v]
abbrev _root_.Go.Sh.E8.Pv(x:E8):PV:=.agg x.Pc
abbrev _root_.Go.Sh.G1.Pc(x:G1):List PV:=[.L b8.Pv x.t]
abbrev _root_.Go.Sh.G1.Pv(x:G1):PV:=.agg x.Pc
abbrev _root_.Go.Sh.m9.Pc(x:m9):List PV:=[.I x.Key,.I x.Val]
abbrev _root_.Go.Sh.m9.Pv(x:m9):PV:=.agg x.Pc
abbrev _root_.Go.Sh.j5.Pc(x:j5):List PV:=[.L iF x.L,.I x.Cap]
abbrev _root_.Go.Sh.j5.Pv(x:j5):PV:=.agg x.Pc
def a86(t:Nat):Nat:=if t=85 then 4 else if t=89 then 0 else if t=93 then 1 else 0
theorem K1:K0 Tryz.prog 3=some false:=by kernel_rfl
theorem b7i:K0 Tryz.prog 4=some false:=by kernel_rfl
theorem c8g:K0 Tryz.prog 25=some false:=by kernel_rfl
theorem a2N:K0 Tryz.prog 27=some true:=by kernel_rfl
theorem a5C:K0 Tryz.prog 29=some true:=by kernel_rfl
theorem b8Q:K0 Tryz.prog 30=some false:=by kernel_rfl
theorem c8h:K0 Tryz.prog 31=some false:=by kernel_rfl
theorem b5v:K0 Tryz.prog 32=some false:=by kernel_rfl
theorem a4H:K0 Tryz.prog 35=some true:=by kernel_rfl
theorem p6:K0 Tryz.prog 37=some true:=by kernel_rfl
theorem W0:K0 Tryz.prog 40=some true:=by kernel_rfl
theorem a85:K0 Tryz.prog 45=some false:=by kernel_rfl
theorem a5D:K0 Tryz.prog 47=some true:=by kernel_rfl
theorem b2O:K0 Tryz.prog 54=some true:=by kernel_rfl
theorem c2A:K0 Tryz.prog 57=some true:=by kernel_rfl
theorem b5w:K0 Tryz.prog 65=some true:=by kernel_rfl
theorem a3a:K0 Tryz.prog 144=some true:=by kernel_rfl
theorem a1j:K0 Tryz.prog 154=some true:=by kernel_rfl
theorem c0h:K0 Tryz.prog 201=some false:=by kernel_rfl
theorem a7S:K0 Tryz.prog 292=some true:=by kernel_rfl
theorem Y5:N8 Tryz.prog 3=some 8:=by kernel_rfl
theorem c8i:N8 Tryz.prog 47=some 16:=by kernel_rfl
theorem c2B:N8 Tryz.prog 56=some 80:=by kernel_rfl
theorem c5G:N8 Tryz.prog 154=some 24:=by kernel_rfl
theorem c0i:N8 Tryz.prog 183=some 24:=by kernel_rfl
theorem c0j:N8 Tryz.prog 256=some 24:=by kernel_rfl
theorem c0k:N8 Tryz.prog 308=some 16:=by kernel_rfl
theorem b0V:z7 Tryz.prog 22=some 30:=by kernel_rfl
theorem Q8:z7 Tryz.prog 25=some 56:=by kernel_rfl
theorem n0:z7 Tryz.prog 30=some 3:=by kernel_rfl
theorem W1:z7 Tryz.prog 31=some 183:=by kernel_rfl
theorem a0R:z7 Tryz.prog 32=some 256:=by kernel_rfl
theorem a6Z:z7 Tryz.prog 33=some 154:=by kernel_rfl
theorem b2P:z7 Tryz.prog 38=some 63:=by kernel_rfl
theorem a4I:z7 Tryz.prog 41=some 47:=by kernel_rfl
theorem b0W:z7 Tryz.prog 63=some 65:=by kernel_rfl
theorem a0b:z7 Tryz.prog 138=some 144:=by kernel_rfl
theorem a5E:z7 Tryz.prog 305=some 308:=by kernel_rfl
theorem c2C:a0U Tryz.prog 27 0=some (0,25):=by kernel_rfl
theorem b7j:a0U Tryz.prog 37 1=some (3,30):=by kernel_rfl
theorem c2D:a0U Tryz.prog 37 2=some (4,31):=by kernel_rfl
theorem c2E:a0U Tryz.prog 37 4=some (6,35):=by kernel_rfl
theorem a3B:a0U Tryz.prog 47 0=some (0,3):=by kernel_rfl
theorem b7k:a0U Tryz.prog 47 1=some (1,45):=by kernel_rfl
theorem c2F:a0U Tryz.prog 54 1=some (1,3):=by kernel_rfl
theorem c2G:a0U Tryz.prog 54 2=some (2,3):=by kernel_rfl
theorem b7l:a0U Tryz.prog 54 4=some (4,4):=by kernel_rfl
theorem b7m:a0U Tryz.prog 56 0=some (0,3):=by kernel_rfl
theorem c2H:a0U Tryz.prog 56 2=some (2,54):=by kernel_rfl
theorem c2I:a0U Tryz.prog 65 0=some (0,3):=by kernel_rfl
theorem c1B:a0U Tryz.prog 144 2=some (2,3):=by kernel_rfl
theorem b4H:a0U Tryz.prog 183 0=some (0,3):=by kernel_rfl
theorem c1C:a0U Tryz.prog 183 1=some (1,4):=by kernel_rfl
theorem c1D:a0U Tryz.prog 256 1=some (1,3):=by kernel_rfl
theorem c1E:a0U Tryz.prog 308 0=some (0,3):=by kernel_rfl
theorem b4I:a0U Tryz.prog 308 1=some (1,3):=by kernel_rfl
theorem c2J:c5j Tryz.prog 3=some .i64:=by kernel_rfl
theorem c8j:A2 Tryz.prog 35:=kC Tryz.func35 J
theorem c8k:A2 Tryz.prog 48:=kC Tryz.func48 J
theorem c8l:A2 Tryz.prog 51:=kC Tryz.func51 J
theorem c8m:A2 Tryz.prog 52:=kC Tryz.func52 J
theorem c2K:A2 Tryz.prog 86:=kC Tryz.func86 J
theorem c8n:A2 Tryz.prog 92:=kC Tryz.func92 J
theorem c5H:A2 Tryz.prog 167:=kC Tryz.func167 J
theorem c5I:A2 Tryz.prog 174:=kC Tryz.func174 J
theorem c5J:A2 Tryz.prog 184:=kC Tryz.func184 J
theorem c5K:A2 Tryz.prog 195:=kC Tryz.func195 J
theorem c5L:A2 Tryz.prog 197:=kC Tryz.func197 J
theorem c5M:A2 Tryz.prog 221:=kC Tryz.func221 J
theorem c5N:A2 Tryz.prog 223:=kC Tryz.func223 J
theorem c0l:A2 Tryz.prog 224:=kC Tryz.func224 J
theorem c0m:A2 Tryz.prog 227:=kC Tryz.func227 J
theorem c5O:A2 Tryz.prog 247:=kC Tryz.func247 J
theorem c0n:A2 Tryz.prog 248:=kC Tryz.func248 J
theorem Y6:b0J Tryz.prog 109=some (3,107):=by kernel_rfl
theorem b2Q:b0J Tryz.prog 123=some (3,3):=by kernel_rfl
theorem Q9:b0J Tryz.prog 140=some (3,138):=by kernel_rfl
theorem a2u:b0J Tryz.prog 201=some (3,4):=by kernel_rfl
theorem c2L:D1 Tryz.prog 27=some (λi=>(#[(0,1),(1,1)]:Array (Nat × Nat))[i]?):=by kernel_rfl
theorem c2M:D1 Tryz.prog 29=some (λi=>(#[(0,2),(2,1)]:Array (Nat × Nat))[i]?):=by kernel_rfl
theorem c8o:D1 Tryz.prog 35=some (λi=>(#[(0,1),(1,1)]:Array (Nat × Nat))[i]?):=by kernel_rfl
theorem c2N:D1 Tryz.prog 37=some (λi=>(#[(0,3),(3,1),(4,1),(5,1),(6,2)]:Array (Nat × Nat))[i]?):=by kernel_rfl
theorem b8R:D1 Tryz.prog 40=some (λi=>(#[(0,8),(8,1)]:Array (Nat × Nat))[i]?):=by kernel_rfl
theorem c8p:D1 Tryz.prog 47=some (λi=>(#[(0,1),(1,1)]:Array (Nat × Nat))[i]?):=by kernel_rfl
theorem c8q:D1 Tryz.prog 54=some (λi=>(#[(0,1),(1,1),(2,1),(3,1),(4,1),(5,1)]:Array (Nat × Nat))[i]?):=by kernel_rfl
theorem b5y:D1 Tryz.prog 56=some (λi=>(#[(0,1),(1,1),(2,6)]:Array (Nat × Nat))[i]?):=by kernel_rfl
theorem b8S:D1 Tryz.prog 57=some (λi=>some (i*1,1)):=by kernel_rfl
theorem b8T:D1 Tryz.prog 65=some (λi=>(#[(0,1),(1,1),(2,1),(3,1)]:Array (Nat × Nat))[i]?):=by kernel_rfl
theorem c8r:D1 Tryz.prog 85=some (λi=>(#[(0,4)]:Array (Nat × Nat))[i]?):=by kernel_rfl
theorem c8s:D1 Tryz.prog 89=some (λi=>(#[]:Array (Nat × Nat))[i]?):=by kernel_rfl
theorem c8t:D1 Tryz.prog 93=some (λi=>(#[(0,1)]:Array (Nat × Nat))[i]?):=by kernel_rfl
theorem c5P:D1 Tryz.prog 113=some (λi=>(#[(0,8),(8,4)]:Array (Nat × Nat))[i]?):=by kernel_rfl
theorem a1k:D1 Tryz.prog 144=some (λi=>(#[(0,1),(1,1),(2,1),(3,1)]:Array (Nat × Nat))[i]?):=by kernel_rfl
theorem b5x:D1 Tryz.prog 154=some (λi=>(#[(0,1),(1,1),(2,1)]:Array (Nat × Nat))[i]?):=by kernel_rfl
theorem c5Q:D1 Tryz.prog 183=some (λi=>(#[(0,1),(1,1),(2,1)]:Array (Nat × Nat))[i]?):=by kernel_rfl
theorem c5R:D1 Tryz.prog 234=some (λi=>(#[(0,1),(1,1),(2,1)]:Array (Nat × Nat))[i]?):=by kernel_rfl
theorem c5S:D1 Tryz.prog 242=some (λi=>(#[(0,1)]:Array (Nat × Nat))[i]?):=by kernel_rfl
theorem c0o:D1 Tryz.prog 256=some (λi=>(#[(0,1),(1,1),(2,1)]:Array (Nat × Nat))[i]?):=by kernel_rfl
theorem c5T:D1 Tryz.prog 261=some (λi=>(#[(0,1)]:Array (Nat × Nat))[i]?):=by kernel_rfl
theorem c5U:D1 Tryz.prog 265=some (λi=>(#[(0,1),(1,1)]:Array (Nat × Nat))[i]?):=by kernel_rfl
theorem c5V:D1 Tryz.prog 292=some (λi=>(#[(0,1),(1,1)]:Array (Nat × Nat))[i]?):=by kernel_rfl
theorem c0p:D1 Tryz.prog 308=some (λi=>(#[(0,1),(1,1)]:Array (Nat × Nat))[i]?):=by kernel_rfl
theorem b8U:b09 Tryz.prog 57=some [1,1,1,1]:=by kernel_rfl
theorem c2O:a9l Tryz.prog 85=true:=by kernel_rfl
theorem c2P:a9l Tryz.prog 89=true:=by kernel_rfl
theorem c2Q:a9l Tryz.prog 93=true:=by kernel_rfl
theorem c2R:b93 Tryz.prog 57=some (4,3):=by kernel_rfl
theorem s7:o9 Tryz.prog 3=some 1:=by kernel_rfl
theorem d0v:o9 Tryz.prog 4=some 1:=by kernel_rfl
theorem a1l:o9 Tryz.prog 27=some 2:=by kernel_rfl
theorem a5F:o9 Tryz.prog 29=some 3:=by kernel_rfl
theorem a60:o9 Tryz.prog 30=some 1:=by kernel_rfl
theorem c2S:o9 Tryz.prog 33=some 1:=by kernel_rfl
theorem a1m:o9 Tryz.prog 35=some 2:=by kernel_rfl
theorem o0:o9 Tryz.prog 37=some 8:=by kernel_rfl
theorem C9:o9 Tryz.prog 40=some 9:=by kernel_rfl
theorem K6:o9 Tryz.prog 47=some 2:=by kernel_rfl
theorem a61:o9 Tryz.prog 54=some 6:=by kernel_rfl
theorem a0r:o9 Tryz.prog 56=some 8:=by kernel_rfl
theorem c2T:o9 Tryz.prog 57=some 4:=by kernel_rfl
theorem c2U:o9 Tryz.prog 63=some 1:=by kernel_rfl
theorem a87:o9 Tryz.prog 65=some 4:=by kernel_rfl
theorem c8u:o9 Tryz.prog 89=some 0:=by kernel_rfl
theorem I3:o9 Tryz.prog 144=some 4:=by kernel_rfl
theorem K2:o9 Tryz.prog 154=some 3:=by kernel_rfl
theorem X4:o9 Tryz.prog 183=some 3:=by kernel_rfl
theorem a0M:o9 Tryz.prog 256=some 3:=by kernel_rfl
theorem a4e:o9 Tryz.prog 292=some 2:=by kernel_rfl
theorem a9F:o9 Tryz.prog 308=some 2:=by kernel_rfl
theorem J2:Tryz.prog.underlying 3=some (.int .i64):=by kernel_rfl
theorem d0w:Tryz.prog.underlying 4=some (.bool):=by kernel_rfl
theorem c2V:Tryz.prog.underlying 5=some (.int .u8):=by kernel_rfl
theorem F0:y8 Tryz.prog 3=some ((.I 0)):=by kernel_rfl
theorem b7n:y8 Tryz.prog 4=some ((.bool false)):=by kernel_rfl
theorem c2W:y8 Tryz.prog 27=some ((.agg #[(.slice none 0 0),(.I 0)])):=by kernel_rfl
theorem c2X:y8 Tryz.prog 29=some ((.agg #[(.slice none 0 0),(.I 0),(.I 0)])):=by kernel_rfl
theorem b5A:y8 Tryz.prog 30=some ((.slice none 0 0)):=by kernel_rfl
theorem c8v:y8 Tryz.prog 35=some ((.agg #[(.slice none 0 0),(.I 0)])):=by kernel_rfl
theorem c2Y:y8 Tryz.prog 37=some ((.agg #[(.slice none 0 0),(.I 0),(.I 0),(.slice none 0 0),(.slice none 0 0),(.slice none 0 0),(.slice none 0 0),(.I 0)])):=by kernel_rfl
theorem b8V:y8 Tryz.prog 40=some ((.agg #[(.slice none 0 0),(.I 0),(.I 0),(.slice none 0 0),(.slice none 0 0),(.slice none 0 0),(.slice none 0 0),(.I 0),(.slice none 0 0)])):=by kernel_rfl
theorem b8W:y8 Tryz.prog 47=some ((.agg #[(.I 0),(.I 0)])):=by kernel_rfl
theorem c8w:y8 Tryz.prog 54=some ((.agg #[(.I 0),(.I 0),(.I 0),(.I 0),(.bool false),(.slice none 0 0)])):=by kernel_rfl
theorem b0X:y8 Tryz.prog 56=some ((.agg #[(.I 0),(.I 0),(.I 0),(.I 0),(.I 0),(.I 0),(.bool false),(.slice none 0 0)])):=by kernel_rfl
theorem b8X:y8 Tryz.prog 57=some ((.agg #[(.I 0),(.I 0),(.I 0),(.I 0)])):=by kernel_rfl
theorem b8Y:y8 Tryz.prog 65=some ((.agg #[(.I 0),(.I 0),(.I 0),(.I 0)])):=by kernel_rfl
theorem c2Z:y8 Tryz.prog 85=some ((.agg #[(.I 0),(.I 0),(.I 0),(.I 0)])):=by kernel_rfl
theorem c20:y8 Tryz.prog 89=some ((.agg #[])):=by kernel_rfl
theorem c21:y8 Tryz.prog 93=some ((.agg #[(.I 0)])):=by kernel_rfl
theorem c5W:y8 Tryz.prog 107=some (.nilFunc):=by kernel_rfl
theorem c5X:y8 Tryz.prog 113=some ((.agg #[(.slice none 0 0),(.I 0),(.I 0),(.slice none 0 0),(.slice none 0 0),(.slice none 0 0),(.slice none 0 0),(.I 0),(.I 0),(.I 0),(.I 0),(.I 0)])):=by kernel_rfl
theorem c5Y:y8 Tryz.prog 138=some ((.slice none 0 0)):=by kernel_rfl
theorem H5:y8 Tryz.prog 144=some ((.agg #[.nilFunc,(.I 0),(.I 0),(.I 0)])):=by kernel_rfl
theorem a9G:y8 Tryz.prog 154=some ((.agg #[(.I 0),(.I 0),(.I 0)])):=by kernel_rfl
theorem b5z:y8 Tryz.prog 183=some ((.agg #[(.I 0),(.bool false),(.I 0)])):=by kernel_rfl
theorem c5Z:y8 Tryz.prog 234=some ((.agg #[(.I 0),(.I 0),(.I 0)])):=by kernel_rfl
theorem c50:y8 Tryz.prog 242=some ((.agg #[(.slice none 0 0)])):=by kernel_rfl
theorem b2k:y8 Tryz.prog 256=some ((.agg #[(.I 0),(.I 0),(.I 0)])):=by kernel_rfl
theorem c51:y8 Tryz.prog 261=some ((.agg #[.nilFunc])):=by kernel_rfl
theorem c52:y8 Tryz.prog 265=some ((.agg #[(.I 0),(.I 0)])):=by kernel_rfl
theorem c53:y8 Tryz.prog 292=some ((.agg #[(.slice none 0 0),(.I 0)])):=by kernel_rfl
theorem a7T:y8 Tryz.prog 308=some ((.agg #[(.I 0),(.I 0)])):=by kernel_rfl
theorem u5:Tryz.prog.follows .mixedOrders=true:=by kernel_rfl
def tb:TB:=⟨[((27,0),(0,25)),((27,1),(1,3)),((29,0),(0,27)),((29,1),(2,3)),((35,0),(0,33)),((35,1),(1,3)),((37,0),(0,29)),((37,1),(3,30)),((37,2),(4,31)),((37,3),(5,32)),((37,4),(6,35)),((40,0),(0,37)),((40,1),(8,38)),((47,0),(0,3)),((47,1),(1,45)),((54,0),(0,3)),((54,1),(1,3)),((54,2),(2,3)),((54,3),(3,3)),((54,4),(4,4)),((54,5),(5,30)),((56,0),(0,3)),((56,1),(1,3)),((56,2),(2,54)),((65,0),(0,3)),((65,1),(1,3)),((65,2),(2,3)),((65,3),(3,3)),((85,0),(0,65)),((93,0),(0,3)),((113,0),(0,37)),((113,1),(8,65)),((144,0),(0,142)),((144,1),(1,3)),((144,3),(3,45)),((154,0),(0,3)),((154,1),(1,3)),((154,2),(2,3)),((183,0),(0,3)),((183,1),(1,4)),((183,2),(2,3)),((234,0),(0,3)),((234,1),(1,3)),((234,2),(2,3)),((242,0),(0,32)),((256,0),(0,3)),((256,1),(1,3)),((256,2),(2,3)),((261,0),(0,259)),((265,0),(0,3)),((265,1),(1,3)),((292,0),(0,30)),((292,1),(1,3)),((308,0),(0,3)),((308,1),(1,3))],[(3,false),(4,false),(25,false),(27,true),(29,true),(30,false),(31,false),(32,false),(33,false),(35,true),(37,true),(38,false),(40,true),(45,false),(47,true),(54,true),(56,true),(57,true),(63,false),(65,true),(113,true),(123,false),(142,false),(144,true),(154,true),(183,true),(201,false),(256,true),(259,false),(261,true),(292,true),(305,false),(308,true),(316,false)],[(3,1),(4,1),(25,1),(27,2),(29,3),(30,1),(31,1),(32,1),(35,2),(37,8),(40,9),(45,1),(47,2),(54,6),(56,8),(57,4),(65,4),(85,4),(93,1),(113,12),(123,1),(144,4),(154,3),(183,3),(201,1),(256,3),(261,1),(292,2),(305,1),(308,2)],[(3,.I 0),(4,.bool false),(27,.agg [.M9 true (List.map b7.Pv []),.I 0]),(29,.agg [.M9 true (List.map b7.Pv []),.I 0,.I 0]),(30,.M9 true (List.map iF [])),(32,.M9 true (List.map b8.Pv [])),(35,.agg [.M9 true (List.map k7.Pv []),.I 0]),(37,.agg [.M9 true (List.map b7.Pv []),.I 0,.I 0,.M9 true (List.map iF []),.M9 true (List.map e6.Pv []),.M9 true (List.map b8.Pv []),.M9 true (List.map k7.Pv []),.I 0]),(40,.agg [.M9 true (List.map b7.Pv []),.I 0,.I 0,.M9 true (List.map iF []),.M9 true (List.map e6.Pv []),.M9 true (List.map b8.Pv []),.M9 true (List.map k7.Pv []),.I 0,.M9 true (List.map (Ls g8.Pv) [])]),(45,.I 0),(47,.agg [.I 0,.I 0]),(54,.agg [.I 0,.I 0,.I 0,.I 0,.bool false,.M9 true (List.map iF [])]),(56,.agg [.I 0,.I 0,.I 0,.I 0,.I 0,.I 0,.bool false,.M9 true (List.map iF [])]),(57,.agg [.I 0,.I 0,.I 0,.I 0]),(65,.agg [.I 0,.I 0,.I 0,.I 0]),(85,.agg [.I 0,.I 0,.I 0,.I 0]),(89,.agg []),(93,.agg [.I 0]),(123,.abs b8O),(144,.agg [.nilfn,.I 0,.I 0,.I 0]),(154,.agg [.I 0,.I 0,.I 0]),(183,.agg [.I 0,.bool false,.I 0]),(201,.abs b8O),(256,.agg [.I 0,.I 0,.I 0]),(261,.agg [.nilfn]),(292,.agg [.M9 true (List.map iF []),.I 0]),(305,.M9 true (List.map m9.Pv [])),(308,.agg [.I 0,.I 0])]⟩
theorem Tb:TB.Ok Tryz.prog tb:=⟨by kernel_rfl,by kernel_rfl,by kernel_rfl,by kernel_rfl⟩
section
variable{X:Ctx}{ops:Array Oper}{K:Ctx→St→Prop}{i n:Nat}{l l':List Oper}{env env':Nat→PV}{σ σ':Nat→Option Row}{Q:PX→Ctx→St→Prop}{y:Code}{KD:St→Prop}{bar:List Nat}
theorem S1(n:Nat)(h:run tb n l env σ=some (l',env',σ'))(k:Sq X ops (i+n) l' K ⟨env',σ'⟩)(hb:TB.Ok X.P tb:=by exact Tb):Sq X ops i l K ⟨env,σ⟩:=seg hb n h k
theorem S2(n:Nat)(h:run tb n l env σ=some ([],env',σ'))(k:K X ⟨env',σ'⟩)(hb:TB.Ok X.P tb:=by exact Tb):Sq X ops i l K ⟨env,σ⟩:=seg hb n h (yN k)
theorem S3{id:Nat}(n:Nat)(h:run tb n l env σ=some (l',env',σ'))(k:Sq X l.toArray (0+n) l' (λX' s=>T2 X' y Q s) ⟨env',σ'⟩)(hd:a2y X.N l.toArray=true:=by kernel_rfl)(hb:TB.Ok X.P tb:=by exact Tb):T2 X (.seq (.region id l.toArray false) y) Q ⟨env,σ⟩:=sr hd (seg hb n h k)
theorem S4{id:Nat}(n:Nat)(h:run tb n l env σ=some ([],env',σ'))(k:T2 X y Q ⟨env',σ'⟩)(hd:a2y X.N l.toArray=true:=by kernel_rfl)(hb:TB.Ok X.P tb:=by exact Tb):T2 X (.seq (.region id l.toArray false) y) Q ⟨env,σ⟩:=sr hd (seg hb n h (yN k))
theorem S5{id:Nat}(n:Nat)(h:run tb n l env σ=some (l',env',σ'))(k:Sq X l.toArray (0+n) l' (Q .normal) ⟨env',σ'⟩)(hd:a2y X.N l.toArray=true:=by kernel_rfl)(hb:TB.Ok X.P tb:=by exact Tb):T2 X (.region id l.toArray false) Q ⟨env,σ⟩:=sr1 hd (seg hb n h k)
theorem S6{id:Nat}(n:Nat)(h:run tb n l env σ=some ([],env',σ'))(k:Q .normal X ⟨env',σ'⟩)(hd:a2y X.N l.toArray=true:=by kernel_rfl)(hb:TB.Ok X.P tb:=by exact Tb):T2 X (.region id l.toArray false) Q ⟨env,σ⟩:=sr1 hd (seg hb n h (yN k))
theorem S7(n:Nat)(h:c7d tb bar n i l env σ=some (l',env',σ'))(k:Ex X.P ops bar true (i+n) l' ⟨env',σ'⟩ KD)(hb:TB.Ok X.P tb:=by exact Tb):Ex X.P ops bar true i l ⟨env,σ⟩ KD:=dG hb n h k
theorem S8(n:Nat)(h:c7d tb bar n i l env σ=some ([],env',σ'))(k:KD ⟨env',σ'⟩)(hb:TB.Ok X.P tb:=by exact Tb):Ex X.P ops bar true i l ⟨env,σ⟩ KD:=dG hb n h k
end
theorem c96:b5u Tryz.prog (Tryz.sortF_ren.f 6):=c2m Tryz.sortF
theorem c7j:b2j Tryz.prog (Tryz.sortI_ren.f 5):=b90 Tryz.sortI
theorem b4l{a0}:PO Tryz.prog 59 [g8.Pv a0] (a1Z a0) λr=>.bool r:=by
 refine pO Tryz.func59 λr h _ _=>?_;unfold a1Z at h;refine S4 2 J<|S3 4 J<|n9 J (λhg=>oF J c2I J)<|n9 J (λhg=>oS (ct hg) J J K1 J)<|n9 J (λhg=>D7 (ct hg) J J)<|y0 J (D9 J J J (λq=>eqT q))<|S2 1 J<|b9 ?_;cases h;exact f1

theorem x8:PO Tryz.prog 113 [.fn (.func 114) []] (W5) λr=>g7.Pv r:=by
 refine pO Tryz.func113 λr h _ _=>?_;unfold W5 at h;refine S4 1 J<|S3 1 J<|y0 J (u4 (cs:=[.fn (.func 114) [],.I 0,.I 5,.I 6]) J a1k H5 J J J)<|Q3 (a6O 4 (d':=.agg [fvE (some 114),.I 0,.I 5,.I 6]) J)<|S2 1 J<|b9 ?_;cases h;exact⟨J,[_],⟨oL J J J a3a I3 nl J,tr⟩,J,io⟩

theorem X5:PO Tryz.prog 116 [.fn (.func 117) []] (P6) λr=>g7.Pv r:=by
 refine pO Tryz.func116 λr h _ _=>?_;unfold P6 at h;refine S4 1 J<|S3 1 J<|y0 J (u4 (cs:=[.fn (.func 117) [],.I (-1),.I 5,.I 13]) J a1k H5 J J J)<|Q3 (a6O 4 (d':=.agg [fvE (some 117),.I (-1),.I 5,.I 13]) J)<|S2 1 J<|b9 ?_;cases h;exact⟨J,[_],⟨oL J J J a3a I3 nl J,tr⟩,J,io⟩

theorem C5{a0}:PO Tryz.prog 112 [.L g7.Pv a0] (H2 a0) λr=>.L g7.Pv r:=by
 refine pO Tryz.func112 λr h _ _=>?_;unfold H2 at h;refine S4 1 J<|S4 2 J<|b9 ?_;cases h;exact f1

theorem I5:PO Tryz.prog 113 [.fn (.func 115) []] (W6) λr=>g7.Pv r:=by
 refine pO Tryz.func113 λr h _ _=>?_;unfold W6 at h;refine S4 1 J<|S3 1 J<|y0 J (u4 (cs:=[.fn (.func 115) [],.I 0,.I 5,.I 6]) J a1k H5 J J J)<|Q3 (a6O 4 (d':=.agg [fvE (some 115),.I 0,.I 5,.I 6]) J)<|S2 1 J<|b9 ?_;cases h;exact⟨J,[_],⟨oL J J J a3a I3 nl J,tr⟩,J,io⟩

theorem a38:PO Tryz.prog 118 [.fn (.func 117) []] (T6) λr=>g7.Pv r:=by
 refine pO Tryz.func118 λr h _ _=>?_;unfold T6 at h;refine S4 1 J<|S3 1 J<|y0 J (u4 (cs:=[.fn (.func 117) [],.I 0,.I 3,.I 5]) J a1k H5 J J J)<|Q3 (a6O 4 (d':=.agg [fvE (some 117),.I 0,.I 3,.I 5]) J)<|S2 1 J<|b9 ?_;cases h;exact⟨J,[_],⟨oL J J J a3a I3 nl J,tr⟩,J,io⟩

theorem a37:PO Tryz.prog 118 [.fn (.func 115) []] (T5) λr=>g7.Pv r:=by
 refine pO Tryz.func118 λr h _ _=>?_;unfold T5 at h;refine S4 1 J<|S3 1 J<|y0 J (u4 (cs:=[.fn (.func 115) [],.I 0,.I 3,.I 5]) J a1k H5 J J J)<|Q3 (a6O 4 (d':=.agg [fvE (some 115),.I 0,.I 3,.I 5]) J)<|S2 1 J<|b9 ?_;cases h;exact⟨J,[_],⟨oL J J J a3a I3 nl J,tr⟩,J,io⟩

theorem a11:PO Tryz.prog 119 [.fn (.func 117) []] (L5) λr=>g7.Pv r:=by
 refine pO Tryz.func119 λr h _ _=>?_;unfold L5 at h;refine S4 1 J<|S3 1 J<|y0 J (u4 (cs:=[.fn (.func 117) [],.I (-1),.I 5,.I 6]) J a1k H5 J J J)<|Q3 (a6O 4 (d':=.agg [fvE (some 117),.I (-1),.I 5,.I 6]) J)<|S2 1 J<|b9 ?_;cases h;exact⟨J,[_],⟨oL J J J a3a I3 nl J,tr⟩,J,io⟩

theorem a4L:PO Tryz.prog 120 [.fn (.func 114) []] (W3) λr=>g7.Pv r:=by
 refine pO Tryz.func120 λr h _ _=>?_;unfold W3 at h;refine S4 1 J<|S3 1 J<|y0 J (u4 (cs:=[.fn (.func 114) [],.I 0,.I 5,.I 7]) J a1k H5 J J J)<|Q3 (a6O 4 (d':=.agg [fvE (some 114),.I 0,.I 5,.I 7]) J)<|S2 1 J<|b9 ?_;cases h;exact⟨J,[_],⟨oL J J J a3a I3 nl J,tr⟩,J,io⟩

theorem R1:PO Tryz.prog 119 [.fn (.func 115) []] (L4) λr=>g7.Pv r:=by
 refine pO Tryz.func119 λr h _ _=>?_;unfold L4 at h;refine S4 1 J<|S3 1 J<|y0 J (u4 (cs:=[.fn (.func 115) [],.I (-1),.I 5,.I 6]) J a1k H5 J J J)<|Q3 (a6O 4 (d':=.agg [fvE (some 115),.I (-1),.I 5,.I 6]) J)<|S2 1 J<|b9 ?_;cases h;exact⟨J,[_],⟨oL J J J a3a I3 nl J,tr⟩,J,io⟩

theorem a4M:PO Tryz.prog 120 [.fn (.func 115) []] (W4) λr=>g7.Pv r:=by
 refine pO Tryz.func120 λr h _ _=>?_;unfold W4 at h;refine S4 1 J<|S3 1 J<|y0 J (u4 (cs:=[.fn (.func 115) [],.I 0,.I 5,.I 7]) J a1k H5 J J J)<|Q3 (a6O 4 (d':=.agg [fvE (some 115),.I 0,.I 5,.I 7]) J)<|S2 1 J<|b9 ?_;cases h;exact⟨J,[_],⟨oL J J J a3a I3 nl J,tr⟩,J,io⟩

theorem b19:PO Tryz.prog 64 [] (a5L) λr=>.abs (U3 (List.map (ent iF (Ls g7.Pv)) r)):=by
 refine pO Tryz.func64 λr h _ _=>?_;refine S4 1 J<|sR<|b8K (KT:=Int) (VT:=List g7) (EK:=iF) (E:=(Ls g7.Pv)) 5000001 J J<|cF h x8 J J λv1 hv1 h=>y0 J (u4 (cs:=[.fn (.func 115) [],.I 0,.I 4,.I 1]) J a1k H5 J J J)<|Q3 (a6O 3 (d':=.agg [fvE (some 115),.I 0,.I 4,.I 1]) J)<|cF h X5 J J λv2 hv2 h=>y0 J (Y4 (f:=g7.Pv) (l:=[v1,(⟨(some 115),0,4,1⟩:g7),v2]) J a0b I3 H5 J J nl J J)<|cF h C5 J J λv3 _ h=>a0y (es:=[]) (k:=1) (v:=v3) (E:=(Ls g7.Pv)) (EK:=iF) (.inr J) J J J J J J Q9 (y5 J2)<|yc J (s6 J x8 J hv1)<|cF h I5 J J λv4 hv4 h=>y0 J (Y4 (f:=g7.Pv) (l:=[v1,v4]) J a0b I3 H5 J J nl J J)<|cF h C5 J J λv5 hv5 h=>a0y (es:=(o6 [] 1 v3)) (k:=2) (v:=v5) (E:=(Ls g7.Pv)) (EK:=iF) (.inr J) J J J J J J Q9 (y5 J2)<|yc J (s6 J x8 J hv1)<|y0 J (Y4 (f:=g7.Pv) (l:=[v1]) J a0b I3 H5 J J nl J J)<|cF h C5 J J λv6 _ h=>a0y (es:=(o6 (o6 [] 1 v3) 2 v5)) (k:=3) (v:=v6) (E:=(Ls g7.Pv)) (EK:=iF) (.inr J) J J J J J J Q9 (y5 J2)<|yc J (s6 J x8 J hv1)<|yc J (s6 J I5 J hv4)<|cF h a38 J J λv7 _ h=>y0 J (Y4 (f:=g7.Pv) (l:=[v1,v4,v7]) J a0b I3 H5 J J nl J J)<|cF h C5 J J λv8 _ h=>a0y (es:=(o6 (o6 (o6 [] 1 v3) 2 v5) 3 v6)) (k:=4) (v:=v8) (E:=(Ls g7.Pv)) (EK:=iF) (.inr J) J J J J J J Q9 (y5 J2)<|yc J (s6 J x8 J hv1)<|cF h a37 J J λv9 _ h=>cF h a11 J J λv10 _ h=>y0 J (Y4 (f:=g7.Pv) (l:=[v1,v9,v10]) J a0b I3 H5 J J nl J J)<|cF h C5 J J λv11 _ h=>?_;refine a0y (es:=(o6 (o6 (o6 (o6 [] 1 v3) 2 v5) 3 v6) 4 v8)) (k:=5) (v:=v11) (E:=(Ls g7.Pv)) (EK:=iF) (.inr J) J J J J J J Q9 (y5 J2)<|cF h a4L J J λv12 _ h=>cF h R1 J J λv13 hv13 h=>yc J (s6 J X5 J hv2)<|y0 J (Y4 (f:=g7.Pv) (l:=[v12,v13,v2]) J a0b I3 H5 J J nl J J)<|cF h C5 J J λv14 _ h=>a0y (es:=(o6 (o6 (o6 (o6 (o6 [] 1 v3) 2 v5) 3 v6) 4 v8) 5 v11)) (k:=6) (v:=v14) (E:=(Ls g7.Pv)) (EK:=iF) (.inr J) J J J J J J Q9 (y5 J2)<|yc J (s6 J x8 J hv1)<|cF h a4M J J λv15 _ h=>y0 J (Y4 (f:=g7.Pv) (l:=[v1,v15]) J a0b I3 H5 J J nl J J)<|cF h C5 J J λv16 _ h=>a0y (es:=(o6 (o6 (o6 (o6 (o6 (o6 [] 1 v3) 2 v5) 3 v6) 4 v8) 5 v11) 6 v14)) (k:=7) (v:=v16) (E:=(Ls g7.Pv)) (EK:=iF) (.inr J) J J J J J J Q9 (y5 J2)<|yc J (s6 J x8 J hv1)<|yc J (s6 J R1 J hv13)<|y0 J (Y4 (f:=g7.Pv) (l:=[v1,v13]) J a0b I3 H5 J J nl J J)<|cF h C5 J J λv17 _ h=>a0y (es:=(o6 (o6 (o6 (o6 (o6 (o6 (o6 [] 1 v3) 2 v5) 3 v6) 4 v8) 5 v11) 6 v14) 7 v16)) (k:=8) (v:=v17) (E:=(Ls g7.Pv)) (EK:=iF) (.inr J) J J J J J J Q9 (y5 J2)<|yc J (s6 J x8 J hv1)<|yc J (s6 J I5 J hv4)<|y0 J (Y4 (f:=g7.Pv) (l:=[v1,v4]) J a0b I3 H5 J J nl J J)<|yc J (s6 J C5 J hv5)<|a0y (es:=(o6 (o6 (o6 (o6 (o6 (o6 (o6 (o6 [] 1 v3) 2 v5) 3 v6) 4 v8) 5 v11) 6 v14) 7 v16) 8 v17)) (k:=9) (v:=v5) (E:=(Ls g7.Pv)) (EK:=iF) (.inr J) J J J J J J Q9 (y5 J2)<|yc J (s6 J x8 J hv1)<|yc J (s6 J I5 J hv4)<|y0 J (Y4 (f:=g7.Pv) (l:=[v1,v4]) J a0b I3 H5 J J nl J J)<|yc J (s6 J C5 J hv5)<|a0y (es:=(o6 (o6 (o6 (o6 (o6 (o6 (o6 (o6 (o6 [] 1 v3) 2 v5) 3 v6) 4 v8) 5 v11) 6 v14) 7 v16) 8 v17) 9 v5)) (k:=10) (v:=v5) (E:=(Ls g7.Pv)) (EK:=iF) (.inr J) J J J J J J Q9 (y5 J2)<|cF h C5 J J λv18 _ h=>a0y (es:=(o6 (o6 (o6 (o6 (o6 (o6 (o6 (o6 (o6 (o6 [] 1 v3) 2 v5) 3 v6) 4 v8) 5 v11) 6 v14) 7 v16) 8 v17) 9 v5) 10 v5)) (k:=11) (v:=v18) (E:=(Ls g7.Pv)) (EK:=iF) (.inr J) J J J J J J Q9 (y5 J2)<|y0 J (u4 (cs:=[.fn (.func 114) [],.I 0,.I 200,.I 12]) J a1k H5 J J J) ?_;refine Q3 (a6O 46 (d':=.agg [fvE (some 114),.I 0,.I 200,.I 12]) J)<|y0 J (Y4 (f:=g7.Pv) (l:=[(⟨(some 114),0,200,12⟩:g7)]) J a0b I3 H5 J J nl J J)<|cF h C5 J J λv19 _ h=>a0y (es:=(o6 (o6 (o6 (o6 (o6 (o6 (o6 (o6 (o6 (o6 (o6 [] 1 v3) 2 v5) 3 v6) 4 v8) 5 v11) 6 v14) 7 v16) 8 v17) 9 v5) 10 v5) 11 v18)) (k:=12) (v:=v19) (E:=(Ls g7.Pv)) (EK:=iF) (.inr J) J J J J J J Q9 (y5 J2)<|S2 2 J<|a2H (c0a 0 5000001 J J)<|b9 ?_;cases h;exact f1

theorem a8P{a0}:PO Tryz.prog 114 [g8.Pv a0] (a9c a0) λr=>.I r:=by
 refine pO Tryz.func114 λr h _ _=>?_;unfold a9c at h;refine S4 2 J<|S4 3 J<|b9 ?_;cases h;exact f1

theorem a8Q{a0}:PO Tryz.prog 115 [g8.Pv a0] (a9d a0) λr=>.I r:=by
 refine pO Tryz.func115 λr h _ _=>?_;unfold a9d at h;refine S4 2 J<|S4 3 J<|b9 ?_;cases h;exact f1

theorem a8R{a0}:PO Tryz.prog 117 [g8.Pv a0] (a9e a0) λr=>.I r:=by
 refine pO Tryz.func117 λr h _ _=>?_;unfold a9e at h;refine S4 2 J<|S4 3 J<|b9 ?_;cases h;exact f1

theorem b9i{f:Fv}{a0:g8}{r:Int}(h:a9X f a0=some r):∃n,f=some n∧A2 Tryz.prog n∧V9 Tryz.prog n [g8.Pv a0] (.I r):=by
 unfold a9X at h;by_cases e114:f=some 114
 ·rw[if_pos e114] at h;exact⟨114,e114,(@a8P a0).1,(@a8P a0).2 _ h⟩
 rw[if_neg e114] at h;by_cases e115:f=some 115
 ·rw[if_pos e115] at h;exact⟨115,e115,(@a8Q a0).1,(@a8Q a0).2 _ h⟩
 rw[if_neg e115] at h;by_cases e117:f=some 117
 ·rw[if_pos e117] at h;exact⟨117,e117,(@a8R a0).1,(@a8R a0).2 _ h⟩
 rw[if_neg e117] at h;cases h

theorem a4K{a0}:PO Tryz.prog 40 [g8.Pv a0] (P5 a0) λr=>.I r:=by
 refine pO Tryz.func40 λr h _ _=>?_;unfold P5 at h;refine S4 2 J<|dr [] u5 (by kernel_rfl) (by kernel_rfl)<|A5 h λv1 hv1 h=>d2f J (s6 J b19 J hv1) J<|S7 2 J<|d4 J (b7Y (es:=v1) (k:=a0.Kind) (E:=(Ls g7.Pv)) (EK:=iF) (d:=.tup [.L g7.Pv ((A0 v1 a0.Kind).getD ([]:List g7)),.bool ((A0 v1 a0.Kind).isSome)]) J J Q9 (y5 J2) c5Y J (lk2 _ _ ([]:List g7))) J<|S8 5 J<|k8<|S4 2 J ?_;refine cN h (λhc h=>?_) λhc h=>?_
 ·refine S4 1 J ?_;refine b9 ?_;cases h;exact f1
 ·refine g5 ?_;refine jq h (λ_=>St.of [] []) (λq9 h=>?_) λκ8 h=>?_
  ·refine S4 1 J ?_;refine b9 ?_;cases h;exact f1
  ·refine S3 1 J ?_;refine nL J a0b<|S2 1 J<|k9<|lq h (λs11=>St.of [(1,.ptr 1 0 0),(17,.L g7.Pv ((A0 v1 a0.Kind).getD ([]:List g7))),(18,.I (((A0 v1 a0.Kind).getD ([]:List g7)).length:Int)),(19,.I s11)] [(1,vR (g8.Pv a0) 4)]) W λs11 x12 h hx13=>S4 1 J<|k8 ?_;refine cN h (λhc h=>?_) λhc h=>?_
   ·refine g5 ?_;refine k8<|k9<|sR<|iL h J J a0b I3 λv13 _ h=>S2 3 J<|S3 3 J ?_;obtain⟨v14,hv15,h⟩:=a8M h;obtain⟨n15,he16,hk17,hp18⟩:=b9i hv15;refine Q3 (c8b 24 J he16)<|y0 J (b9w J hk17 J hp18)<|S2 1 J<|S3 5 J<|n9 J (λhg=>mI J)<|n9 J (λhg=>oF J c1B J)<|n9 J (λhg=>oS (ct hg) J J K1 J)<|n9 J (λhg=>D7 (ct hg) (ct hg) J)<|y0 J (O7 J J J (λq=>eqF q))<|yN ?_;refine cN h (λhc h=>?_) λhc h=>?_
    ·refine S4 3 J ?_;refine b9 ?_;have h:=xL hx13 h;cases h;exact f1
    ·refine g5 ?_;refine S6 2 J ?_;exact eL h W
   ·refine u9 ?_;refine g9<|g9<|n8 ?_;have h:=xL hx13 h;exact eJ h W

theorem b4m{a0}:PO Tryz.prog 38 [.L (Ls g8.Pv) a0] (a10 a0) λr=>.bool r:=by
 refine pO Tryz.func38 λr h _ _=>?_;refine S4 1 J<|k8<|S3 1 J<|nL J b2P<|S2 1 J ?_;refine cN h (λhc h=>?_) λhc h=>?_
 ·refine S4 1 J ?_;refine b9 ?_;cases h;exact f1
 ·refine g5 ?_;refine jq h (λ_=>St.of [] []) (λq21 h=>?_) λκ20 h=>?_
  ·refine S4 1 J ?_;refine b9 ?_;cases h;exact f1
  ·refine S3 1 J ?_;refine nL J b2P<|S2 1 J<|k9<|lq h (λs23=>St.of [(10,.L (Ls g8.Pv) a0),(11,.I (a0.length:Int)),(12,.I s23)] []) W λs23 x24 h hx22=>S4 1 J<|k8 ?_;refine cN h (λhc h=>?_) λhc h=>?_
   ·refine g5 ?_;refine jq h (λ_=>St.of [(10,.L (Ls g8.Pv) a0),(11,.I (a0.length:Int)),(12,.I s23)] []) (λq33 h=>?_) λκ32 h=>?_
    ·refine S6 2 J ?_;exact eL h W
    ·refine k9 ?_;refine sR<|iL h J J b2P c2U λv34 _ h=>S2 2 J<|k8<|S3 1 J<|nL J b0W<|S2 1 J ?_;refine cN h (λhc h=>?_) λhc h=>?_
     ·refine S4 1 J ?_;refine b9 ?_;have h:=xL hx22 h;cases h;exact f1
     ·refine g5 ?_;refine S3 1 J<|nL J b0W<|S2 1 J<|k9<|lq h (λs36=>St.of [(10,.L (Ls g8.Pv) a0),(11,.I (a0.length:Int)),(12,.I s23),(19,.L g8.Pv v34),(20,.I (v34.length:Int)),(21,.I s36)] []) W λs36 x37 h hx34=>S4 1 J<|k8 ?_;refine cN h (λhc h=>?_) λhc h=>?_
      ·refine g5 ?_;refine k8<|k9<|sR<|iL h J J b0W a87 λv38 _ h=>S2 3 J<|S3 1 J<|cA h b4l J J λv39 _ h=>S1 2 J<|n9 J (λhg=>oL J J J b5w a87 nl J)<|A5 h λv40 hv37 h=>n9 J (λhg=>U0 J a4K (X6 (ct hg) J) (Y1 hv37 hg))<|n9 J (λhg=>D7 (ct hg) J J)<|y0 J (O7 J J J (λq=>eqF q))<|yN ?_;refine cN h (λhc h=>?_) λhc h=>?_
       ·refine S4 1 J ?_;refine b9 ?_;have h:=xL hx34 h;have h:=xL hx22 h;cases h;exact f1
       ·refine g5 ?_;refine S6 2 J ?_;exact eL h W
      ·refine u9 ?_;refine g9<|g9<|n8 ?_;have h:=xL hx34 h;exact eJ h W
   ·refine u9 ?_;refine g9<|g9<|n8 ?_;have h:=xL hx22 h;exact eJ h W

theorem a6V{a0 a1}:PO Tryz.prog 110 [.I a0,.I a1] (U1 a0 a1) λr=>c7.Pv r:=by
 refine pO Tryz.func110 λr h _ _=>?_;refine S4 1 J<|k8<|S3 3 J<|n9 J (λhg=>mI J)<|n9 J (λhg=>D7 (ct hg) J J)<|y0 J (O7 J J J (λq=>eqF q))<|S1 1 J<|n9 J (λhg=>mI J)<|n9 J (λhg=>D7 (ct hg) J J)<|y0 J (O7 J J J (λq=>eqF q))<|S1 1 J<|n9 J (λhg=>mI J)<|n9 J (λhg=>D7 (ct hg) J J)<|y0 J (O7 J J J (λq=>eqF q))<|yN ?_;refine cN h (λhc h=>?_) λhc h=>?_
 ·refine sR ?_;refine y0 J (u4 (cs:=[.nl,.I 0]) J c2L c2W J J J)<|a7R (x':=.agg [.nl,.I 0]) (cl':=true) J J (.inl J) a1l<|yN<|b9 ?_;cases h;exact⟨J,[_],⟨oL J J J a2N a1l nl J,tr⟩,J,io⟩
 ·refine g5 ?_;refine S3 1 J<|A5 h λv1 hv1 h=>y1 J (b9y (f:=b7.Pv) hv1 J J J Q8 a0r b0X c2B J J J) J<|S1 1 J<|y0 J (u4 (cs:=[.sl 21,.I a1]) J c2L c2W J J J)<|S2 1 J<|b9 ?_;cases h;exact⟨J,[_],⟨oL J J J a2N a1l nl J,tr⟩,J,io⟩

theorem b6V{a0 a1}:PO Tryz.prog 60 [.I a0,.I a1] (a3z a0 a1) λr=>a7.Pv r:=by
 refine pO Tryz.func60 λr h _ _=>?_;refine S4 1 J<|S3 2 J<|cF h a6V J J λv1 _ h=>y0 J (u4 (cs:=[.L b7.Pv v1.a8,.I v1.Last,.I 0]) J c2M c2X J J J)<|S2 1 J<|b9 ?_;cases h;exact⟨J,[_],⟨oL J J J a5C a5F nl J,tr⟩,J,io⟩

theorem b8G{a0}:PO Tryz.prog 61 [.I a0] (b8F a0) λr=>.L e6.Pv r:=by
 refine pO Tryz.func61 λr h _ _=>?_;refine S4 1 J<|k8<|S3 3 J<|n9 J (λhg=>mI J)<|n9 J (λhg=>D7 (ct hg) J J)<|y0 J (O7 J J J (λq=>eqF q))<|yN ?_;refine cN h (λhc h=>?_) λhc h=>?_
 ·refine S4 1 J ?_;refine b9 ?_;cases h;exact f1
 ·refine g5 ?_;refine S3 1 J<|A5 h λv1 hv1 h=>y1 J (b9y (f:=e6.Pv) hv1 J J J W1 X4 b5z c0i J J J) J<|S2 1 J ?_;refine jq h (λj9=>St.of [(3,.sl 12)] [(12,⟨List.map e6.Pv j9,0,true,3,true⟩)]) (λj9 h=>?_) λκ8 h=>?_
  ·refine S4 2 J ?_;refine b9 ?_;cases h;exact f1
  ·refine S3 1 J ?_;refine y0 J (c4j (f:=e6.Pv) J J J W1)<|S2 1 J<|k9<|lq h (λq=>St.of [(3,.sl 12),(14,.I (v1.length:Int)),(15,.I q.1)] [(12,⟨List.map e6.Pv q.2,0,true,3,true⟩)]) W λq14 x13 h hx9=>?_;obtain⟨s11,s12⟩:=q14;refine S4 1 J<|k8 ?_;refine cN h (λhc h=>?_) λhc h=>?_
   ·refine g5 ?_;refine k8<|k9<|S4 2 J<|S5 2 J<|A5 h λv15 hv10 h=>y0 J (a8Y (f:=e6.Pv) hv10 J J J J W1 X4 J)<|S1 1 J<|b4b (f:=e6.Pv) (v:=(⟨v15.Target,v15.Intact,(-1)⟩:e6)) hv10 J J (.inl J) s7<|yN<|S6 2 J ?_;exact eL h W
   ·refine u9 ?_;refine g9<|g9<|n8 ?_;have h:=xL hx9 h;exact eJ h W

theorem b7F{a0}:PO Tryz.prog 62 [.I a0] (a95 a0) λr=>.L b8.Pv r:=by
 refine pO Tryz.func62 λr h _ _=>?_;refine S4 1 J<|k8<|S3 3 J<|n9 J (λhg=>mI J)<|n9 J (λhg=>D7 (ct hg) J J)<|y0 J (O7 J J J (λq=>eqF q))<|yN ?_;refine cN h (λhc h=>?_) λhc h=>?_
 ·refine S4 1 J ?_;refine b9 ?_;cases h;exact f1
 ·refine g5 ?_;refine S3 1 J<|A5 h λv1 hv1 h=>y1 J (b9y (f:=b8.Pv) hv1 J J J a0R a0M b2k c0j J J J) J<|S2 1 J<|b9 ?_;cases h;exact f1

theorem a6d{a0}:PO Tryz.prog 111 [.I a0] (a0v a0) λr=>c9.Pv r:=by
 refine pO Tryz.func111 λr h _ _=>?_;unfold a0v at h;refine S4 1 J<|S3 1 J<|y0 J (u4 (cs:=[.nl,.I a0]) J c8o c8v J J J)<|a7R (x':=.agg [.nl,.I a0]) (cl':=true) J J (.inl J) a1m<|yN<|b9 ?_;cases h;exact⟨J,[_],⟨oL J J J a4H a1m nl J,tr⟩,J,io⟩

theorem b8v:PO Tryz.prog 63 [] (b8u) λr=>c9.Pv r:=by
 refine pO Tryz.func63 λr h _ _=>?_;refine S4 1 J<|sR<|cF h a6d J J λv1 _ h=>S2 1 J<|b9 ?_;cases h;exact⟨J,[_],⟨oL J J J a4H a1m nl J,tr⟩,J,io⟩

theorem b7H{a0 a1 a2}:PO Tryz.prog 39 [.I a0,.I a1,.I a2] (a3K a0 a1 a2) λr=>b6.Pv r:=by
 refine pO Tryz.func39 λr h _ _=>?_;refine S4 1 J<|k8<|S3 3 J<|n9 J (λhg=>mI J)<|n9 J (λhg=>D7 (ct hg) J J)<|y0 J (O7 J J J (λq=>eqF q))<|S1 1 J<|n9 J (λhg=>mI J)<|n9 J (λhg=>D7 (ct hg) J J)<|y0 J (O7 J J J (λq=>eqF q))<|S1 1 J<|n9 J (λhg=>mI J)<|n9 J (λhg=>D7 (ct hg) J J)<|y0 J (O7 J J J (λq=>eqF q))<|S1 1 J<|n9 J (λhg=>mI J)<|n9 J (λhg=>D7 (ct hg) J J)<|y0 J (O7 J J J (λq=>eqF q))<|S1 1 J<|n9 J (λhg=>mI J)<|n9 J (λhg=>D7 (ct hg) J J)<|y0 J (O7 J J J (λq=>eqF q))<|yN ?_;refine cN h (λhc h=>?_) λhc h=>?_
 ·refine sR ?_;refine y0 J (u4 (cs:=[.nl,.I 0,.I 0,.nl,.nl,.nl,.nl,.I 0]) J c2N c2Y J J J)<|a7R (x':=.agg [.nl,.I 0,.I 0,.nl,.nl,.nl,.nl,.I 0]) (cl':=true) J J (.inl J) o0<|yN<|b9 ?_;cases h;exact⟨J,[_],⟨oL J J J p6 o0 nl J,tr⟩,J,io⟩
 ·refine g5 ?_;refine dr [] u5 (by kernel_rfl) (by kernel_rfl)<|S7 2 J<|A5 h λv1 hv1 h=>d2f J (s6 J b6V J hv1) J<|A5 h λv2 hv2 h=>d1 J (b9y (f:=iF) hv2 J J J n0 s7 F0 Y5 J J J) J J J<|A5 h λv3 hv3 h=>d2f J (s6 J b8G J hv3) J<|S7 1 J<|A5 h λv4 hv4 h=>d2f J (s6 J b7F J hv4) J<|A5 h λv5 hv5 h=>d2f J (s6 J b8v J hv5) J<|d7 J (λ_ hN=>u4 (cs:=[.L b7.Pv v1.S.a8,.I v1.S.Last,.I v1.Serial,.sl 33,.L e6.Pv v3,.L b8.Pv v4,.L k7.Pv v5.L,.I v5.Cap]) J c2N c2Y J J J) J<|A9 (x':=.agg [.L b7.Pv v1.S.a8,.I v1.S.Last,.I v1.Serial,.sl 33,.L e6.Pv v3,.L b8.Pv v4,.L k7.Pv v5.L,.I v5.Cap]) (cl':=false) J J (.inr J) o0<|M7<|b9 ?_;cases h;exact⟨J,[_],⟨oL J J J p6 o0 nl J,tr⟩,J,io⟩

theorem b4r{a0 a1 a2 a3}:PO Tryz.prog 24 [.I a0,.I a1,.I a2,.L (Ls g8.Pv) a3] (a13 a0 a1 a2 a3) λr=>.tup [c8.Pv r.1,.I r.2]:=by
 refine pO Tryz.func24 λr h _ _=>?_;refine S4 2 J<|k8<|S3 1 J<|cA h b4m J J λv1 _ h=>S2 1 J ?_;refine cN h (λhc h=>?_) λhc h=>?_
 ·refine sR ?_;refine y0 J (u4 (cs:=[.nl,.I 0,.I 0,.nl,.nl,.nl,.nl,.I 0,.nl]) J b8R b8V J J J)<|a7R (x':=.agg [.nl,.I 0,.I 0,.nl,.nl,.nl,.nl,.I 0,.nl]) (cl':=true) J J (.inl J) C9<|S2 1 J<|b9 ?_;cases h;exact⟨J,[_,_],⟨oL J J J W0 C9 nl J,⟨J,tr⟩⟩,J,io⟩
 ·refine g5 ?_;refine S3 3 J<|cF h b7H J J λv2 _ h=>S2 2 J<|k8<|S3 2 J<|nL J n0<|S2 1 J ?_;refine cN h (λhc h=>?_) λhc h=>?_
  ·refine sR ?_;refine y0 J (u4 (cs:=[.nl,.I 0,.I 0,.nl,.nl,.nl,.nl,.I 0,.nl]) J b8R b8V J J J)<|a7R (x':=.agg [.nl,.I 0,.I 0,.nl,.nl,.nl,.nl,.I 0,.nl]) (cl':=true) J J (.inl J) C9<|S2 1 J<|b9 ?_;cases h;exact⟨J,[_,_],⟨oL J J J W0 C9 nl J,⟨J,tr⟩⟩,J,io⟩
  ·refine g5 ?_;refine S3 2 J<|y0 J (u4 (cs:=[.L b7.Pv v2.S.S.a8,.I v2.S.S.Last,.I v2.S.Serial,.L iF v2.Roots,.L e6.Pv v2.a8,.L b8.Pv v2.T,.L k7.Pv v2.Q.L,.I v2.Q.Cap,.L (Ls g8.Pv) a3]) J b8R b8V J J J)<|S2 2 J<|b9 ?_;cases h;exact⟨J,[_,_],⟨oL J J J W0 C9 nl J,⟨J,tr⟩⟩,J,io⟩

theorem a4E{a0 a1}:PO Tryz.prog 16 [.I a0,.I a1] (a1M a0 a1) λr=>c8.Pv r:=by
 refine pO Tryz.func16 λr h _ _=>?_;refine S4 1 J<|S3 2 J<|cF h b4r J J λv1 _ h=>S2 6 J<|S4 2 J<|b9 ?_;cases h;exact⟨J,[_],⟨oL J J J W0 C9 nl J,tr⟩,J,io⟩

theorem z6{a0 a1 a2 a3}:PO Tryz.prog 18 [.I a0,.I a1,.I a2,.I a3] (E6 a0 a1 a2 a3) λr=>.M9 true (List.map iF r):=by
 refine pO Tryz.func18 λr h _ _=>?_;unfold E6 at h;refine S4 1 J<|S3 4 J<|y0 J (Y4 (f:=iF) (l:=[a0,a1,a2,a3]) J n0 s7 F0 J J nl J J)<|S2 1 J<|b9 ?_;cases h;exact f1

theorem b2U{a0}:PO Tryz.prog 27 [.L iF a0] (T3 a0) λr=>.tup [g8.Pv r.1,.I r.2]:=by
 refine pO Tryz.func27 λr h _ _=>?_;refine S4 2 J<|k8<|S3 1 J<|nL J n0<|S2 1 J ?_;refine cN h (λhc h=>?_) λhc h=>?_
 ·refine sR ?_;refine y0 J (u4 (cs:=[.I 0,.I 0,.I 0,.I 0]) J b8T b8Y J J J)<|S2 2 J<|b9 ?_;cases h;exact⟨J,[_,_],⟨oL J J J b5w a87 nl J,⟨J,tr⟩⟩,J,io⟩
 ·refine g5 ?_;refine dr [] u5 (by kernel_rfl) (by kernel_rfl)<|S7 1 J<|A5 h λv1 hv1 h=>d0 J (Y0 (f:=iF) (cs:=[.I v1]) hv1 J J n0 s7 J J) J<|S7 2 J<|A5 h λv2 hv2 h=>d0 J (Y0 (f:=iF) (cs:=[.I v2]) hv2 J J n0 s7 J J) J<|S7 2 J<|A5 h λv3 hv3 h=>d0 J (Y0 (f:=iF) (cs:=[.I v3]) hv3 J J n0 s7 J J) J<|S7 2 J<|A5 h λv4 hv4 h=>d0 J (Y0 (f:=iF) (cs:=[.I v4]) hv4 J J n0 s7 J J) J<|S7 1 J<|d7 J (λ_ hN=>u4 (cs:=[.I v1,.I v2,.I v3,.I v4]) J b8T b8Y J J J) J<|S7 1 J<|A9 (x':=.agg [.I v1,.I v2,.I v3,.I v4]) (cl':=true) J J (.inl J) a87<|M7<|k8<|S3 1 J<|cA h a4K J J λv5 _ h=>S2 1 J<|S4 2 J ?_;refine cN h (λhc h=>?_) λhc h=>?_
  ·refine sR ?_;refine y0 J (u4 (cs:=[.I 0,.I 0,.I 0,.I 0]) J b8T b8Y J J J)<|S2 3 J<|b9 ?_;cases h;exact⟨J,[_,_],⟨oL J J J b5w a87 nl J,⟨J,tr⟩⟩,J,io⟩
  ·refine g5 ?_;refine S4 3 J<|b9 ?_;cases h;exact⟨J,[_,_],⟨oL J J J b5w a87 nl J,⟨J,tr⟩⟩,J,io⟩

theorem b2a{a0}:PO Tryz.prog 28 [g8.Pv a0] (a5O a0) λr=>ifE a86 r:=by
 refine pO Tryz.func28 λr h _ _=>?_;refine S4 2 J<|k8<|S4 2 J<|k9<|S4 2 J ?_;refine cN h (λhc h=>?_) λhc h=>?_
 ·refine sR ?_;refine y0 J (u4 (cs:=[]) J c8s c20 J J J)<|y0 J (b9z (n:=a86) (T:=89) (xs:=[]) J c2P J)<|S2 1 J<|b9 ?_;cases h;exact f1
 ·refine S4 2 J ?_;refine cN h (λhc h=>?_) λhc h=>?_
  ·refine S3 2 J ?_;refine y0 J (u4 (cs:=[.I a0.A]) J c8t c21 J J J)<|y0 J (b9z (n:=a86) (T:=93) (xs:=[a0.A]) J c2Q J)<|S2 1 J<|b9 ?_;cases h;exact f1
  ·refine g5 ?_;refine S3 1 J<|y0 J (u4 (cs:=[.I a0.Kind,.I a0.A,.I a0.B,.I a0.C]) J c8r c2Z J J J)<|y0 J (b9z (n:=a86) (T:=85) (xs:=[a0.Kind,a0.A,a0.B,a0.C]) J c2O J)<|S2 1 J<|b9 ?_;cases h;exact f1

theorem b1d:PO Tryz.prog 41 [] (a2q) λr=>.abs (U3 (List.map (ent iF fvE) r)):=by
 refine pO Tryz.func41 λr h _ _=>?_;unfold a2q at h;refine S4 1 J<|sR<|b8K (KT:=Int) (VT:=Fv) (EK:=iF) (E:=fvE) 5000001 J J<|a4W (es:=[]) (k:=1) (v:=(some 65)) (E:=fvE) (EK:=iF) (.inr J) J J J J J J Y6 (y5 J2)<|a4W (es:=(o6 [] 1 (some 65))) (k:=2) (v:=(some 66)) (E:=fvE) (EK:=iF) (.inr J) J J J J J J Y6 (y5 J2)<|a4W (es:=(o6 (o6 [] 1 (some 65)) 2 (some 66))) (k:=3) (v:=(some 67)) (E:=fvE) (EK:=iF) (.inr J) J J J J J J Y6 (y5 J2)<|a4W (es:=(o6 (o6 (o6 [] 1 (some 65)) 2 (some 66)) 3 (some 67))) (k:=4) (v:=(some 68)) (E:=fvE) (EK:=iF) (.inr J) J J J J J J Y6 (y5 J2)<|a4W (es:=(o6 (o6 (o6 (o6 [] 1 (some 65)) 2 (some 66)) 3 (some 67)) 4 (some 68))) (k:=5) (v:=(some 69)) (E:=fvE) (EK:=iF) (.inr J) J J J J J J Y6 (y5 J2)<|a4W (es:=(o6 (o6 (o6 (o6 (o6 [] 1 (some 65)) 2 (some 66)) 3 (some 67)) 4 (some 68)) 5 (some 69))) (k:=6) (v:=(some 70)) (E:=fvE) (EK:=iF) (.inr J) J J J J J J Y6 (y5 J2)<|a4W (es:=(o6 (o6 (o6 (o6 (o6 (o6 [] 1 (some 65)) 2 (some 66)) 3 (some 67)) 4 (some 68)) 5 (some 69)) 6 (some 70))) (k:=7) (v:=(some 71)) (E:=fvE) (EK:=iF) (.inr J) J J J J J J Y6 (y5 J2)<|a4W (es:=(o6 (o6 (o6 (o6 (o6 (o6 (o6 [] 1 (some 65)) 2 (some 66)) 3 (some 67)) 4 (some 68)) 5 (some 69)) 6 (some 70)) 7 (some 71))) (k:=8) (v:=(some 72)) (E:=fvE) (EK:=iF) (.inr J) J J J J J J Y6 (y5 J2)<|a4W (es:=(o6 (o6 (o6 (o6 (o6 (o6 (o6 (o6 [] 1 (some 65)) 2 (some 66)) 3 (some 67)) 4 (some 68)) 5 (some 69)) 6 (some 70)) 7 (some 71)) 8 (some 72))) (k:=9) (v:=(some 73)) (E:=fvE) (EK:=iF) (.inr J) J J J J J J Y6 (y5 J2)<|a4W (es:=(o6 (o6 (o6 (o6 (o6 (o6 (o6 (o6 (o6 [] 1 (some 65)) 2 (some 66)) 3 (some 67)) 4 (some 68)) 5 (some 69)) 6 (some 70)) 7 (some 71)) 8 (some 72)) 9 (some 73))) (k:=10) (v:=(some 74)) (E:=fvE) (EK:=iF) (.inr J) J J J J J J Y6 (y5 J2)<|S2 2 J<|a2H (c0a 0 5000001 J J)<|b9 ?_;cases h;exact f1

theorem b98{a0}:PO Tryz.prog 161 [.I a0] (b63 a0) λr=>.tup [.L iF r.1,.I r.2]:=by
 refine pO Tryz.func161 λr h _ _=>?_;refine S4 2 J<|k8<|S3 3 J<|n9 J (λhg=>mI J)<|n9 J (λhg=>D7 (ct hg) J J)<|y0 J (O7 J J J (λq=>eqF q))<|yN ?_;refine cN h (λhc h=>?_) λhc h=>?_
 ·refine S4 2 J ?_;refine b9 ?_;cases h;exact f2
 ·refine g5 ?_;refine S3 1 J<|A5 h λv1 hv1 h=>y1 J (b9y (f:=iF) hv1 J J J n0 s7 F0 Y5 J J J) J<|S2 2 J<|b9 ?_;cases h;exact f2

theorem a7L{a0}:PO Tryz.prog 162 [.I a0] (P3 a0) λr=>.bool r:=by
 refine pO Tryz.func162 λr h _ _=>?_;unfold P3 at h;refine S4 1 J<|S3 3 J<|n9 J (λhg=>mI J)<|n9 J (λhg=>D7 (ct hg) J J)<|y0 J (D9 J J J (λq=>eqT q))<|S2 1 J<|b9 ?_;cases h;exact f1

theorem a6q{a0}:PO Tryz.prog 202 [c7.Pv a0] (L2 a0) λr=>.fn (.func 221) [.rptr (c7.Pc r)]:=by
 refine pO Tryz.func202 λr h _ _=>?_;unfold L2 at h;refine S4 2 J<|S4 2 J<|b9 ?_;cases h;exact f1

theorem J8{a0}:PON Tryz.prog 208 [.L b7.Pv a0] (u7 a0) λr=>⟨List.map b7.Pv r,0,true,8,true⟩:=by
 refine pON Tryz.func208 λr h _ _=>?_;unfold u7 at h;refine S4 1 J<|k8<|S3 1 J<|b67 J Q8 λb hb=>yN ?_;refine G5 b J (λhc=>?_) (λhc=>?_)
 ·obtain rfl:a0 = []:=by simpa using hb hc
  refine S4 1 J<|a2H (X0 (t:=2) (l:=920000) (z:=8) J J)<|b9 ?_;cases h;exact⟨J,_,_,J,J,J,J⟩
 ·refine g5 ?_;refine sR<|y0 J (b3p J Q8 a0r)<|S1 1 J<|y1 J (b7X (f:=b7.Pv) h J J (.inl ⟨_,J,J⟩) Q8 a0r c2B b0X J (λ_=>J)) J<|S2 1 J<|b9 ?_;exact⟨J,_,_,J,J,J,J⟩

theorem G8{a0 a1 a2}:PO Tryz.prog 176 [c7.Pv a0,.I a1,b7.Pv a2] (B2 a0 a1 a2) λr=>c7.Pv r:=by
 refine pO Tryz.func176 λr h _ _=>?_;unfold B2 at h;refine S4 3 J<|S3 2 J<|A5 h λv1 hv1 h=>ycN J (b5b J J8 J hv1) J J<|S2 2 J<|S3 4 J<|A5 h λv2 hv2 h=>y0 J (a8Y (f:=b7.Pv) hv2 J J J J Q8 a0r J)<|b4b (f:=b7.Pv) (v:=a2) hv2 J J (.inr J) a0r<|yN<|S4 2 J<|b9 ?_;cases h;exact⟨J,[_],⟨oL J J J a2N a1l nl J,tr⟩,J,io⟩

theorem a7d{a0 a1}:PO Tryz.prog 50 [.I a0,.I a1] (a09 a0 a1) λr=>.I r:=by
 refine pO Tryz.func50 λr h _ _=>?_;refine S4 1 J<|k8<|S3 3 J<|n9 J (λhg=>mI J)<|n9 J (λhg=>D7 (ct hg) J J)<|y0 J (O7 J J J (λq=>eqF q))<|S1 1 J<|n9 J (λhg=>mI J)<|n9 J (λhg=>D7 (ct hg) J J)<|y0 J (O7 J J J (λq=>eqF q))<|S1 1 J<|n9 J (λhg=>mI J)<|n9 J (λhg=>D7 (ct hg) J J)<|y0 J (O7 J J J (λq=>eqF q))<|yN ?_;refine cN h (λhc h=>?_) λhc h=>?_
 ·refine S4 1 J ?_;refine b9 ?_;cases h;exact f1
 ·refine g5 ?_;refine S4 7 J<|b9 ?_;cases h;exact f1

theorem a6p{a0 a1}:PO Tryz.prog 163 [c7.Pv a0,m7.Pv a1] (H0 a0 a1) λr=>.tup [c7.Pv r.1,.I r.2.1,.I r.2.2]:=by
 refine pO Tryz.func163 λr h _ _=>?_;refine S4 5 J ?_;refine jq h (λ_=>St.of [(2,.ptr 2005 0 0),(4,.ptr 2003 0 0),(5,.ptr 2002 0 0),(6,.ptr 2001 0 0)] [(2001,vR (.I 0) 1),(2002,vR (.I 0) 1),(2003,vR (.agg [.nl,.I 0]) 2),(2005,vR (c7.Pv a0) 2)]) (λq10 h=>?_) λκ9 h=>?_
 ·refine S4 4 J ?_;refine b9 ?_;cases h;exact⟨J,[_,_,_],⟨oL J J J a2N a1l nl J,⟨oS J J J K1 J,⟨oS J J J a85 J,tr⟩⟩⟩,J,io⟩
 ·refine S3 1 J ?_;refine cF h a6q J J λv11 _ h=>yN<|k9<|a2H (WPE (λl=>if l=2006 then 6 else if l=2007 then 5 else if l=2008 then 4 else if l=2009 then 3 else if l=2010 then 2 else l) [(2,.ptr 2010 0 0),(3,.ptr 2009 0 0),(4,.ptr 2008 0 0),(5,.ptr 2007 0 0),(6,.ptr 2006 0 0),(10,.fn (.func 221) [.rptr (c7.Pc v11)])] [(2006,vR (.I 0) 1),(2007,vR (.I 0) 1),(2008,vR (.agg [.nl,.I 0]) 2),(2009,vR (m7.Pv a1) 6),(2010,vR (c7.Pv a0) 2)]) ?_;refine a1C (fn:=Tryz.f221) (N1:=23) J Tryz.func221 J J nl J c5M J J (λl19 e20 o21 hR22=>?_);refine S3 2 J<|nL J Q8<|S2 1 J<|k9<|lq h (λs13=>St.of [(1000002,.ptr 2010 0 0),(1000003,.ptr 2009 0 0),(1000004,.ptr 2008 0 0),(1000005,.ptr 2007 0 0),(1000006,.ptr 2006 0 0),(1000010,.fn (.func 221) [.rptr (c7.Pc v11)]),(0,.fn (.yield l19) []),(6,.L b7.Pv v11.a8),(7,.I (v11.a8.length:Int)),(8,.I s13)] [(2006,vR (.I 0) 1),(2007,vR (.I 0) 1),(2008,vR (.agg [.nl,.I 0]) 2),(2009,vR (m7.Pv a1) 6),(2010,vR (c7.Pv a0) 2)]) W λs13 x14 h hx25=>S4 1 J<|k8 ?_;refine cN h (λhc h=>?_) λhc h=>?_
  ·refine g5 ?_;refine k8<|k9<|S3 1 J<|iL h J J Q8 a0r λv15 _ h=>S2 4 J<|S3 4 J<|n9 J (λhg=>om (d:=.fn (.yield l19) []) J)<|n9 J (λhg=>mI J) ?_;rcases Bool.eq_false_or_eq_true ((v15.State==0)==true) with hg27 | hg27
   ·have h:=ifT h hg27;refine Q3 (WE [(1000002,.ptr 2010 0 0),(1000003,.ptr 2009 0 0),(1000004,.ptr 2008 0 0),(1000005,.ptr 2007 0 0),(1000006,.ptr 2006 0 0),(1000010,.fn (.func 221) [.rptr (c7.Pc v11)]),(0,.fn (.yield l19) []),(6,.L b7.Pv v11.a8),(7,.I (v11.a8.length:Int)),(8,.I s13),(16,.bool (v15.State==0)),(17,.fn (.yield l19) []),(18,.I s13)] [(2006,vR (.I 0) 1),(2007,vR (.I 0) 1),(2008,vR (.agg [.nl,.I 0]) 2),(2009,vR (m7.Pv a1) 6),(2010,vR (c7.Pv a0) 2)]) ?_;refine a6A hR22 (congrArg some hg27) J J J J J (λe28 o29 o30=>?_);refine S6 1 J ?_;refine⟨J,?_⟩;refine k9<|S3 3 J<|iL h J J Q8 a0r λv16 _ h=>S2 3 J<|S3 4 J<|y0 J (u4 (cs:=[.I 1,.I v16.Gen,.I a1.Serial,.I a1.Strong,.I a1.Weak,.I a1.Prog,.bool a1.Started,.L iF a1.Fields]) J b5y b0X J J J)<|cF h G8 J J λv17 _ h=>S1 2 J<|cA h a7d J J λv18 _ h=>S2 3 J<|b9 ?_;refine⟨J,?_⟩;refine Q3 (WE [(1000002,.ptr 2010 0 0),(1000003,.ptr 2009 0 0),(1000004,.ptr 2008 0 0),(1000005,.ptr 2007 0 0),(1000006,.ptr 2006 0 0),(1000010,.fn (.func 221) [.rptr (c7.Pc v11)]),(0,.fn (.yield l19) []),(6,.L b7.Pv v11.a8),(7,.I (v11.a8.length:Int)),(8,.I s13),(16,.bool (v15.State==0)),(19,.bool false)] [(2006,vR (.I 0) 1),(2007,vR (.I v18) 1),(2008,vR (c7.Pv v17) 2),(2009,vR (m7.Pv a1) 6),(2010,vR (c7.Pv a0) 2)])<|y0 (congrArg some hg27) (a6I J J)<|y0 J (a58 J J hg27)<|yN ?_;refine G5 true J (λ_=>?_) (λq=>nomatch q);refine b9 ?_;refine .inr ⟨.ret,J,c6q ?_⟩;have h:=xL hx25 h;cases h;exact⟨J,[_,_,_],⟨oL J J J a2N a1l nl J,⟨oS J J J K1 J,⟨oS J J J a85 J,tr⟩⟩⟩,J,io⟩
   ·have h:=ifF h hg27;refine a1N (congrArg some hg27)<|a1N (congrArg some hg27)<|y0 J (a78 J J hg27)<|yN ?_;refine G5 false J (λq=>nomatch q) (λ_=>?_);refine g5<|S6 2 J ?_;exact eL h W
  ·refine u9 ?_;refine g9<|g9<|n8 ?_;refine .inl ⟨J,?_⟩;have h:=xL hx25 h;exact eJ h (WP (λl=>if l=2005 then 2010 else if l=2003 then 2008 else if l=2002 then 2007 else if l=2001 then 2006 else l))

theorem b4C{a0 a1 a2}:PO Tryz.prog 121 [a7.Pv a0,.I a1,.I a2] (Q2 a0 a1 a2) λr=>.tup [a7.Pv r.1,.I r.2.1,.I r.2.2]:=by
 refine pO Tryz.func121 λr h _ _=>?_;refine S4 4 J<|S3 1 J<|cF h b98 J J λv1 _ h=>S2 5 J<|k8<|S4 2 J ?_;refine cN h (λhc h=>?_) λhc h=>?_
 ·refine S4 5 J ?_;refine b9 ?_;cases h;exact⟨J,[_,_,_],⟨oL J J J a5C a5F nl J,⟨J,⟨J,tr⟩⟩⟩,J,io⟩
 ·refine g5 ?_;refine k8<|S3 1 J<|cA h a7L J J λv2 _ h=>S2 1 J ?_;refine cN h (λhc h=>?_) λhc h=>?_
  ·refine S4 4 J ?_;refine b9 ?_;cases h;exact⟨J,[_,_,_],⟨oL J J J a5C a5F nl J,⟨J,⟨J,tr⟩⟩⟩,J,io⟩
  ·refine g5 ?_;refine S3 7 J<|y0 J (u4 (cs:=[.I (p7 (a0.Serial+1)),.I 0,.I 0,.I a2,.bool false,.L iF v1.1]) J c8q c8w J J J)<|cF h a6p J J λv3 _ h=>S2 8 J<|k8<|S4 2 J ?_;refine cN h (λhc h=>?_) λhc h=>?_
   ·refine S4 5 J ?_;refine b9 ?_;cases h;exact⟨J,[_,_,_],⟨oL J J J a5C a5F nl J,⟨J,⟨J,tr⟩⟩⟩,J,io⟩
   ·refine g5 ?_;refine S3 4 J<|y0 J (u4 (cs:=[.L b7.Pv v3.1.a8,.I v3.1.Last,.I (p7 (a0.Serial+1))]) J c2M c2X J J J)<|S2 4 J<|b9 ?_;cases h;exact⟨J,[_,_,_],⟨oL J J J a5C a5F nl J,⟨J,⟨J,tr⟩⟩⟩,J,io⟩

theorem a6E{a0}:PO Tryz.prog 213 [.I a0] (a1r a0) λr=>.tup [.I r.1,.I r.2.1,.bool r.2.2]:=by
 refine pO Tryz.func213 λr h _ _=>?_;refine S4 3 J<|k8<|S4 2 J ?_;refine cN h (λhc h=>?_) λhc h=>?_
 ·refine S4 3 J ?_;refine b9 ?_;cases h;exact f3
 ·refine g5 ?_;refine S3 2 J<|A5 h λv1 hv1 h=>y0 J (a5c J J hv1)<|A5 h λv2 hv2 h=>y0 J (a5c J J hv2)<|S1 2 J<|A5 h λv3 hv3 h=>y0 J (a5c J J hv3)<|S2 2 J<|k8<|S3 3 J<|n9 J (λhg=>mI J)<|n9 J (λhg=>D7 (ct hg) J J)<|y0 J (O7 J J J (λq=>eqF q))<|yN ?_;refine cN h (λhc h=>?_) λhc h=>?_
  ·refine S4 3 J ?_;refine b9 ?_;cases h;exact f3
  ·refine g5 ?_;refine S4 5 J<|b9 ?_;cases h;exact f3

theorem a7e{a0}:PO Tryz.prog 187 [.I a0] (a2A a0) λr=>.I r:=by
 refine pO Tryz.func187 λr h _ _=>?_;refine S4 1 J<|S3 1 J<|cA h a6E J J λv1 _ h=>S2 7 J<|S4 2 J<|b9 ?_;cases h;exact f1

theorem a8V{a0}:PO Tryz.prog 188 [.I a0] (a3I a0) λr=>.I r:=by
 refine pO Tryz.func188 λr h _ _=>?_;refine S4 1 J<|S3 1 J<|cA h a6E J J λv1 _ h=>S2 7 J<|S4 2 J<|b9 ?_;cases h;exact f1

theorem G7{a0 a1}:PO Tryz.prog 155 [c7.Pv a0,.I a1] (r8 a0 a1) λr=>.tup [.I r.1,.I r.2]:=by
 refine pO Tryz.func155 λr h _ _=>?_;refine S4 3 J<|k8<|S4 2 J ?_;refine cN h (λhc h=>?_) λhc h=>?_
 ·refine S4 2 J ?_;refine b9 ?_;cases h;exact f2
 ·refine g5 ?_;refine S3 1 J<|cA h a7e J J λv1 _ h=>S2 1 J<|k8<|S3 3 J<|n9 J (λhg=>mI J)<|n9 J (λhg=>oF J c2C J)<|n9 J (λhg=>oS (ct hg) J J c8g J)<|n9 J (λhg=>a5d (f:=b7.Pv) (ct hg) Q8)<|n9 J (λhg=>D7 (ct hg) (ct hg) J)<|y0 J (O7 J J J (λq=>eqF q))<|yN ?_;refine cN h (λhc h=>?_) λhc h=>?_
  ·refine S4 2 J ?_;refine b9 ?_;cases h;exact f2
  ·refine g5 ?_;refine S3 3 J<|iL h J J Q8 a0r λv2 _ h=>S2 3 J<|k8<|dr [] u5 (by kernel_rfl) (by kernel_rfl)<|S7 3 J<|A5 h λv3 hv3 h=>d2 J (U0 J a8V J hv3) J<|S7 2 J<|a9O J (λhg _ hN=>oF J b7m J) J<|b4P J (λhg=>oS (ct hg) J J K1 J) J<|a9O J (λhg _ hN=>D7 (ct hg) J J) J<|a9O J (λhg _ hN=>om (d:=.bool (v2.State != 1)) (ct hg)) J<|a9O (c5n J J J) (λhg _ hN=>oF J b7m J) J<|b4P (c5n J J J) (λhg=>oS (ct hg) J J K1 J) J<|a9O (c5n J J J) (λhg _ hN=>D7 (ct hg) J J) J<|a9O J (λhg _ hN=>D9 (ct hg) J J (λq=>d1V hg (eqT q))) J<|d7 J (λ_ hN=>O7 J J J (λq=>eqF q)) J<|M7 ?_;refine cN h (λhc h=>?_) λhc h=>?_
   ·refine S4 2 J ?_;refine b9 ?_;cases h;exact f2
   ·refine g5 ?_;refine S4 3 J<|b9 ?_;cases h;exact f2

theorem a1V{a0 a1}:PO Tryz.prog 98 [c7.Pv a0,.I a1] (C0 a0 a1) λr=>.tup [m7.Pv r.1,.I r.2]:=by
 refine pO Tryz.func98 λr h _ _=>?_;refine S4 3 J<|S4 1 J<|S3 2 J<|cA h G7 J J λv1 _ h=>S2 5 J<|k8<|S4 2 J ?_;refine cN h (λhc h=>?_) λhc h=>?_
 ·refine S3 2 J ?_;refine a7R (x':=.agg [.I 0,.I 0,.I 0,.I 0,.bool false,.nl]) (cl':=true) J J (.inl J) a61<|S2 1 J<|b9 ?_;cases h;exact⟨J,[_,_],⟨oL J J J b2O a61 nl J,⟨J,tr⟩⟩,J,io⟩
 ·refine g5 ?_;refine k8<|S3 3 J<|iL h J J Q8 a0r λv2 hv2 h=>S2 3 J ?_;refine cN h (λhc h=>?_) λhc h=>?_
  ·refine S3 1 J ?_;refine a7R (x':=.agg [.I 0,.I 0,.I 0,.I 0,.bool false,.nl]) (cl':=true) J J (.inl J) a61<|S2 1 J<|b9 ?_;cases h;exact⟨J,[_,_],⟨oL J J J b2O a61 nl J,⟨J,tr⟩⟩,J,io⟩
  ·refine g5 ?_;refine S3 3 J<|y0 J (Y0 (f:=b7.Pv) (cs:=b7.Pc v2) hv2 J J Q8 a0r J J)<|S2 4 J<|b9 ?_;cases h;exact⟨J,[_,_],⟨oL J J J b2O a61 nl J,⟨J,tr⟩⟩,J,io⟩

theorem A6{a0 a1}:PO Tryz.prog 54 [a7.Pv a0,.I a1] (u6 a0 a1) λr=>.tup [m7.Pv r.1,.I r.2]:=by
 refine pO Tryz.func54 λr h _ _=>?_;refine S4 3 J<|S3 3 J<|cF h a1V J J λv1 _ h=>S2 4 J<|b9 ?_;cases h;exact⟨J,[_,_],⟨oL J J J b2O a61 nl J,⟨J,tr⟩⟩,J,io⟩

theorem b3e{a0 a1}:PO Tryz.prog 204 [b6.Pv a0,.I a1] (a4n a0 a1) λr=>.bool r:=by
 refine pO Tryz.func204 λr h _ _=>?_;refine S4 2 J<|S3 3 J<|cF h A6 J J λv1 _ h=>S2 6 J<|S4 3 J<|b9 ?_;cases h;exact f1

theorem R5{a0 a1}:PO Tryz.prog 165 [b6.Pv a0,.I a1] (I6 a0 a1) λr=>.bool r:=by
 refine pO Tryz.func165 λr h _ _=>?_;unfold I6 at h;refine S4 2 J<|S3 3 J<|n9 J (λhg=>oL J J J p6 o0 nl J)<|n9 J (λhg=>mI J)<|A5 h λv1 hv1 h=>n9 J (λhg=>U0 J b3e (X6 (ct hg) (X6 (ct hg) J)) (Y1 hv1 hg))<|y0 J (O7 J J J (λq=>eqF q))<|S2 1 J<|b9 ?_;cases h;exact f1

theorem Y7{a0}:PO Tryz.prog 209 [.I a0] (E0 a0) λr=>.bool r:=by
 refine pO Tryz.func209 λr h _ _=>?_;unfold E0 at h;refine S4 1 J<|S4 3 J<|b9 ?_;cases h;exact f1

theorem a9M{a0}:PO Tryz.prog 179 [.I a0] (a3D a0) λr=>.tup [.I r.1,.I r.2]:=by
 refine pO Tryz.func179 λr h _ _=>?_;refine S4 2 J<|k8<|S3 1 J<|cA h Y7 J J λv1 _ h=>yN ?_;refine cN h (λhc h=>?_) λhc h=>?_
 ·refine S4 2 J ?_;refine b9 ?_;cases h;exact f2
 ·refine g5 ?_;refine S3 1 J<|y0 J (c4l J J J)<|S2 3 J<|b9 ?_;cases h;exact f2

theorem b5J{a0}:PO Tryz.prog 133 [.I a0] (a7U a0) λr=>.I r:=by
 refine pO Tryz.func133 λr h _ _=>?_;refine S4 1 J<|S3 1 J<|cA h a9M J J λv1 _ h=>S2 5 J<|S4 2 J<|b9 ?_;cases h;exact f1

theorem a6W{a0 a1 a2}:PO Tryz.prog 130 [c7.Pv a0,.I a1,m7.Pv a2] (I0 a0 a1 a2) λr=>.tup [c7.Pv r.1,.I r.2]:=by
 refine pO Tryz.func130 λr h _ _=>?_;refine S4 4 J<|S3 2 J<|cA h G7 J J λv1 _ h=>S2 5 J<|k8<|S4 2 J ?_;refine cN h (λhc h=>?_) λhc h=>?_
 ·refine S4 4 J ?_;refine b9 ?_;cases h;exact⟨J,[_,_],⟨oL J J J a2N a1l nl J,⟨J,tr⟩⟩,J,io⟩
 ·refine g5 ?_;refine S3 3 J<|iL h J J Q8 a0r λv2 _ h=>S2 3 J<|S4 3 J<|S3 3 J<|cF h G8 J J λv3 _ h=>S2 2 J<|b9 ?_;cases h;exact⟨J,[_,_],⟨oL J J J a2N a1l nl J,⟨J,tr⟩⟩,J,io⟩

theorem a0n{a0 a1 a2}:PO Tryz.prog 81 [a7.Pv a0,.I a1,m7.Pv a2] (I1 a0 a1 a2) λr=>.tup [a7.Pv r.1,.I r.2]:=by
 refine pO Tryz.func81 λr h _ _=>?_;refine S4 4 J<|S4 1 J<|S3 4 J<|cF h a6W J J λv1 _ h=>S2 6 J<|S4 4 J<|b9 ?_;cases h;exact⟨J,[_,_],⟨oL J J J a5C a5F nl J,⟨J,tr⟩⟩,J,io⟩

theorem a3L{a0 a1}:PO Tryz.prog 132 [b6.Pv a0,.I a1,.fn (.func 133) []] (R4 a0 a1) λr=>b6.Pv r:=by
 refine pO Tryz.func132 λr h _ _=>?_;refine S4 2 J<|S3 3 J<|cF h A6 J J λv1 _ h=>S2 6 J<|k8<|S4 2 J ?_;refine cN h (λhc h=>?_) λhc h=>?_
 ·refine S3 3 J ?_;refine cA h b5J J J λv2 _ h=>S2 2 J<|S5 4 J<|cF h a0n J J λv3 _ h=>S2 5 J<|S4 2 J<|b9 ?_;cases h;exact⟨J,[_],⟨oL J J J p6 o0 nl J,tr⟩,J,io⟩
 ·refine g5 ?_;refine S4 2 J<|b9 ?_;cases h;exact⟨J,[_],⟨oL J J J p6 o0 nl J,tr⟩,J,io⟩

theorem a1t{a0 a1}:PO Tryz.prog 83 [b6.Pv a0,.I a1] (Y9 a0 a1) λr=>b6.Pv r:=by
 refine pO Tryz.func83 λr h _ _=>?_;refine S4 2 J<|S3 2 J<|cF h a3L J J λv1 _ h=>S2 1 J<|b9 ?_;cases h;exact⟨J,[_],⟨oL J J J p6 o0 nl J,tr⟩,J,io⟩

theorem a4U{a0}:PON Tryz.prog 219 [.L iF a0] (J7 a0) λr=>⟨List.map iF r,0,true,1,true⟩:=by
 refine pON Tryz.func219 λr h _ _=>?_;unfold J7 at h;refine S4 1 J<|k8<|S3 1 J<|b67 J n0 λb hb=>yN ?_;refine G5 b J (λhc=>?_) (λhc=>?_)
 ·obtain rfl:a0 = []:=by simpa using hb hc
  refine S4 1 J<|a2H (X0 (t:=2) (l:=920000) (z:=1) J J)<|b9 ?_;cases h;exact⟨J,_,_,J,J,J,J⟩
 ·refine g5 ?_;refine sR<|y0 J (b3p J n0 s7)<|S1 1 J<|y1 J (b7X (f:=iF) h J J (.inl ⟨_,J,J⟩) n0 s7 Y5 F0 J (λ_=>J)) J<|S2 1 J<|b9 ?_;exact⟨J,_,_,J,J,J,J⟩

theorem a6T{a0 a1}:PO Tryz.prog 197 [G2.Pv a0,b6.Pv a1] (M8 a0 a1) λr=>b6.Pv r:=by
 refine pO Tryz.func197 λr h _ _=>?_;unfold M8 at h;refine S4 3 J<|S3 2 J<|A5 h λv1 hv1 h=>ycN J (b5b J a4U J hv1) J J<|S2 2 J<|S3 6 J<|A5 h λv2 hv2 h=>y0 J (a8Y (f:=iF) hv2 J J J J n0 s7 J)<|b4b (f:=iF) (v:=a0.h) hv2 J J (.inl J) s7<|yN<|S4 2 J<|b9 ?_;cases h;exact⟨J,[_],⟨oL J J J p6 o0 nl J,tr⟩,J,io⟩

theorem a8z{a0}:PO Tryz.prog 189 [.I a0] (a12 a0) λr=>.tup [.I r.1,.I r.2]:=by
 refine pO Tryz.func189 λr h _ _=>?_;refine S4 2 J<|k8<|S3 1 J<|cA h Y7 J J λv1 _ h=>yN ?_;refine cN h (λhc h=>?_) λhc h=>?_
 ·refine S4 2 J ?_;refine b9 ?_;cases h;exact f2
 ·refine g5 ?_;refine k8<|S4 2 J ?_;refine cN h (λhc h=>?_) λhc h=>?_
  ·refine S4 2 J ?_;refine b9 ?_;cases h;exact f2
  ·refine g5 ?_;refine S4 4 J<|b9 ?_;cases h;exact f2

theorem b5I{a0}:PO Tryz.prog 140 [.I a0] (b00 a0) λr=>.tup [.I r.1,.I r.2]:=by
 refine pO Tryz.func140 λr h _ _=>?_;refine S4 2 J<|S3 1 J<|cA h a8z J J λv1 _ h=>S2 5 J<|S4 4 J<|b9 ?_;cases h;exact f2

theorem a98{a0}:PO Tryz.prog 139 [.I a0] (a1s a0) λr=>.I r:=by
 refine pO Tryz.func139 λr h _ _=>?_;refine S4 1 J<|S3 1 J<|cA h b5I J J λv1 _ h=>S2 5 J<|k8<|S4 2 J ?_;refine cN h (λhc h=>?_) λhc h=>?_
 ·refine S4 2 J ?_;refine b9 ?_;cases h;exact f1
 ·refine g5 ?_;refine S4 2 J<|b9 ?_;cases h;exact f1

theorem a1P{a0 a1}:PO Tryz.prog 132 [b6.Pv a0,.I a1,.fn (.func 139) []] (K8 a0 a1) λr=>b6.Pv r:=by
 refine pO Tryz.func132 λr h _ _=>?_;refine S4 2 J<|S3 3 J<|cF h A6 J J λv1 _ h=>S2 6 J<|k8<|S4 2 J ?_;refine cN h (λhc h=>?_) λhc h=>?_
 ·refine S3 3 J ?_;refine cA h a98 J J λv2 _ h=>S2 2 J<|S5 4 J<|cF h a0n J J λv3 _ h=>S2 5 J<|S4 2 J<|b9 ?_;cases h;exact⟨J,[_],⟨oL J J J p6 o0 nl J,tr⟩,J,io⟩
 ·refine g5 ?_;refine S4 2 J<|b9 ?_;cases h;exact⟨J,[_],⟨oL J J J p6 o0 nl J,tr⟩,J,io⟩

theorem U5{a0 a1}:PO Tryz.prog 90 [b6.Pv a0,.I a1] (B1 a0 a1) λr=>b6.Pv r:=by
 refine pO Tryz.func90 λr h _ _=>?_;refine S4 2 J<|S3 2 J<|cF h a1P J J λv1 _ h=>S2 1 J<|b9 ?_;cases h;exact⟨J,[_],⟨oL J J J p6 o0 nl J,tr⟩,J,io⟩

theorem a0W{a0 a1 a2 a3}:PO Tryz.prog 166 [b6.Pv a0,.I a1,.I a2,.abs (BFn 197 [G2.Pv a3])] (D4 a0 a1 a2 a3) λr=>b6.Pv r:=by
 refine pO Tryz.func166 λr h _ _=>?_;refine S4 2 J<|S3 3 J<|cF h a1t J J λv1 _ h=>A5 h λv2 hv2 h=>b66 (xs:=[b6.Pv v1]) J J c5L J (a6T.2 _ hv2)<|S1 1 J<|cF h U5 J J λv3 _ h=>S2 1 J<|b9 ?_;cases h;exact⟨J,[_],⟨oL J J J p6 o0 nl J,tr⟩,J,io⟩

theorem a5W{a0 a1 a2}:PO Tryz.prog 145 [b6.Pv a0,.I a1,.I a2] (a0f a0 a1 a2) λr=>.tup [b6.Pv r.1,.I r.2]:=by
 refine pO Tryz.func145 λr h _ _=>?_;refine S4 3 J<|k8<|S3 3 J<|n9 J (λhg=>mI J)<|n9 J (λhg=>oF J b7j J)<|n9 J (λhg=>oS (ct hg) J J b8Q J)<|n9 J (λhg=>a5d (f:=iF) (ct hg) n0)<|n9 J (λhg=>D7 (ct hg) (ct hg) J)<|y0 J (O7 J J J (λq=>eqF q))<|yN ?_;refine cN h (λhc h=>?_) λhc h=>?_
 ·refine S4 3 J ?_;refine b9 ?_;cases h;exact⟨J,[_,_],⟨oL J J J p6 o0 nl J,⟨J,tr⟩⟩,J,io⟩
 ·refine g5 ?_;refine k8<|S3 2 J<|cA h R5 J J λv1 _ h=>S2 1 J ?_;refine cN h (λhc h=>?_) λhc h=>?_
  ·refine S4 3 J ?_;refine b9 ?_;cases h;exact⟨J,[_,_],⟨oL J J J p6 o0 nl J,⟨J,tr⟩⟩,J,io⟩
  ·refine g5 ?_;refine dr [] u5 (by kernel_rfl) (by kernel_rfl)<|S7 4 J<|A5 h λv2 hv2 h=>d0 J (Y0 (f:=iF) (cs:=[.I v2]) hv2 J J n0 s7 J J) J<|S7 4 J<|d7 J (λ_ hN=>u4 (cs:=[.I a1,.I a2]) J c5U c52 J J J) J<|d7 J (λ_ hN=>b1i (d:=.agg [.I a1,.I a2]) J) J<|A5 h λv3 hv3 h=>d2f J (s6 J a0W J hv3) J<|A9 (x':=b6.Pv v3) (cl':=true) J J (.inr J) o0<|S8 1 J<|b9 ?_;cases h;exact⟨J,[_,_],⟨oL J J J p6 o0 nl J,⟨J,tr⟩⟩,J,io⟩

theorem F2{a0 a1 a2}:PO Tryz.prog 122 [o8.Pv a0,.I a1,.I a2] (A3 a0 a1 a2) λr=>.tup [b6.Pv r.1,.I r.2]:=by
 refine pO Tryz.func122 λr h _ _=>?_;refine S4 3 J<|k8<|S4 2 J ?_;refine cN h (λhc h=>?_) λhc h=>?_
 ·refine S4 5 J ?_;refine b9 ?_;cases h;exact⟨J,[_,_],⟨oL J J J p6 o0 nl J,⟨J,tr⟩⟩,J,io⟩
 ·refine g5 ?_;refine S3 6 J<|cF h a5W J J λv1 _ h=>S2 4 J<|b9 ?_;cases h;exact⟨J,[_,_],⟨oL J J J p6 o0 nl J,⟨J,tr⟩⟩,J,io⟩

theorem a1x{a0}:PO Tryz.prog 65 [o8.Pv a0] (Q4 a0) λr=>.tup [b6.Pv r.1,.I r.2]:=by
 refine pO Tryz.func65 λr h _ _=>?_;refine S4 3 J<|S3 9 J<|cF h b4C J J λv1 _ h=>S2 8 J<|k8<|S4 2 J ?_;refine cN h (λhc h=>?_) λhc h=>?_
 ·refine S4 5 J ?_;refine b9 ?_;cases h;exact⟨J,[_,_],⟨oL J J J p6 o0 nl J,⟨J,tr⟩⟩,J,io⟩
 ·refine g5 ?_;refine S4 4 J<|S3 2 J<|cF h F2 J J λv2 _ h=>S2 4 J<|b9 ?_;cases h;exact⟨J,[_,_],⟨oL J J J p6 o0 nl J,⟨J,tr⟩⟩,J,io⟩

theorem K9{a0 a1}:PO Tryz.prog 78 [b6.Pv a0,.I a1] (I8 a0 a1) λr=>.I r:=by
 refine pO Tryz.func78 λr h _ _=>?_;refine S4 2 J<|k8<|S3 3 J<|n9 J (λhg=>mI J)<|n9 J (λhg=>oF J b7j J)<|n9 J (λhg=>oS (ct hg) J J b8Q J)<|n9 J (λhg=>a5d (f:=iF) (ct hg) n0)<|n9 J (λhg=>D7 (ct hg) (ct hg) J)<|y0 J (O7 J J J (λq=>eqF q))<|yN ?_;refine cN h (λhc h=>?_) λhc h=>?_
 ·refine S4 1 J ?_;refine b9 ?_;cases h;exact f1
 ·refine g5 ?_;refine S3 3 J<|iL h J J n0 s7 λv1 _ h=>S2 2 J<|b9 ?_;cases h;exact f1

theorem a0q{a0}:PO Tryz.prog 66 [o8.Pv a0] (G4 a0) λr=>.tup [b6.Pv r.1,.I r.2]:=by
 refine pO Tryz.func66 λr h _ _=>?_;unfold G4 at h;refine S4 3 J<|dr [] u5 (by kernel_rfl) (by kernel_rfl)<|S7 6 J<|A5 h λv1 hv1 h=>d2 J (U0 J K9 J hv1) J<|A5 h λv2 hv2 h=>d2f J (s6 J F2 J hv2) J<|S7 2 J<|A9 (x':=b6.Pv v2.1) (cl':=true) J J (.inr J) o0<|S8 1 J<|b9 ?_;cases h;exact⟨J,[_,_],⟨oL J J J p6 o0 nl J,⟨J,tr⟩⟩,J,io⟩

theorem a2D{a0}:PO Tryz.prog 67 [o8.Pv a0] (X7 a0) λr=>.tup [b6.Pv r.1,.I r.2]:=by
 refine pO Tryz.func67 λr h _ _=>?_;refine S4 3 J<|S3 1 J<|cF h F2 J J λv1 _ h=>S2 4 J<|b9 ?_;cases h;exact⟨J,[_,_],⟨oL J J J p6 o0 nl J,⟨J,tr⟩⟩,J,io⟩

theorem O5{a0 a1}:PO Tryz.prog 123 [b6.Pv a0,.I a1] (J5 a0 a1) λr=>.tup [.I r.1,.I r.2]:=by
 refine pO Tryz.func123 λr h _ _=>?_;refine S4 3 J<|S3 2 J<|cA h K9 J J λv1 _ h=>S2 1 J<|k8<|S4 2 J ?_;refine cN h (λhc h=>?_) λhc h=>?_
 ·refine S4 2 J ?_;refine b9 ?_;cases h;exact f2
 ·refine g5 ?_;refine S4 3 J<|b9 ?_;cases h;exact f2

theorem b34{a0 a1}:PO Tryz.prog 203 [.L iF a0,.I a1] (a6x a0 a1) λr=>.bool r:=by
 refine pO Tryz.func203 λr h _ _=>?_;unfold a6x at h;refine S4 1 J<|S3 3 J<|n9 J (λhg=>mI J)<|n9 J (λhg=>om (d:=.L iF a0) J)<|n9 J (λhg=>a5d (f:=iF) (ct hg) n0)<|n9 J (λhg=>D7 (ct hg) (ct hg) J)<|y0 J (D9 J J J (λq=>eqT q))<|S2 1 J<|b9 ?_;cases h;exact f1

theorem c2u{a0 a1}:PO Tryz.prog 164 [.L iF a0,.I a1] (b1K a0 a1) λr=>.tup [.I r.1,.I r.2]:=by
 refine pO Tryz.func164 λr h _ _=>?_;refine S4 2 J<|k8<|S3 2 J<|cA h b34 J J λv1 _ h=>S2 1 J ?_;refine cN h (λhc h=>?_) λhc h=>?_
 ·refine S4 2 J ?_;refine b9 ?_;cases h;exact f2
 ·refine g5 ?_;refine S3 2 J<|iL h J J n0 s7 λv2 _ h=>S2 3 J<|b9 ?_;cases h;exact f2

theorem a7K{a0 a1 a2}:PO Tryz.prog 124 [a7.Pv a0,.I a1,.I a2] (Z8 a0 a1 a2) λr=>.tup [.I r.1,.I r.2]:=by
 refine pO Tryz.func124 λr h _ _=>?_;refine S4 3 J<|S3 2 J<|cF h A6 J J λv1 _ h=>S2 6 J<|k8<|S4 2 J ?_;refine cN h (λhc h=>?_) λhc h=>?_
 ·refine S4 3 J ?_;refine b9 ?_;cases h;exact f2
 ·refine g5 ?_;refine S3 3 J<|cA h c2u J J λv2 _ h=>S2 4 J<|b9 ?_;cases h;exact f2

theorem a2E{a0}:PO Tryz.prog 68 [o8.Pv a0] (X8 a0) λr=>.tup [b6.Pv r.1,.I r.2]:=by
 refine pO Tryz.func68 λr h _ _=>?_;refine S4 3 J<|S3 5 J<|cA h O5 J J λv1 _ h=>S2 5 J<|k8<|S4 2 J ?_;refine cN h (λhc h=>?_) λhc h=>?_
 ·refine S4 5 J ?_;refine b9 ?_;cases h;exact⟨J,[_,_],⟨oL J J J p6 o0 nl J,⟨J,tr⟩⟩,J,io⟩
 ·refine g5 ?_;refine dr [] u5 (by kernel_rfl) (by kernel_rfl)<|S7 8 J<|A5 h λv2 hv2 h=>d2 J (U0 J a7K J hv2) J<|S7 2 J<|A5 h λv3 hv3 h=>d2f J (s6 J F2 J hv3) J<|S7 2 J<|A9 (x':=b6.Pv v3.1) (cl':=true) J J (.inr J) o0<|S8 1 J<|b9 ?_;cases h;exact⟨J,[_,_],⟨oL J J J p6 o0 nl J,⟨J,tr⟩⟩,J,io⟩

theorem b8C{a0 a1 a2}:PO Tryz.prog 222 [.L iF a0,.I a1,.I a2] (b33 a0 a1 a2) λr=>.tup [.L iF r.1,.I r.2]:=by
 refine pO Tryz.func222 λr h _ _=>?_;refine S4 2 J<|k8<|S3 2 J<|cA h b34 J J λv1 _ h=>S2 1 J ?_;refine cN h (λhc h=>?_) λhc h=>?_
 ·refine S4 3 J ?_;refine b9 ?_;cases h;exact f2
 ·refine g5 ?_;refine S3 1 J<|nL J n0<|A5 h λv2 hv2 h=>y1 J (b9y (f:=iF) hv2 J J J n0 s7 F0 Y5 J J J) J<|S2 1 J<|S3 2 J<|A5 h λv3 hv3 h=>d1G (f:=iF) hv3 J J J (.inl ⟨_,J,J⟩) n0 s7 (λ_=>J) (by decide)<|yN<|S3 3 J<|A5 h λv4 hv4 h=>y0 J (a8Y (f:=iF) hv4 J J J J n0 s7 J)<|b4b (f:=iF) (v:=a2) hv4 J J (.inl J) s7<|yN<|S4 3 J<|b9 ?_;cases h;exact f2

theorem b6W{a0 a1 a2 a3}:PO Tryz.prog 205 [a7.Pv a0,.I a1,.I a2,.I a3] (a8r a0 a1 a2 a3) λr=>.tup [a7.Pv r.1,.I r.2]:=by
 refine pO Tryz.func205 λr h _ _=>?_;refine S4 3 J<|S3 2 J<|cF h A6 J J λv1 _ h=>S2 6 J<|k8<|S4 2 J ?_;refine cN h (λhc h=>?_) λhc h=>?_
 ·refine S4 4 J ?_;refine b9 ?_;cases h;exact⟨J,[_,_],⟨oL J J J a5C a5F nl J,⟨J,tr⟩⟩,J,io⟩
 ·refine g5 ?_;refine k8<|S3 4 J<|cF h b8C J J λv2 _ h=>S2 6 J<|S4 2 J ?_;refine cN h (λhc h=>?_) λhc h=>?_
  ·refine S4 4 J ?_;refine b9 ?_;cases h;exact⟨J,[_,_],⟨oL J J J a5C a5F nl J,⟨J,tr⟩⟩,J,io⟩
  ·refine g5 ?_;refine S3 3 J<|cF h a0n J J λv3 _ h=>S2 4 J<|b9 ?_;cases h;exact⟨J,[_,_],⟨oL J J J a5C a5F nl J,⟨J,tr⟩⟩,J,io⟩

theorem a5X{a0 a1}:PO Tryz.prog 167 [E8.Pv a0,b6.Pv a1] (a0t a0 a1) λr=>b6.Pv r:=by
 refine pO Tryz.func167 λr h _ _=>?_;refine S4 3 J<|S3 8 J<|cF h b6W J J λv1 _ h=>S2 5 J<|S4 2 J<|b9 ?_;cases h;exact⟨J,[_],⟨oL J J J p6 o0 nl J,tr⟩,J,io⟩

theorem a0F{a0 a1 a2 a3}:PO Tryz.prog 166 [b6.Pv a0,.I a1,.I a2,.abs (BFn 167 [E8.Pv a3])] (G3 a0 a1 a2 a3) λr=>b6.Pv r:=by
 refine pO Tryz.func166 λr h _ _=>?_;refine S4 2 J<|S3 3 J<|cF h a1t J J λv1 _ h=>A5 h λv2 hv2 h=>b66 (xs:=[b6.Pv v1]) J J c5H J (a5X.2 _ hv2)<|S1 1 J<|cF h U5 J J λv3 _ h=>S2 1 J<|b9 ?_;cases h;exact⟨J,[_],⟨oL J J J p6 o0 nl J,tr⟩,J,io⟩

theorem b4u{a0 a1 a2 a3}:PO Tryz.prog 125 [b6.Pv a0,.I a1,.I a2,.I a3] (a16 a0 a1 a2 a3) λr=>.tup [b6.Pv r.1,.I r.2]:=by
 refine pO Tryz.func125 λr h _ _=>?_;refine S4 3 J<|S3 4 J<|cA h a7K J J λv1 _ h=>S2 5 J<|k8<|S4 2 J ?_;refine cN h (λhc h=>?_) λhc h=>?_
 ·refine S4 4 J ?_;refine b9 ?_;cases h;exact⟨J,[_,_],⟨oL J J J p6 o0 nl J,⟨J,tr⟩⟩,J,io⟩
 ·refine g5 ?_;refine k8<|S3 2 J<|cA h R5 J J λv2 _ h=>S2 1 J ?_;refine cN h (λhc h=>?_) λhc h=>?_
  ·refine S4 3 J ?_;refine b9 ?_;cases h;exact⟨J,[_,_],⟨oL J J J p6 o0 nl J,⟨J,tr⟩⟩,J,io⟩
  ·refine g5 ?_;refine S3 6 J<|y0 J (u4 (cs:=[.I a1,.I a2,.I a3]) J c5R c5Z J J J)<|y0 J (b1i (d:=.agg [.I a1,.I a2,.I a3]) J)<|cF h a0F J J λv3 _ h=>S2 2 J<|b9 ?_;cases h;exact⟨J,[_,_],⟨oL J J J p6 o0 nl J,⟨J,tr⟩⟩,J,io⟩

theorem a1T{a0}:PO Tryz.prog 69 [o8.Pv a0] (T9 a0) λr=>.tup [b6.Pv r.1,.I r.2]:=by
 refine pO Tryz.func69 λr h _ _=>?_;refine S4 3 J<|S3 5 J<|cA h O5 J J λv1 _ h=>S2 5 J<|k8<|S4 2 J ?_;refine cN h (λhc h=>?_) λhc h=>?_
 ·refine S4 5 J ?_;refine b9 ?_;cases h;exact⟨J,[_,_],⟨oL J J J p6 o0 nl J,⟨J,tr⟩⟩,J,io⟩
 ·refine g5 ?_;refine dr [] u5 (by kernel_rfl) (by kernel_rfl)<|S7 11 J<|A5 h λv2 hv2 h=>d2 J (U0 J K9 J hv2) J<|A5 h λv3 hv3 h=>d2f J (s6 J b4u J hv3) J<|S7 2 J<|A9 (x':=b6.Pv v3.1) (cl':=true) J J (.inr J) o0<|S8 1 J<|b9 ?_;cases h;exact⟨J,[_,_],⟨oL J J J p6 o0 nl J,⟨J,tr⟩⟩,J,io⟩

theorem b94{a0 a1}:PO Tryz.prog 206 [c9.Pv a0,.I a1] (b2I a0 a1) λr=>.fn (.func 223) [.rptr (c9.Pc r.1),.rptr [.I r.2]]:=by
 refine pO Tryz.func206 λr h _ _=>?_;unfold b2I at h;refine S4 3 J<|S4 2 J<|b9 ?_;cases h;exact f1

theorem b4D{a0 a1}:PO Tryz.prog 168 [c9.Pv a0,.I a1] (a32 a0 a1) λr=>.bool r:=by
 refine pO Tryz.func168 λr h _ _=>?_;refine S4 3 J ?_;refine jq h (λ_=>St.of [(4,.ptr 2001 0 0)] [(2001,vR (.bool false) 1)]) (λq7 h=>?_) λκ6 h=>?_
 ·refine S4 1 J ?_;refine b9 ?_;cases h;exact⟨J,[_],⟨oS J J J b7i J,tr⟩,J,io⟩
 ·refine S3 1 J ?_;refine cF h b94 J J λv8 _ h=>yN<|k9<|a2H (WPE (λl=>if l=2003 then 4 else if l=2004 then 3 else l) [(3,.ptr 2004 0 0),(4,.ptr 2003 0 0),(7,.fn (.func 223) [.rptr (c9.Pc v8.1),.rptr [.I v8.2]])] [(2003,vR (.bool false) 1),(2004,vR (.I a1) 1)]) ?_;refine a1C (fn:=Tryz.f223) (N1:=24) J Tryz.func223 J J nl J c5N J J (λl16 e17 o18 hR19=>?_);refine S3 2 J<|nL J a6Z<|S2 1 J<|k9<|lq h (λs10=>St.of [(1000003,.ptr 2004 0 0),(1000004,.ptr 2003 0 0),(1000007,.fn (.func 223) [.rptr (c9.Pc v8.1),.rptr [.I v8.2]]),(0,.fn (.yield l16) []),(2,.rptr [.I v8.2]),(7,.L k7.Pv v8.1.L),(8,.I (v8.1.L.length:Int)),(9,.I s10)] [(2003,vR (.bool false) 1),(2004,vR (.I a1) 1)]) W λs10 x11 h hx22=>S4 1 J<|k8 ?_;refine cN h (λhc h=>?_) λhc h=>?_
  ·refine g5 ?_;refine k8<|k9<|sR<|iL h J J a6Z K2 λv12 _ h=>S2 3 J<|S3 5 J<|n9 J (λhg=>om (d:=.fn (.yield l16) []) J)<|n9 J (λhg=>oL J J J a1j K2 nl J) ?_;rcases Bool.eq_false_or_eq_true ((v12.Kind==v8.2)==true) with hg24 | hg24
   ·have h:=ifT h hg24;refine Q3 (WE [(1000003,.ptr 2004 0 0),(1000004,.ptr 2003 0 0),(1000007,.fn (.func 223) [.rptr (c9.Pc v8.1),.rptr [.I v8.2]]),(0,.fn (.yield l16) []),(2,.rptr [.I v8.2]),(7,.L k7.Pv v8.1.L),(8,.I (v8.1.L.length:Int)),(9,.I s10),(17,.bool (v12.Kind==v8.2)),(18,.fn (.yield l16) []),(19,k7.Pv v12)] [(2003,vR (.bool false) 1),(2004,vR (.I a1) 1)]) ?_;refine a6A hR19 (congrArg some hg24) J J J J J (λe25 o26 o27=>?_);refine S6 2 J ?_;refine⟨J,?_⟩;refine k9<|S4 4 J ?_;refine cN h (λhc h=>?_) λhc h=>?_
    ·refine S4 1 J ?_;refine b9 ?_;refine⟨J,?_⟩;refine Q3 (WE [(1000003,.ptr 2004 0 0),(1000004,.ptr 2003 0 0),(1000007,.fn (.func 223) [.rptr (c9.Pc v8.1),.rptr [.I v8.2]]),(0,.fn (.yield l16) []),(2,.rptr [.I v8.2]),(7,.L k7.Pv v8.1.L),(8,.I (v8.1.L.length:Int)),(9,.I s10),(17,.bool (v12.Kind==v8.2)),(20,.bool false)] [(2003,vR (.bool true) 1),(2004,vR (.I a1) 1)])<|y0 (congrArg some hg24) (a6I J J)<|y0 J (a58 J J hg24)<|yN ?_;refine G5 true J (λ_=>?_) (λq=>nomatch q);refine b9 ?_;refine .inr ⟨.ret,J,c6q ?_⟩;have h:=xL hx22 h;cases h;exact⟨J,[_],⟨oS J J J b7i J,tr⟩,J,io⟩
    ·refine g5 ?_;refine⟨J,?_⟩;refine Q3 (WE [(1000003,.ptr 2004 0 0),(1000004,.ptr 2003 0 0),(1000007,.fn (.func 223) [.rptr (c9.Pc v8.1),.rptr [.I v8.2]]),(0,.fn (.yield l16) []),(2,.rptr [.I v8.2]),(7,.L k7.Pv v8.1.L),(8,.I (v8.1.L.length:Int)),(9,.I s10),(17,.bool (v12.Kind==v8.2)),(20,.bool true)] [(2003,vR (.bool false) 1),(2004,vR (.I a1) 1)])<|y0 (congrArg some hg24) (a6I J J)<|y0 J (a58 J J hg24)<|yN ?_;refine G5 false J (λq=>nomatch q) (λ_=>?_);refine g5<|S6 2 J ?_;exact eL h W
   ·have h:=ifF h hg24;refine a1N (congrArg some hg24)<|a1N (congrArg some hg24)<|y0 J (a78 J J hg24)<|yN ?_;refine G5 false J (λq=>nomatch q) (λ_=>?_);refine g5<|S6 2 J ?_;exact eL h W
  ·refine u9 ?_;refine g9<|g9<|n8 ?_;refine .inl ⟨J,?_⟩;have h:=xL hx22 h;exact eJ h (WP (λl=>if l=2001 then 2003 else l))

theorem b15{a0 a1}:PO Tryz.prog 172 [.L e6.Pv a0,.I a1] (a5z a0 a1) λr=>.bool r:=by
 refine pO Tryz.func172 λr h _ _=>?_;unfold a5z at h;refine S4 1 J<|S3 3 J<|n9 J (λhg=>mI J)<|n9 J (λhg=>om (d:=.L e6.Pv a0) J)<|n9 J (λhg=>a5d (f:=e6.Pv) (ct hg) W1)<|n9 J (λhg=>D7 (ct hg) (ct hg) J)<|y0 J (D9 J J J (λq=>eqT q))<|S2 1 J<|b9 ?_;cases h;exact f1

theorem a6N{a0}:PON Tryz.prog 183 [.L e6.Pv a0] (Z9 a0) λr=>⟨List.map e6.Pv r,0,true,3,true⟩:=by
 refine pON Tryz.func183 λr h _ _=>?_;unfold Z9 at h;refine S4 1 J<|S3 1 J<|nL J W1<|A5 h λv1 hv1 h=>y1 J (b9y (f:=e6.Pv) hv1 J J J W1 X4 b5z c0i J J J) J<|S2 1 J<|S3 2 J<|A5 h λv2 hv2 h=>d1G (f:=e6.Pv) hv2 J J J (.inl ⟨_,J,J⟩) W1 X4 (λ_=>J) (by decide)<|yN<|S4 2 J<|b9 ?_;cases h;exact⟨J,_,_,J,J,J,J⟩

theorem b8H{a0 a1 a2 a3}:PO Tryz.prog 169 [.L e6.Pv a0,.I a1,.I a2,.I a3] (b0Q a0 a1 a2 a3) λr=>.tup [.L e6.Pv r.1,.I r.2.1,.I r.2.2]:=by
 refine pO Tryz.func169 λr h _ _=>?_;refine S4 3 J<|k8<|S3 2 J<|cA h b15 J J λv1 _ h=>S2 1 J ?_;refine cN h (λhc h=>?_) λhc h=>?_
 ·refine S4 4 J ?_;refine b9 ?_;cases h;exact f3
 ·refine g5 ?_;refine S3 1 J<|A5 h λv2 hv2 h=>ycN J (b5b J a6N J hv2) J J<|S2 1 J<|S3 6 J<|y0 J (u4 (cs:=[.I a2,.bool (a2 != 0),.I a3]) J c5Q b5z J J J)<|A5 h λv3 hv3 h=>y0 J (a8Y (f:=e6.Pv) hv3 J J J J W1 X4 J)<|b4b (f:=e6.Pv) (v:=(⟨a2,(a2 != 0),a3⟩:e6)) hv3 J J (.inl J) X4<|yN<|dr [] u5 (by kernel_rfl) (by kernel_rfl)<|S7 3 J<|A5 h λv4 hv4 h=>d0 J (Y0 (f:=e6.Pv) (cs:=e6.Pc v4) hv4 J J W1 X4 J J) J<|S8 5 J<|b9 ?_;cases h;exact f3

theorem a7h{a0 a1 a2}:PO Tryz.prog 171 [b6.Pv a0,.I a1,.I a2] (a1b a0 a1 a2) λr=>b6.Pv r:=by
 refine pO Tryz.func171 λr h _ _=>?_;refine S4 2 J<|S3 4 J<|cA h G7 J J λv1 _ h=>S2 5 J<|k8<|S4 2 J ?_;refine cN h (λhc h=>?_) λhc h=>?_
 ·refine S3 5 J ?_;refine iL h J J Q8 a0r λv2 _ h=>S2 4 J<|S4 6 J<|S5 4 J<|cF h a0n J J λv3 _ h=>S2 5 J<|S4 2 J<|b9 ?_;cases h;exact⟨J,[_],⟨oL J J J p6 o0 nl J,tr⟩,J,io⟩
 ·refine g5 ?_;refine S4 2 J<|b9 ?_;cases h;exact⟨J,[_],⟨oL J J J p6 o0 nl J,tr⟩,J,io⟩

theorem a1I{a0 a1}:PO Tryz.prog 138 [c7.Pv a0,.I a1] (L1 a0 a1) λr=>.tup [c7.Pv r.1,.I r.2]:=by
 refine pO Tryz.func138 λr h _ _=>?_;refine S4 3 J<|S3 2 J<|cA h G7 J J λv1 _ h=>S2 5 J<|k8<|S4 2 J ?_;refine cN h (λhc h=>?_) λhc h=>?_
 ·refine S4 4 J ?_;refine b9 ?_;cases h;exact⟨J,[_,_],⟨oL J J J a2N a1l nl J,⟨J,tr⟩⟩,J,io⟩
 ·refine g5 ?_;refine S3 3 J<|iL h J J Q8 a0r λv2 _ h=>S2 3 J<|k8<|S4 4 J ?_;refine cN h (λhc h=>?_) λhc h=>?_
  ·refine S3 3 J ?_;refine y0 J (u4 (cs:=[.I 3,.I v2.Gen,.I 0,.I 0,.I 0,.I 0,.bool false,.nl]) J b5y b0X J J J)<|cF h G8 J J λv3 _ h=>S2 2 J<|b9 ?_;cases h;exact⟨J,[_,_],⟨oL J J J a2N a1l nl J,⟨J,tr⟩⟩,J,io⟩
  ·refine g5 ?_;refine S3 4 J<|y0 J (u4 (cs:=[.I 0,.I (p7 (v2.Gen+1)),.I 0,.I 0,.I 0,.I 0,.bool false,.nl]) J b5y b0X J J J)<|cF h G8 J J λv4 _ h=>S2 2 J<|b9 ?_;cases h;exact⟨J,[_,_],⟨oL J J J a2N a1l nl J,⟨J,tr⟩⟩,J,io⟩

theorem b1b{a0 a1}:PO Tryz.prog 170 [b6.Pv a0,.I a1] (a2p a0 a1) λr=>b6.Pv r:=by
 refine pO Tryz.func170 λr h _ _=>?_;refine S4 2 J<|S3 2 J<|cF h a7h J J λv1 _ h=>S2 1 J<|S3 4 J<|cA h G7 J J λv2 _ h=>S2 5 J<|k8<|S4 2 J ?_;refine cN h (λhc h=>?_) λhc h=>?_
 ·refine S4 2 J ?_;refine b9 ?_;cases h;exact⟨J,[_],⟨oL J J J p6 o0 nl J,tr⟩,J,io⟩
 ·refine g5 ?_;refine k8<|S3 5 J<|iL h J J Q8 a0r λv3 _ h=>S2 3 J<|S3 4 J<|n9 J (λhg=>oF J c2H J)<|n9 J (λhg=>oF (ct hg) c2G J)<|n9 J (λhg=>oS (ct hg) J J K1 J)<|n9 J (λhg=>D7 (ct hg) J J)<|y0 J (D9 J J J (λq=>eqT q))<|yN ?_;refine cN h (λhc h=>?_) λhc h=>?_
  ·refine S5 4 J ?_;refine cF h a1I J J λv4 _ h=>S2 6 J<|S4 2 J<|b9 ?_;cases h;exact⟨J,[_],⟨oL J J J p6 o0 nl J,tr⟩,J,io⟩
  ·refine g5 ?_;refine S4 2 J<|b9 ?_;cases h;exact⟨J,[_],⟨oL J J J p6 o0 nl J,tr⟩,J,io⟩

theorem a99{a0 a1 a2 a3}:PO Tryz.prog 126 [b6.Pv a0,.I a1,.I a2,.I a3] (a0g a0 a1 a2 a3) λr=>.tup [b6.Pv r.1,.I r.2]:=by
 refine pO Tryz.func126 λr h _ _=>?_;unfold a0g at h;refine S4 3 J<|k8<|S3 3 J<|n9 J (λhg=>mI J)<|n9 J (λhg=>oF J c2D J)<|n9 J (λhg=>oS (ct hg) J J c8h J)<|n9 J (λhg=>a5d (f:=e6.Pv) (ct hg) W1)<|n9 J (λhg=>D7 (ct hg) (ct hg) J)<|y0 J (O7 J J J (λq=>eqF q))<|S1 1 J<|n9 J (λhg=>oF J c2E J)<|n9 J (λhg=>oL (ct hg) J J a4H a1m nl J)<|n9 J (λhg=>mI J)<|A5 h λv1 hv1 h=>n9 J (λhg=>U0 J b4D (X6 (ct hg) (X6 (ct hg) J)) (Y1 hv1 hg))<|y0 J (O7 J J J (λq=>eqF q))<|yN ?_;refine cN h (λhc h=>?_) λhc h=>?_
 ·refine S4 3 J ?_;refine b9 ?_;cases h;exact⟨J,[_,_],⟨oL J J J p6 o0 nl J,⟨J,tr⟩⟩,J,io⟩
 ·refine g5 ?_;refine k8<|S3 2 J<|cA h R5 J J λv2 _ h=>S2 1 J ?_;refine cN h (λhc h=>?_) λhc h=>?_
  ·refine S4 3 J ?_;refine b9 ?_;cases h;exact⟨J,[_,_],⟨oL J J J p6 o0 nl J,⟨J,tr⟩⟩,J,io⟩
  ·refine g5 ?_;refine S3 5 J<|cF h b8H J J λv3 _ h=>S2 7 J<|S4 3 J<|S3 2 J<|cF h a7h J J λv4 _ h=>S1 1 J<|cF h b1b J J λv5 _ h=>S2 2 J<|b9 ?_;cases h;exact⟨J,[_,_],⟨oL J J J p6 o0 nl J,⟨J,tr⟩⟩,J,io⟩

theorem a1y{a0}:PO Tryz.prog 70 [o8.Pv a0] (Q5 a0) λr=>.tup [b6.Pv r.1,.I r.2]:=by
 refine pO Tryz.func70 λr h _ _=>?_;refine S4 3 J<|k8<|S4 4 J ?_;refine cN h (λhc h=>?_) λhc h=>?_
 ·refine S3 8 J ?_;refine cF h a99 J J λv1 _ h=>S2 4 J<|b9 ?_;cases h;exact⟨J,[_,_],⟨oL J J J p6 o0 nl J,⟨J,tr⟩⟩,J,io⟩
 ·refine g5 ?_;refine S3 5 J<|cA h O5 J J λv2 _ h=>S2 5 J<|k8<|S4 2 J ?_;refine cN h (λhc h=>?_) λhc h=>?_
  ·refine S4 5 J ?_;refine b9 ?_;cases h;exact⟨J,[_,_],⟨oL J J J p6 o0 nl J,⟨J,tr⟩⟩,J,io⟩
  ·refine g5 ?_;refine S3 9 J<|cF h a99 J J λv3 _ h=>S2 4 J<|b9 ?_;cases h;exact⟨J,[_,_],⟨oL J J J p6 o0 nl J,⟨J,tr⟩⟩,J,io⟩

theorem b65{a0 a1}:PO Tryz.prog 127 [.L e6.Pv a0,.I a1] (a5y a0 a1) λr=>.tup [.I r.1,.I r.2]:=by
 refine pO Tryz.func127 λr h _ _=>?_;refine S4 2 J<|k8<|S3 2 J<|cA h b15 J J λv1 _ h=>S2 1 J ?_;refine cN h (λhc h=>?_) λhc h=>?_
 ·refine S4 2 J ?_;refine b9 ?_;cases h;exact f2
 ·refine g5 ?_;refine k8<|S3 2 J<|iL h J J W1 X4 λv2 hv2 h=>S1 4 J<|n9 J (λhg=>om (d:=.L e6.Pv a0) J)<|n9 J (λhg=>mI J)<|n9 J (λhg=>Y0 (f:=e6.Pv) (cs:=e6.Pc v2) hv2 (ct hg) (ct hg) W1 X4 J J)<|n9 J (λhg=>O6 (ct hg) c1C J)<|n9 J (λhg=>Z1 (ct hg) b7i J)<|n9 J (λhg=>a6I (ct hg) J)<|y0 J (O7 J J J (λq=>eqF q))<|yN ?_;refine cN h (λhc h=>?_) λhc h=>?_
  ·refine S4 2 J ?_;refine b9 ?_;cases h;exact f2
  ·refine g5 ?_;refine S3 2 J<|y0 J (Y0 (f:=e6.Pv) (cs:=e6.Pc v2) hv2 J J W1 X4 J J)<|S2 4 J<|b9 ?_;cases h;exact f2

theorem a3N{a0}:PO Tryz.prog 71 [o8.Pv a0] (U7 a0) λr=>.tup [b6.Pv r.1,.I r.2]:=by
 refine pO Tryz.func71 λr h _ _=>?_;unfold U7 at h;refine S4 3 J<|dr [] u5 (by kernel_rfl) (by kernel_rfl)<|S7 7 J<|A5 h λv1 hv1 h=>d2 J (U0 J b65 J hv1) J<|S7 2 J<|A5 h λv2 hv2 h=>d2f J (s6 J F2 J hv2) J<|S7 2 J<|A9 (x':=b6.Pv v2.1) (cl':=true) J J (.inr J) o0<|S8 1 J<|b9 ?_;cases h;exact⟨J,[_,_],⟨oL J J J p6 o0 nl J,⟨J,tr⟩⟩,J,io⟩

theorem a96{a0 a1}:PO Tryz.prog 211 [.I a0,.I a1] (a3o a0 a1) λr=>.fn (.func 224) [.rptr [.I r.1],.rptr [.I r.2]]:=by
 refine pO Tryz.func211 λr h _ _=>?_;unfold a3o at h;refine S4 3 J<|S4 2 J<|b9 ?_;cases h;exact f1

theorem a93{a0 a1}:PO Tryz.prog 225 [.I a0,.I a1] (a0e a0 a1) λr=>.I r:=by
 refine pO Tryz.func225 λr h _ _=>?_;refine S4 1 J<|k8<|S4 2 J ?_;refine cN h (λhc h=>?_) λhc h=>?_
 ·refine S4 1 J ?_;refine b9 ?_;cases h;exact f1
 ·refine g5 ?_;refine S3 4 J<|A5 h λv1 hv1 h=>y0 J (a5c J J hv1)<|S2 1 J<|k8<|S4 2 J ?_;refine cN h (λhc h=>?_) λhc h=>?_
  ·refine S6 4 J ?_;refine S4 2 J<|b9 ?_;cases h;exact f1
  ·refine g5 ?_;refine S4 2 J<|b9 ?_;cases h;exact f1

theorem a5T{a0 a1}:PO Tryz.prog 185 [.L b8.Pv a0,.I a1] (V5 a0 a1) λr=>.I r:=by
 refine pO Tryz.func185 λr h _ _=>?_;refine S4 3 J ?_;refine jq h (λ_=>St.of [(4,.ptr 2001 0 0)] [(2001,vR (.I 0) 1)]) (λq9 h=>?_) λκ8 h=>?_
 ·refine S4 1 J ?_;refine b9 ?_;cases h;exact⟨J,[_],⟨oS J J J K1 J,tr⟩,J,io⟩
 ·refine S3 1 J ?_;refine nL J a0R<|S1 1 J<|cF h a96 J J λv10 _ h=>yN<|k9<|a2H (WPE (λl=>if l=2004 then 4 else if l=2005 then 3 else if l=2006 then 2 else l) [(2,.ptr 2006 0 0),(3,.ptr 2005 0 0),(4,.ptr 2004 0 0),(9,.fn (.func 224) [.rptr [.I v10.1],.rptr [.I v10.2]])] [(2004,vR (.I 0) 1),(2005,vR (.I a1) 1),(2006,vR (.L b8.Pv a0) 1)]) ?_;refine a1C (fn:=Tryz.f224) (N1:=20) J Tryz.func224 J J nl J c0l J J (λl17 e18 o19 hR20=>?_);refine S4 2 J<|k9<|lq h (λs12=>St.of [(1000002,.ptr 2006 0 0),(1000003,.ptr 2005 0 0),(1000004,.ptr 2004 0 0),(1000009,.fn (.func 224) [.rptr [.I v10.1],.rptr [.I v10.2]]),(0,.fn (.yield l17) []),(1,.rptr [.I v10.1]),(2,.rptr [.I v10.2]),(5,.I v10.1),(6,.I s12)] [(2004,vR (.I 0) 1),(2005,vR (.I a1) 1),(2006,vR (.L b8.Pv a0) 1)]) W λs12 x13 h hx23=>S4 1 J<|k8 ?_;refine cN h (λhc h=>?_) λhc h=>?_
  ·refine g5 ?_;refine k8<|k9<|S4 2 J<|drY [] 8 u5 (by kernel_rfl) (by kernel_rfl) (by kernel_rfl) (by kernel_rfl) nl<|S7 3 J<|A5 h λv14 hv24 h=>d2 J (U0 J a93 J hv24) J<|S7 3 J<|A5 h λv15 hv25 h=>d7 J (λ_ hN=>a5c J J hv25) J<|M7<|c4y (WE [(1000002,.ptr 2006 0 0),(1000003,.ptr 2005 0 0),(1000004,.ptr 2004 0 0),(1000009,.fn (.func 224) [.rptr [.I v10.1],.rptr [.I v10.2]]),(0,.fn (.yield l17) []),(1,.rptr [.I v10.1]),(2,.rptr [.I v10.2]),(5,.I v10.1),(6,.I s12),(9,.fn (.yield l17) []),(16,.I v15)] [(2004,vR (.I 0) 1),(2005,vR (.I a1) 1),(2006,vR (.L b8.Pv a0) 1)]) ?_;refine b4c J hR20 J J J J J J (λe26 o27 o28=>?_);refine S6 1 J ?_;refine⟨J,?_⟩;refine k9<|k8<|S3 2 J<|iL h J J a0R a0M λv16 hv29 h=>S2 3 J ?_;refine cN h (λhc h=>?_) λhc h=>?_
   ·refine u9 ?_;refine g9<|a5I (by decide) ?_;refine⟨J,?_⟩;refine⟨_,b38 [(1000002,.ptr 2006 0 0),(1000003,.ptr 2005 0 0),(1000004,.ptr 2004 0 0),(1000009,.fn (.func 224) [.rptr [.I v10.1],.rptr [.I v10.2]]),(0,.fn (.yield l17) []),(1,.rptr [.I v10.1]),(2,.rptr [.I v10.2]),(5,.I v10.1),(6,.I s12),(17,.bool false)] [(2004,vR (.I 0) 1),(2005,vR (.I a1) 1),(2006,vR (.L b8.Pv a0) 1)] ⟨J,J,J,J,J,J,J,J,J,J,J,J,J,J,J,J,J,J,J,J,J,J,J,J,J,J,J,J,J,J,tr⟩ ⟨rS,rS,rS,tr⟩,?_⟩;refine S8 1 J ?_;refine G5 true J (λ_=>?_) (λq=>nomatch q);refine b9 ?_;refine .inr ⟨.exit 0,J,d2s ?_⟩;refine n8 ?_;have h:=xL hx23 h;exact eJ h (WP (λl=>if l=2001 then 2004 else l))
   ·refine g5 ?_;refine dr [] u5 (by kernel_rfl) (by kernel_rfl)<|S7 2 J<|d0 J (Y0 (f:=b8.Pv) (cs:=b8.Pc v16) hv29 J J a0R a0M J J) J<|S7 4 J<|b4P J (λhg=>oS J J J b5v J) J<|a9O J (λhg _ hN=>mI J) J<|b4P J (λhg=>Y0 (f:=b8.Pv) (cs:=b8.Pc v16) hv29 (ct hg) (ct hg) a0R a0M J J) J<|a9O J (λhg _ hN=>O6 (ct hg) c1D J) J<|b4P J (λhg=>Z1 (ct hg) K1 J) J<|b4P J (λhg=>oS J J J K1 J) J<|a9O J (λhg _ hN=>D7 (ct hg) (ct hg) J) J<|d7 J (λ_ hN=>D9 J J J (λq=>eqT q)) J<|M7 ?_;refine cN h (λhc h=>?_) λhc h=>?_
    ·refine S4 2 J ?_;refine b9 ?_;refine⟨J,?_⟩;refine⟨_,b38 [(1000002,.ptr 2006 0 0),(1000003,.ptr 2005 0 0),(1000004,.ptr 2004 0 0),(1000009,.fn (.func 224) [.rptr [.I v10.1],.rptr [.I v10.2]]),(0,.fn (.yield l17) []),(1,.rptr [.I v10.1]),(2,.rptr [.I v10.2]),(5,.I v10.1),(6,.I s12),(17,.bool false)] [(2004,vR (.I v15) 1),(2005,vR (.I a1) 1),(2006,vR (.L b8.Pv a0) 1)] ⟨J,J,J,J,J,J,J,J,J,J,J,J,J,J,J,J,J,J,J,J,J,J,J,J,J,J,J,J,J,J,tr⟩ ⟨rS,rS,rS,tr⟩,?_⟩;refine S8 1 J ?_;refine G5 true J (λ_=>?_) (λq=>nomatch q);refine b9 ?_;refine .inr ⟨.ret,J,c6q ?_⟩;have h:=xL hx23 h;cases h;exact⟨J,[_],⟨oS J J J K1 J,tr⟩,J,io⟩
    ·refine g5 ?_;refine⟨J,?_⟩;refine⟨_,b38 [(1000002,.ptr 2006 0 0),(1000003,.ptr 2005 0 0),(1000004,.ptr 2004 0 0),(1000009,.fn (.func 224) [.rptr [.I v10.1],.rptr [.I v10.2]]),(0,.fn (.yield l17) []),(1,.rptr [.I v10.1]),(2,.rptr [.I v10.2]),(5,.I v10.1),(6,.I s12),(17,.bool true)] [(2004,vR (.I 0) 1),(2005,vR (.I a1) 1),(2006,vR (.L b8.Pv a0) 1)] ⟨J,J,J,J,J,J,J,J,J,J,J,J,J,J,J,J,J,J,J,J,J,J,J,J,J,J,J,J,J,J,tr⟩ ⟨rS,rS,rS,tr⟩,?_⟩;refine S8 1 J ?_;refine G5 false J (λq=>nomatch q) (λ_=>?_);refine g5<|S6 2 J ?_;exact eL h W
  ·refine u9 ?_;refine g9<|g9<|n8 ?_;refine .inl ⟨J,?_⟩;have h:=xL hx23 h;exact eJ h (WP (λl=>if l=2001 then 2004 else l))

theorem a4m{a0 a1}:PO Tryz.prog 175 [.L b8.Pv a0,.I a1] (J4 a0 a1) λr=>.tup [.I r.1,.I r.2]:=by
 refine pO Tryz.func175 λr h _ _=>?_;refine S4 2 J<|S3 2 J<|cA h a5T J J λv1 _ h=>S2 1 J<|k8<|S4 2 J ?_;refine cN h (λhc h=>?_) λhc h=>?_
 ·refine S4 2 J ?_;refine b9 ?_;cases h;exact f2
 ·refine g5 ?_;refine S3 2 J<|iL h J J a0R a0M λv2 _ h=>S2 4 J<|b9 ?_;cases h;exact f2

theorem Z6{a0}:PON Tryz.prog 212 [.L b8.Pv a0] (C1 a0) λr=>⟨List.map b8.Pv r,0,true,3,true⟩:=by
 refine pON Tryz.func212 λr h _ _=>?_;unfold C1 at h;refine S4 1 J<|k8<|S3 1 J<|b67 J a0R λb hb=>yN ?_;refine G5 b J (λhc=>?_) (λhc=>?_)
 ·obtain rfl:a0 = []:=by simpa using hb hc
  refine S4 1 J<|a2H (X0 (t:=2) (l:=920000) (z:=3) J J)<|b9 ?_;cases h;exact⟨J,_,_,J,J,J,J⟩
 ·refine g5 ?_;refine sR<|y0 J (b3p J a0R a0M)<|S1 1 J<|y1 J (b7X (f:=b8.Pv) h J J (.inl ⟨_,J,J⟩) a0R a0M c0j b2k J (λ_=>J)) J<|S2 1 J<|b9 ?_;exact⟨J,_,_,J,J,J,J⟩

theorem a5U{a0 a1 a2}:PO Tryz.prog 186 [.L b8.Pv a0,.I a1,b8.Pv a2] (a1a a0 a1 a2) λr=>.L b8.Pv r:=by
 refine pO Tryz.func186 λr h _ _=>?_;unfold a1a at h;refine S4 2 J<|S3 1 J<|A5 h λv1 hv1 h=>ycN J (b5b J Z6 J hv1) J J<|S2 1 J<|S3 3 J<|A5 h λv2 hv2 h=>y0 J (a8Y (f:=b8.Pv) hv2 J J J J a0R a0M J)<|b4b (f:=b8.Pv) (v:=a2) hv2 J J (.inl J) a0M<|yN<|S4 2 J<|b9 ?_;cases h;exact f1

theorem a92{a0 a1}:PO Tryz.prog 136 [.L b8.Pv a0,.I a1] (V4 a0 a1) λr=>.tup [.L b8.Pv r.1,.I r.2.1,.I r.2.2]:=by
 refine pO Tryz.func136 λr h _ _=>?_;refine S4 3 J<|S3 2 J<|cA h a5T J J λv1 _ h=>S2 1 J<|k8<|S4 2 J ?_;refine cN h (λhc h=>?_) λhc h=>?_
 ·refine S4 4 J ?_;refine b9 ?_;cases h;exact f3
 ·refine g5 ?_;refine dr [] u5 (by kernel_rfl) (by kernel_rfl)<|S7 2 J<|d7 J (λ_ hN=>u4 (cs:=[.I 2,.I 0,.I 0]) J c0o b2k J J J) J<|A5 h λv2 hv2 h=>d2f J (s6 J a5U J hv2) J<|S7 2 J<|A5 h λv3 hv3 h=>d0 J (Y0 (f:=b8.Pv) (cs:=b8.Pc v3) hv3 J J a0R a0M J J) J<|S8 5 J<|b9 ?_;cases h;exact f3

theorem b7G{a0 a1 a2}:PO Tryz.prog 207 [.L b8.Pv a0,.I a1,.I a2] (a7f a0 a1 a2) λr=>.tup [.L b8.Pv r.1,.I r.2]:=by
 refine pO Tryz.func207 λr h _ _=>?_;refine S4 3 J<|S3 2 J<|y0 J (u4 (cs:=[.I 1,.I a1,.I a2]) J c0o b2k J J J)<|S2 2 J<|k8<|S3 2 J<|cA h a5T J J λv1 _ h=>S2 1 J<|S4 2 J ?_;refine cN h (λhc h=>?_) λhc h=>?_
 ·refine S3 3 J ?_;refine cF h a5U J J λv2 _ h=>S2 2 J<|b9 ?_;cases h;exact⟨J,[_,_],⟨oS J J J b5v J,⟨oS J J J a85 J,tr⟩⟩,J,io⟩
 ·refine g5 ?_;refine jq h (λ_=>St.of [(3,.ptr 2004 0 0),(6,.ptr 2003 0 0),(7,.ptr 2002 0 0)] [(2002,vR (.I 0) 1),(2003,vR (.nl) 1),(2004,vR (.L b8.Pv a0) 1)]) (λq12 h=>?_) λκ11 h=>?_
  ·refine S4 3 J ?_;refine b9 ?_;cases h;exact⟨J,[_,_],⟨oS J J J b5v J,⟨oS J J J a85 J,tr⟩⟩,J,io⟩
  ·refine S3 1 J ?_;refine nL J a0R<|S1 1 J<|cF h a96 J J λv13 _ h=>yN<|k9<|a2H (WPE (λl=>if l=2005 then 8 else if l=2006 then 7 else if l=2007 then 6 else if l=2008 then 3 else l) [(3,.ptr 2008 0 0),(6,.ptr 2007 0 0),(7,.ptr 2006 0 0),(8,.ptr 2005 0 0),(26,.fn (.func 224) [.rptr [.I v13.1],.rptr [.I v13.2]])] [(2005,vR (.agg [.I 1,.I a1,.I a2]) 3),(2006,vR (.I 0) 1),(2007,vR (.nl) 1),(2008,vR (.L b8.Pv a0) 1)]) ?_;refine a1C (fn:=Tryz.f224) (N1:=20) J Tryz.func224 J J nl J c0l J J (λl20 e21 o22 hR23=>?_);refine S4 2 J<|k9<|lq h (λs15=>St.of [(1000003,.ptr 2008 0 0),(1000006,.ptr 2007 0 0),(1000007,.ptr 2006 0 0),(1000008,.ptr 2005 0 0),(1000026,.fn (.func 224) [.rptr [.I v13.1],.rptr [.I v13.2]]),(0,.fn (.yield l20) []),(1,.rptr [.I v13.1]),(2,.rptr [.I v13.2]),(5,.I v13.1),(6,.I s15)] [(2005,vR (.agg [.I 1,.I a1,.I a2]) 3),(2006,vR (.I 0) 1),(2007,vR (.nl) 1),(2008,vR (.L b8.Pv a0) 1)]) W λs15 x16 h hx26=>S4 1 J<|k8 ?_;refine cN h (λhc h=>?_) λhc h=>?_
   ·refine g5 ?_;refine k8<|k9<|S4 2 J<|drY [] 8 u5 (by kernel_rfl) (by kernel_rfl) (by kernel_rfl) (by kernel_rfl) nl<|S7 3 J<|A5 h λv17 hv27 h=>d2 J (U0 J a93 J hv27) J<|S7 3 J<|A5 h λv18 hv28 h=>d7 J (λ_ hN=>a5c J J hv28) J<|M7<|c4y (WE [(1000003,.ptr 2008 0 0),(1000006,.ptr 2007 0 0),(1000007,.ptr 2006 0 0),(1000008,.ptr 2005 0 0),(1000026,.fn (.func 224) [.rptr [.I v13.1],.rptr [.I v13.2]]),(0,.fn (.yield l20) []),(1,.rptr [.I v13.1]),(2,.rptr [.I v13.2]),(5,.I v13.1),(6,.I s15),(9,.fn (.yield l20) []),(16,.I v18)] [(2005,vR (.agg [.I 1,.I a1,.I a2]) 3),(2006,vR (.I 0) 1),(2007,vR (.nl) 1),(2008,vR (.L b8.Pv a0) 1)]) ?_;refine b4c J hR23 J J J J J J (λe29 o30 o31=>?_);refine S6 1 J ?_;refine⟨J,?_⟩;refine k9<|S3 2 J<|iL h J J a0R a0M λv19 _ h=>S2 3 J ?_;refine cN h (λhc h=>?_) λhc h=>?_
    ·refine S3 3 J ?_;refine cF h a5U J J λv20 _ h=>S2 2 J<|b9 ?_;refine⟨J,?_⟩;refine⟨_,b38 [(1000003,.ptr 2008 0 0),(1000006,.ptr 2007 0 0),(1000007,.ptr 2006 0 0),(1000008,.ptr 2005 0 0),(1000026,.fn (.func 224) [.rptr [.I v13.1],.rptr [.I v13.2]]),(0,.fn (.yield l20) []),(1,.rptr [.I v13.1]),(2,.rptr [.I v13.2]),(5,.I v13.1),(6,.I s15),(17,.bool false)] [(2005,vR (.agg [.I 1,.I a1,.I a2]) 3),(2006,vR (.I 0) 1),(2007,vR (.L b8.Pv v20) 1),(2008,vR (.L b8.Pv a0) 1)] ⟨J,J,J,J,J,J,J,J,J,J,J,J,J,J,J,J,J,J,J,J,J,J,J,J,J,J,J,J,J,J,J,J,J,tr⟩ ⟨rS,rS,rS,rS,tr⟩,?_⟩;refine S8 1 J ?_;refine G5 true J (λ_=>?_) (λq=>nomatch q);refine b9 ?_;refine .inr ⟨.ret,J,c6q ?_⟩;have h:=xL hx26 h;cases h;exact⟨J,[_,_],⟨oS J J J b5v J,⟨oS J J J a85 J,tr⟩⟩,J,io⟩
    ·refine g5 ?_;refine⟨J,?_⟩;refine⟨_,b38 [(1000003,.ptr 2008 0 0),(1000006,.ptr 2007 0 0),(1000007,.ptr 2006 0 0),(1000008,.ptr 2005 0 0),(1000026,.fn (.func 224) [.rptr [.I v13.1],.rptr [.I v13.2]]),(0,.fn (.yield l20) []),(1,.rptr [.I v13.1]),(2,.rptr [.I v13.2]),(5,.I v13.1),(6,.I s15),(17,.bool true)] [(2005,vR (.agg [.I 1,.I a1,.I a2]) 3),(2006,vR (.I 0) 1),(2007,vR (.nl) 1),(2008,vR (.L b8.Pv a0) 1)] ⟨J,J,J,J,J,J,J,J,J,J,J,J,J,J,J,J,J,J,J,J,J,J,J,J,J,J,J,J,J,J,J,J,J,tr⟩ ⟨rS,rS,rS,rS,tr⟩,?_⟩;refine S8 1 J ?_;refine G5 false J (λq=>nomatch q) (λ_=>?_);refine g5<|S6 2 J ?_;exact eL h W
   ·refine u9 ?_;refine g9<|g9<|n8 ?_;refine .inl ⟨J,?_⟩;have h:=xL hx26 h;exact eJ h (WP (λl=>if l=2004 then 2008 else if l=2003 then 2007 else if l=2002 then 2006 else l))

theorem b5R{a0 a1 a2}:PO Tryz.prog 173 [.L b8.Pv a0,.I a1,.I a2] (R2 a0 a1 a2) λr=>.tup [.L b8.Pv r.1,.I r.2.1,.I r.2.2]:=by
 refine pO Tryz.func173 λr h _ _=>?_;refine S4 3 J<|k8<|S4 2 J ?_;refine cN h (λhc h=>?_) λhc h=>?_
 ·refine S4 4 J ?_;refine b9 ?_;cases h;exact f3
 ·refine g5 ?_;refine S3 2 J<|cA h a4m J J λv1 _ h=>S2 5 J<|k8<|S4 2 J ?_;refine cN h (λhc h=>?_) λhc h=>?_
  ·refine S3 2 J ?_;refine cF h a92 J J λv2 _ h=>S2 7 J<|S4 5 J<|b9 ?_;cases h;exact f3
  ·refine g5 ?_;refine S3 3 J<|cF h b7G J J λv3 _ h=>S2 5 J<|k8<|S4 2 J ?_;refine cN h (λhc h=>?_) λhc h=>?_
   ·refine S4 5 J ?_;refine b9 ?_;cases h;exact f3
   ·refine g5 ?_;refine S4 5 J<|b9 ?_;cases h;exact f3

theorem a6S{a0 a1}:PO Tryz.prog 174 [G1.Pv a0,b6.Pv a1] (T8 a0 a1) λr=>b6.Pv r:=by
 refine pO Tryz.func174 λr h _ _=>?_;unfold T8 at h;refine S4 3 J<|S4 4 J<|S4 2 J<|b9 ?_;cases h;exact⟨J,[_],⟨oL J J J p6 o0 nl J,tr⟩,J,io⟩

theorem a0V{a0 a1 a2 a3}:PO Tryz.prog 166 [b6.Pv a0,.I a1,.I a2,.abs (BFn 174 [G1.Pv a3])] (H4 a0 a1 a2 a3) λr=>b6.Pv r:=by
 refine pO Tryz.func166 λr h _ _=>?_;refine S4 2 J<|S3 3 J<|cF h a1t J J λv1 _ h=>A5 h λv2 hv2 h=>b66 (xs:=[b6.Pv v1]) J J c5I J (a6S.2 _ hv2)<|S1 1 J<|cF h U5 J J λv3 _ h=>S2 1 J<|b9 ?_;cases h;exact⟨J,[_],⟨oL J J J p6 o0 nl J,tr⟩,J,io⟩

theorem b56{a0 a1 a2}:PO Tryz.prog 128 [b6.Pv a0,.I a1,.I a2] (a3p a0 a1 a2) λr=>.tup [b6.Pv r.1,.I r.2]:=by
 refine pO Tryz.func128 λr h _ _=>?_;refine S4 3 J<|k8<|S4 2 J ?_;refine cN h (λhc h=>?_) λhc h=>?_
 ·refine S4 3 J ?_;refine b9 ?_;cases h;exact⟨J,[_,_],⟨oL J J J p6 o0 nl J,⟨J,tr⟩⟩,J,io⟩
 ·refine g5 ?_;refine k8<|S3 2 J<|cA h R5 J J λv1 _ h=>S1 2 J<|n9 J (λhg=>oL J J J p6 o0 nl J)<|n9 J (λhg=>mI J)<|A5 h λv2 hv2 h=>n9 J (λhg=>U0 J R5 (X6 (ct hg) (X6 (ct hg) J)) (Y1 hv2 hg))<|n9 J (λhg=>a6I (ct hg) J)<|y0 J (O7 J J J (λq=>eqF q))<|yN ?_;refine cN h (λhc h=>?_) λhc h=>?_
  ·refine S4 3 J ?_;refine b9 ?_;cases h;exact⟨J,[_,_],⟨oL J J J p6 o0 nl J,⟨J,tr⟩⟩,J,io⟩
  ·refine g5 ?_;refine S3 4 J<|cF h b5R J J λv3 _ h=>S2 7 J<|k8<|S4 2 J ?_;refine cN h (λhc h=>?_) λhc h=>?_
   ·refine S4 4 J ?_;refine b9 ?_;cases h;exact⟨J,[_,_],⟨oL J J J p6 o0 nl J,⟨J,tr⟩⟩,J,io⟩
   ·refine g5 ?_;refine S3 4 J<|y0 J (u4 (cs:=[.L b8.Pv v3.1]) J c5S c50 J J J)<|y0 J (b1i (d:=.agg [.L b8.Pv v3.1]) J)<|cF h a0V J J λv4 _ h=>S2 2 J<|b9 ?_;cases h;exact⟨J,[_,_],⟨oL J J J p6 o0 nl J,⟨J,tr⟩⟩,J,io⟩

theorem a2F{a0}:PO Tryz.prog 72 [o8.Pv a0] (X9 a0) λr=>.tup [b6.Pv r.1,.I r.2]:=by
 refine pO Tryz.func72 λr h _ _=>?_;refine S4 3 J<|S3 5 J<|cA h O5 J J λv1 _ h=>S2 5 J<|k8<|S4 2 J ?_;refine cN h (λhc h=>?_) λhc h=>?_
 ·refine S4 5 J ?_;refine b9 ?_;cases h;exact⟨J,[_,_],⟨oL J J J p6 o0 nl J,⟨J,tr⟩⟩,J,io⟩
 ·refine g5 ?_;refine dr [] u5 (by kernel_rfl) (by kernel_rfl)<|S7 8 J<|A5 h λv2 hv2 h=>d2 J (U0 J K9 J hv2) J<|A5 h λv3 hv3 h=>d2f J (s6 J b56 J hv3) J<|S7 2 J<|A9 (x':=b6.Pv v3.1) (cl':=true) J J (.inr J) o0<|S8 1 J<|b9 ?_;cases h;exact⟨J,[_,_],⟨oL J J J p6 o0 nl J,⟨J,tr⟩⟩,J,io⟩

theorem b5Q{a0 a1}:PO Tryz.prog 129 [.L b8.Pv a0,.I a1] (b02 a0 a1) λr=>.tup [.I r.1,.I r.2]:=by
 refine pO Tryz.func129 λr h _ _=>?_;refine S4 2 J<|S3 2 J<|cA h a4m J J λv1 _ h=>S2 4 J<|b9 ?_;cases h;exact f2

theorem a28{a0}:PO Tryz.prog 73 [o8.Pv a0] (a0h a0) λr=>.tup [b6.Pv r.1,.I r.2]:=by
 refine pO Tryz.func73 λr h _ _=>?_;refine S4 3 J<|S3 5 J<|cA h O5 J J λv1 _ h=>S2 5 J<|k8<|S4 2 J ?_;refine cN h (λhc h=>?_) λhc h=>?_
 ·refine S4 5 J ?_;refine b9 ?_;cases h;exact⟨J,[_,_],⟨oL J J J p6 o0 nl J,⟨J,tr⟩⟩,J,io⟩
 ·refine g5 ?_;refine dr [] u5 (by kernel_rfl) (by kernel_rfl)<|S7 5 J<|A5 h λv2 hv2 h=>d2 J (U0 J b5Q J hv2) J<|S7 2 J<|A5 h λv3 hv3 h=>d2f J (s6 J F2 J hv3) J<|S7 2 J<|A9 (x':=b6.Pv v3.1) (cl':=true) J J (.inr J) o0<|S8 1 J<|b9 ?_;cases h;exact⟨J,[_,_],⟨oL J J J p6 o0 nl J,⟨J,tr⟩⟩,J,io⟩

theorem a1S{a0}:PO Tryz.prog 74 [o8.Pv a0] (N2 a0) λr=>.tup [b6.Pv r.1,.I r.2]:=by
 refine pO Tryz.func74 λr h _ _=>?_;unfold N2 at h;refine S4 3 J<|S4 4 J<|b9 ?_;cases h;exact⟨J,[_,_],⟨oL J J J p6 o0 nl J,⟨J,tr⟩⟩,J,io⟩

theorem b9j{f:Fv}{a0:o8}{r:b6 × Int}(h:b2q f a0=some r):∃n,f=some n∧A2 Tryz.prog n∧V9 Tryz.prog n [o8.Pv a0] (.tup [b6.Pv r.1,.I r.2]):=by
 unfold b2q at h;by_cases e65:f=some 65
 ·rw[if_pos e65] at h;exact⟨65,e65,(@a1x a0).1,(@a1x a0).2 _ h⟩
 rw[if_neg e65] at h;by_cases e66:f=some 66
 ·rw[if_pos e66] at h;exact⟨66,e66,(@a0q a0).1,(@a0q a0).2 _ h⟩
 rw[if_neg e66] at h;by_cases e67:f=some 67
 ·rw[if_pos e67] at h;exact⟨67,e67,(@a2D a0).1,(@a2D a0).2 _ h⟩
 rw[if_neg e67] at h;by_cases e68:f=some 68
 ·rw[if_pos e68] at h;exact⟨68,e68,(@a2E a0).1,(@a2E a0).2 _ h⟩
 rw[if_neg e68] at h;by_cases e69:f=some 69
 ·rw[if_pos e69] at h;exact⟨69,e69,(@a1T a0).1,(@a1T a0).2 _ h⟩
 rw[if_neg e69] at h;by_cases e70:f=some 70
 ·rw[if_pos e70] at h;exact⟨70,e70,(@a1y a0).1,(@a1y a0).2 _ h⟩
 rw[if_neg e70] at h;by_cases e71:f=some 71
 ·rw[if_pos e71] at h;exact⟨71,e71,(@a3N a0).1,(@a3N a0).2 _ h⟩
 rw[if_neg e71] at h;by_cases e72:f=some 72
 ·rw[if_pos e72] at h;exact⟨72,e72,(@a2F a0).1,(@a2F a0).2 _ h⟩
 rw[if_neg e72] at h;by_cases e73:f=some 73
 ·rw[if_pos e73] at h;exact⟨73,e73,(@a28 a0).1,(@a28 a0).2 _ h⟩
 rw[if_neg e73] at h;by_cases e74:f=some 74
 ·rw[if_pos e74] at h;exact⟨74,e74,(@a1S a0).1,(@a1S a0).2 _ h⟩
 rw[if_neg e74] at h;cases h

theorem a40{a0}:PO Tryz.prog 97 [.I a0] (a0B a0) λr=>.bool r:=by
 refine pO Tryz.func97 λr h _ _=>?_;unfold a0B at h;refine S4 1 J<|S4 4 J<|b9 ?_;cases h;exact f1

theorem a9b{a0 a1}:PO Tryz.prog 53 [.I a0,.I a1] (a2P a0 a1) λr=>.I r:=by
 refine pO Tryz.func53 λr h _ _=>?_;refine S4 1 J<|S3 1 J<|cA h a40 J J λv1 _ h=>S2 1 J<|S3 1 J<|cA h a40 J J λv2 _ h=>S2 1 J<|k8<|S4 1 J ?_;refine cN h (λhc h=>?_) λhc h=>?_
 ·refine k8 ?_;refine S4 1 J ?_;refine cN h (λhc h=>?_) λhc h=>?_
  ·refine S4 1 J ?_;refine b9 ?_;cases h;exact f1
  ·refine g5 ?_;refine S4 1 J<|b9 ?_;cases h;exact f1
 ·refine g5 ?_;refine k8<|S4 1 J ?_;refine cN h (λhc h=>?_) λhc h=>?_
  ·refine S4 1 J ?_;refine b9 ?_;cases h;exact f1
  ·refine g5 ?_;refine k8<|S4 3 J ?_;refine cN h (λhc h=>?_) λhc h=>?_
   ·refine S4 1 J ?_;refine b9 ?_;cases h;exact f1
   ·refine g5 ?_;refine k8<|S4 3 J ?_;refine cN h (λhc h=>?_) λhc h=>?_
    ·refine S4 1 J ?_;refine b9 ?_;cases h;exact f1
    ·refine g5 ?_;refine S4 1 J<|b9 ?_;cases h;exact f1

theorem b2g{a0 a1 a2}:PO Tryz.prog 52 [.I a0,.I a1,.rptr [.abs (U3 (List.map (ent iF iF) a2))]] (a3l a0 a1 a2) λr=>.I r:=by
 refine pO Tryz.func52 λr h _ _=>?_;refine S4 1 J<|S3 2 J<|y0 J (b7Y (es:=a2) (k:=a0) (E:=iF) (EK:=iF) (d:=.I ((A0 a2 a0).getD (0:Int))) J J b2Q (y5 J2) F0 J (lk1 _ _ _))<|S1 2 J<|y0 J (b7Y (es:=a2) (k:=a1) (E:=iF) (EK:=iF) (d:=.I ((A0 a2 a1).getD (0:Int))) J J b2Q (y5 J2) F0 J (lk1 _ _ _))<|cA h a9b J J λv1 _ h=>S2 1 J<|b9 ?_;cases h;exact f1

theorem J0{a0}:PO Tryz.prog 33 [a7.Pv a0] (C2 a0) λr=>.L iF r:=by
 refine pO Tryz.func33 λr h _ _=>?_;refine S4 2 J<|S4 1 J<|sR<|b8K (KT:=Int) (VT:=Int) (EK:=iF) (E:=iF) 5000008 J J<|S2 2 J ?_;refine jq h (λq=>St.of [(3,.sl 910003),(4,.ptr 4 0 0)] [(4,vS (.mp 5000008) 1),(5000008,⟨[.mapc (List.map (ent iF iF) q.1)],0,false,0,false⟩),(910003,⟨List.map iF q.2,0,true,1,true⟩)]) (λq20 h=>?_) λκ17 h=>?_
 ·obtain⟨j18,j19⟩:=q20;refine S3 2 J<|Q3 (Wk.trans (c7y 5000008 nl J) (d0i 4 0 5000008 J J J J))<|A5 h λv21 hv12 h=>d0l hv12 J J c8l c96 J J J c8m J J J J J (λp q r h=>b2g.2 r h)<|yN<|S4 2 J<|b9 ?_;cases h;exact f1
 ·refine S3 3 J ?_;refine nL J Q8<|S2 1 J<|k9<|lq h (λq=>St.of [(3,.sl 910003),(4,.ptr 4 0 0),(11,.L b7.Pv a0.S.a8),(12,.I (a0.S.a8.length:Int)),(13,.I q.1)] [(4,vS (.mp 5000008) 1),(5000008,⟨[.mapc (List.map (ent iF iF) q.2.1)],0,false,0,false⟩),(910003,⟨List.map iF q.2.2,0,true,1,true⟩)]) (Wk.trans (X0 (t:=3) (l:=920003) (z:=1) J J) (WP (λl=>if l=910003 then 920003 else l))) λq27 x26 h hx15=>?_;obtain⟨s23,s24,s25⟩:=q27;refine S4 1 J<|k8 ?_;refine cN h (λhc h=>?_) λhc h=>?_
  ·refine g5 ?_;refine jq h (λq=>St.of [(3,.sl 33),(4,.ptr 4 0 0),(11,.L b7.Pv a0.S.a8),(12,.I (a0.S.a8.length:Int)),(13,.I s23)] [(4,vS (.mp 5000008) 1),(5000008,⟨[.mapc (List.map (ent iF iF) q.1)],0,false,0,false⟩),(33,⟨List.map iF q.2,0,true,1,true⟩)]) (λq34 h=>?_) λκ31 h=>?_
   ·obtain⟨j32,j33⟩:=q34;refine S6 2 J ?_;exact eL h (WP (λl=>if l=910003 then 33 else l))
   ·refine k9 ?_;refine S3 1 J<|iL h J J Q8 a0r λv35 _ h=>S2 4 J<|S4 3 J ?_;refine cN h (λhc h=>?_) λhc h=>?_
    ·refine S3 3 J ?_;refine cA h a7d J J λv36 _ h=>S2 1 J<|S3 5 J<|a0y (es:=s24) (k:=v36) (v:=v35.Val.Serial) (E:=iF) (EK:=iF) (.inl J) J J J J J J b2Q (y5 J2)<|yN<|S5 2 J<|y0 J (Y4 (f:=iF) (l:=[v36]) J n0 s7 F0 J J nl J J)<|A5 h λv37 hv22 h=>c8c (f:=iF) (b:=8) [(4,.ptr 4 0 0),(11,.L b7.Pv a0.S.a8),(12,.I (a0.S.a8.length:Int)),(13,.I s23),(14,.bool (decide (s23<(a0.S.a8.length:Int)))),(15,.I s23),(16,.rptr (b7.Pc v35)),(17,b7.Pv v35),(6,.ptr 6 0 0),(5,.I s23),(18,.ptr 6 0 0),(19,.I v35.State),(20,.bool (v35.State==1)),(21,.I s23),(22,.ptr 6 0 1),(23,.I v35.Gen),(24,.I v36),(7,.I v36),(25,.mp 5000008),(26,.I v36),(27,.ptr 6 0 2),(28,.ptr 6 0 2),(29,.I v35.Val.Serial),(31,.I v36),(32,.M9 true (List.map iF [v36]))] [(6,vR (b7.Pv v35) 8),(5000008,⟨[.mapc (List.map (ent iF iF) (o6 s24 v36 v35.Val.Serial))],0,false,0,false⟩),(4,vS (.mp 5000008) 1)] J hv22 ⟨J,J,J,J,J,J,J,J,J,J,J,J,J,J,J,J,J,J,J,J,J,J,J,J,J,J,J,J,J,J,J,J,J,J,J,J,J,J,J,J,J,J,J,J,J,J,J,J,J,J,J,J,J,J,J,J,J,J,J,J,J,J,J,J,J,J,J,J,J,J,J,J,J,J,J,tr⟩ ⟨rS,a2f J J J (λq=>nomatch q) J J J J,a2f J J J (λq=>nomatch q) J J J J,tr⟩ J J J J (.inl ⟨_,J,J⟩) n0 s7 Y5 F0 J (λ_=>J)<|S2 1 J ?_;exact eJ h W
    ·refine g5 ?_;exact eJ h (WP (λl=>if l=33 then 910003 else l))
  ·refine u9 ?_;refine g9<|g9<|n8 ?_;have h:=xL hx15 h;exact eJ h W

theorem b3V{a0}:PO Tryz.prog 75 [b6.Pv a0] (a1f a0) λr=>.L iF r:=by
 refine pO Tryz.func75 λr h _ _=>?_;refine S4 2 J<|S4 1 J ?_;refine jq h (λj16=>St.of [(3,.sl 910003)] [(910003,⟨List.map iF j16,(List.map iF j16).length,true,1,true⟩)]) (λj16 h=>?_) λκ15 h=>?_
 ·refine S4 2 J ?_;refine b9 ?_;cases h;exact f1
 ·refine S3 2 J ?_;refine cF h J0 J J λv17 _ h=>nL J n0<|S2 1 J<|k9<|lq h (λq=>St.of [(1,.ptr 1 0 0),(3,.sl 910003),(10,.L iF v17),(11,.I (v17.length:Int)),(12,.I q.1)] [(1,vR (b6.Pv a0) 8),(910003,⟨List.map iF q.2,(List.map iF q.2).length,true,1,true⟩)]) (Wk.trans (X0 (t:=3) (l:=920003) (z:=1) J J) (WP (λl=>if l=910003 then 920003 else l))) λq22 x21 h hx16=>?_;obtain⟨s19,s20⟩:=q22;refine S4 1 J<|k8 ?_;refine cN h (λhc h=>?_) λhc h=>?_
  ·refine g5 ?_;refine jq h (λj27=>St.of [(1,.ptr 1 0 0),(3,.sl 29),(10,.L iF v17),(11,.I (v17.length:Int)),(12,.I s19)] [(29,⟨List.map iF j27,(List.map iF j27).length,true,1,true⟩),(1,vR (b6.Pv a0) 8)]) (λj27 h=>?_) λκ26 h=>?_
   ·refine S6 2 J ?_;exact eL h (Wk.trans (r9 _ [29]) (WP (λl=>if l=910003 then 29 else l)))
   ·refine k9 ?_;refine sR<|iL h J J n0 s7 λv28 _ h=>S2 2 J<|S3 3 J<|cF h A6 J J λv29 _ h=>S2 6 J<|S4 3 J ?_;refine cN h (λhc h=>?_) λhc h=>?_
    ·refine S5 2 J ?_;refine y0 J (Y4 (f:=iF) (l:=[v28]) J n0 s7 F0 J J nl J J)<|A5 h λv30 hv23 h=>a1Y J (a1z (f:=iF) hv23 J J J J J J (.inl ⟨_,J,J⟩) n0 s7 Y5 F0 J (λ_=>J)) J J J<|S2 1 J ?_;exact eJ h (Wk.trans (r9 _ [29]) W)
    ·refine g5 ?_;exact eJ h (Wk.trans (r9 _ [910003]) (WP (λl=>if l=29 then 910003 else l)))
  ·refine u9 ?_;refine g9<|g9<|n8 ?_;have h:=xL hx16 h;exact eJ h (Wk.trans (r9 _ [910003]) W)

theorem a4y{a0}:PO Tryz.prog 76 [m7.Pv a0] (J6 a0) λr=>.bool r:=by
 refine pO Tryz.func76 λr h _ _=>?_;unfold J6 at h;refine S4 2 J<|S3 4 J<|n9 J (λhg=>oF J b7l J)<|n9 J (λhg=>oS (ct hg) J J b7i J)<|n9 J (λhg=>a6I (ct hg) J)<|y0 J (D9 J J J (λq=>eqT q))<|S2 1 J<|b9 ?_;cases h;exact f1

theorem M0{a0}:PO Tryz.prog 177 [c9.Pv a0] (G9 a0) λr=>.I r:=by
 refine pO Tryz.func177 λr h _ _=>?_;unfold G9 at h;refine S4 2 J<|S3 2 J<|nL J a6Z<|S2 1 J<|b9 ?_;cases h;exact f1

theorem S0{a0 a1 a2}:PO Tryz.prog 178 [.L k7.Pv a0,.I a1,.I a2] (D5 a0 a1 a2) λr=>.M9 true (List.map k7.Pv r):=by
 refine pO Tryz.func178 λr h _ _=>?_;unfold D5 at h;refine S4 1 J<|S3 4 J<|A5 h λv1 hv1 h=>y0 J (c4g (f:=k7.Pv) hv1 J ⟨_,J⟩ ⟨_,J⟩ ⟨_,J⟩ J J a6Z K2 (λ_=>J))<|S2 1 J<|b9 ?_;cases h;exact f1

theorem a5h{a0 a1}:PO Tryz.prog 131 [c9.Pv a0,k7.Pv a1] (O8 a0 a1) λr=>.tup [c9.Pv r.1,.I r.2]:=by
 refine pO Tryz.func131 λr h _ _=>?_;unfold O8 at h;refine S4 4 J<|k8<|dr [] u5 (by kernel_rfl) (by kernel_rfl)<|S7 1 J<|A5 h λv1 hv1 h=>d2 J (U0 J M0 J hv1) J<|S8 3 J ?_;refine cN h (λhc h=>?_) λhc h=>?_
 ·refine S4 3 J ?_;refine b9 ?_;cases h;exact⟨J,[_,_],⟨oL J J J a4H a1m nl J,⟨J,tr⟩⟩,J,io⟩
 ·refine g5 ?_;refine dr [] u5 (by kernel_rfl) (by kernel_rfl)<|S7 3 J<|d2 J (U0 J M0 J hv1) J<|A5 h λv2 hv2 h=>d2f J (s6 J S0 J hv2) J<|S7 1 J<|d1n J (Y4 (f:=k7.Pv) (l:=[a1]) J a6Z K2 a9G J J nl J J) J<|A5 h λv3 hv3 h=>d3 J (b7X (f:=k7.Pv) hv3 J J (.inl ⟨_,J,J⟩) a6Z K2 c5G a9G J (λ_=>J)) J J J<|S7 1 J<|A9 (x':=.agg [.sl 19,.I a0.Cap]) (cl':=false) J J (.inl J) c2S<|M7<|S4 3 J<|b9 ?_;cases h;exact⟨J,[_,_],⟨oL J J J a4H a1m nl J,⟨J,tr⟩⟩,J,io⟩

theorem b13{a0 a1}:PO Tryz.prog 82 [c9.Pv a0,k7.Pv a1] (a7M a0 a1) λr=>.tup [c9.Pv r.1,.I r.2]:=by
 refine pO Tryz.func82 λr h _ _=>?_;refine S4 4 J<|S3 2 J<|cF h a5h J J λv1 _ h=>S2 4 J<|b9 ?_;cases h;exact⟨J,[_,_],⟨oL J J J a4H a1m nl J,⟨J,tr⟩⟩,J,io⟩

theorem a5t{a0 a1}:PO Tryz.prog 45 [b6.Pv a0,.I a1] (Q0 a0 a1) λr=>b6.Pv r:=by
 refine pO Tryz.func45 λr h _ _=>?_;refine S4 2 J<|S3 3 J<|cF h A6 J J λv1 _ h=>S2 6 J<|k8<|S3 3 J<|n9 J (λhg=>oL J J J b2O a61 nl J)<|A5 h λv2 hv2 h=>n9 J (λhg=>U0 J a4y (X6 (ct hg) J) (Y1 hv2 hg))<|n9 J (λhg=>a6I (ct hg) J)<|y0 J (O7 J J J (λq=>eqF q))<|yN ?_;refine cN h (λhc h=>?_) λhc h=>?_
 ·refine S4 2 J ?_;refine b9 ?_;cases h;exact⟨J,[_],⟨oL J J J p6 o0 nl J,tr⟩,J,io⟩
 ·refine g5 ?_;refine S4 2 J<|S3 4 J<|cF h a0n J J λv3 _ h=>S2 5 J<|S3 5 J<|y0 J (u4 (cs:=[.I 1,.I a1,.I v1.1.Prog]) J b5x a9G J J J)<|cF h b13 J J λv4 _ h=>S2 5 J<|S3 2 J<|cF h a1t J J λv5 _ h=>S2 1 J<|b9 ?_;cases h;exact⟨J,[_],⟨oL J J J p6 o0 nl J,tr⟩,J,io⟩

theorem a8G{a0 a1}:PO Tryz.prog 84 [b6.Pv a0,.L iF a1] (S9 a0 a1) λr=>.L iF r:=by
 refine pO Tryz.func84 λr h _ _=>?_;refine S4 2 J<|sR<|b8K (KT:=Int) (VT:=Bool) (EK:=iF) (E:=PV.bool) 5000011 J J<|S2 1 J<|S4 1 J ?_;refine jq h (λj18=>St.of [(6,.sl 910006)] [(910006,⟨List.map iF j18,(List.map iF j18).length,true,1,true⟩)]) (λj18 h=>?_) λκ17 h=>?_
 ·refine S4 2 J ?_;refine b9 ?_;cases h;exact f1
 ·refine S3 1 J ?_;refine nL J n0<|S2 1 J<|k9<|lq h (λq=>St.of [(2,.ptr 2 0 0),(5,.mp 5000011),(6,.sl 910006),(12,.L iF a1),(13,.I (a1.length:Int)),(14,.I q.1)] [(5000011,⟨[.mapc (List.map (ent iF PV.bool) q.2.1)],0,false,0,false⟩),(2,vR (b6.Pv a0) 8),(910006,⟨List.map iF q.2.2,(List.map iF q.2.2).length,true,1,true⟩)]) (Wk.trans (X0 (t:=6) (l:=920006) (z:=1) J J) (WP (λl=>if l=910006 then 920006 else l))) λq24 x23 h hx16=>?_;obtain⟨s20,s21,s22⟩:=q24;refine S4 1 J<|k8 ?_;refine cN h (λhc h=>?_) λhc h=>?_
  ·refine g5 ?_;refine jq h (λq=>St.of [(2,.ptr 2 0 0),(5,.mp 5000011),(6,.sl 38),(12,.L iF a1),(13,.I (a1.length:Int)),(14,.I s20)] [(38,⟨List.map iF q.1,(List.map iF q.1).length,true,1,true⟩),(5000011,⟨[.mapc (List.map (ent iF PV.bool) q.2)],0,false,0,false⟩),(2,vR (b6.Pv a0) 8)]) (λq31 h=>?_) λκ28 h=>?_
   ·obtain⟨j29,j30⟩:=q31;refine S6 2 J ?_;exact eL h (Wk.trans (r9 _ [38]) (WP (λl=>if l=910006 then 38 else l)))
   ·refine k9 ?_;refine sR<|iL h J J n0 s7 λv32 _ h=>S2 2 J<|S3 3 J<|cF h A6 J J λv33 _ h=>S2 6 J<|S3 3 J<|n9 J (λhg=>om (d:=.mp 5000011) J)<|n9 J (λhg=>mI J) ?_;rcases Bool.eq_false_or_eq_true ((v33.2==0)==true) with hg24 | hg24
    ·have h:=ifT h hg24;refine c5v (es:=s21) (k:=v32) (E:=PV.bool) (EK:=iF) (d:=.bool ((A0 s21 v32).getD (false:Bool))) (congrArg some hg24) (ct hg24) J (ct hg24) a2u (y5 J2) b7n J (lk1 _ _ _)<|y0 (congrArg some hg24) (a6I J J)<|y0 J (a58 J J hg24)<|yN ?_;refine cN h (λhc h=>?_) λhc h=>?_
     ·refine S3 2 J ?_;refine a0y (es:=s21) (k:=v32) (v:=true) (E:=PV.bool) (EK:=iF) (.inl J) J J J J J J a2u (y5 J2)<|yN<|S5 2 J<|y0 J (Y4 (f:=iF) (l:=[v32]) J n0 s7 F0 J J nl J J)<|A5 h λv34 hv25 h=>a1Y J (a1z (f:=iF) hv25 J J J J J J (.inl ⟨_,J,J⟩) n0 s7 Y5 F0 J (λ_=>J)) J J J<|S2 1 J ?_;exact eJ h (Wk.trans (r9 _ [38]) W)
     ·refine g5 ?_;exact eJ h (Wk.trans (r9 _ [910006]) (WP (λl=>if l=38 then 910006 else l)))
    ·have h:=ifF h hg24;refine a1N (congrArg some hg24)<|a1N (congrArg some hg24)<|y0 J (a78 J J hg24)<|yN ?_;refine G5 false J (λq=>nomatch q) (λ_=>?_);refine g5 ?_;exact eJ h (Wk.trans (r9 _ [910006]) (WP (λl=>if l=38 then 910006 else l)))
  ·refine u9 ?_;refine g9<|g9<|n8 ?_;have h:=xL hx16 h;exact eJ h (Wk.trans (r9 _ [910006]) W)

theorem a5v{a0 a1}:PO Tryz.prog 210 [.L iF a0,.I a1] (P2 a0 a1) λr=>.I r:=by
 refine pO Tryz.func210 λr h _ _=>?_;refine S4 1 J ?_;refine jq h (λ_=>St.of [] []) (λq6 h=>?_) λκ5 h=>?_
 ·refine S4 1 J ?_;refine b9 ?_;cases h;exact f1
 ·refine S3 1 J ?_;refine nL J n0<|S2 1 J<|k9<|lq h (λs8=>St.of [(0,.L iF a0),(1,.I a1),(7,.I (a0.length:Int)),(8,.I s8)] []) W λs8 x9 h hx8=>S4 1 J<|k8 ?_;refine cN h (λhc h=>?_) λhc h=>?_
  ·refine g5 ?_;refine k8<|k9<|S4 2 J<|S3 3 J<|iL h J J n0 s7 λv10 _ h=>S2 2 J ?_;refine cN h (λhc h=>?_) λhc h=>?_
   ·refine S4 2 J ?_;refine b9 ?_;have h:=xL hx8 h;cases h;exact f1
   ·refine g5 ?_;refine S6 2 J ?_;exact eL h W
  ·refine u9 ?_;refine g9<|g9<|n8 ?_;have h:=xL hx8 h;exact eJ h W

theorem N7{a0 a1}:PO Tryz.prog 182 [.L iF a0,.I a1] (D3 a0 a1) λr=>.bool r:=by
 refine pO Tryz.func182 λr h _ _=>?_;refine S4 1 J<|S3 2 J<|cA h a5v J J λv1 _ h=>S2 2 J<|b9 ?_;cases h;exact f1

theorem b2i{a0 a1}:PO Tryz.prog 181 [e6.Pv a0,.rptr [.L iF a1]] (a0o a0 a1) λr=>.bool r:=by
 refine pO Tryz.func181 λr h _ _=>?_;unfold a0o at h;refine S4 2 J<|S3 3 J<|n9 J (λhg=>oF J b4H J)<|n9 J (λhg=>oS (ct hg) J J K1 J)<|n9 J (λhg=>D7 (ct hg) J J)<|y0 J (D9 J J J (λq=>eqT q))<|S1 1 J<|n9 J (λhg=>Z1 J b8Q J)<|n9 J (λhg=>oF J b4H J)<|n9 J (λhg=>oS (ct hg) J J K1 J)<|A5 h λv1 hv1 h=>n9 J (λhg=>U0 J N7 (X6 (ct hg) (X6 (ct hg) J)) (Y1 hv1 hg))<|y0 J (D9 J J J (λq=>eqT q))<|S2 1 J<|b9 ?_;cases h;exact f1

theorem a26{a0 a1}:PO Tryz.prog 180 [.L e6.Pv a0,.fn (.func 181) [.rptr [.L iF a1]]] (H6 a0 a1) λr=>.L iF r:=by
 refine pO Tryz.func180 λr h _ _=>?_;refine S4 1 J<|S4 1 J ?_;refine jq h (λj15=>St.of [(5,.sl 910005)] [(910005,⟨List.map iF j15,(List.map iF j15).length,true,1,true⟩)]) (λj15 h=>?_) λκ14 h=>?_
 ·refine S4 2 J ?_;refine b9 ?_;cases h;exact f1
 ·refine S3 1 J ?_;refine nL J W1<|S2 1 J<|k9<|lq h (λq=>St.of [(1,.fn (.func 181) [.rptr [.L iF a1]]),(5,.sl 910005),(8,.L e6.Pv a0),(9,.I (a0.length:Int)),(10,.I q.1)] [(910005,⟨List.map iF q.2,(List.map iF q.2).length,true,1,true⟩)]) (Wk.trans (X0 (t:=5) (l:=920005) (z:=1) J J) (WP (λl=>if l=910005 then 920005 else l))) λq20 x19 h hx14=>?_;obtain⟨s17,s18⟩:=q20;refine S4 1 J<|k8 ?_;refine cN h (λhc h=>?_) λhc h=>?_
  ·refine g5 ?_;refine jq h (λj25=>St.of [(1,.fn (.func 181) [.rptr [.L iF a1]]),(5,.sl 21),(8,.L e6.Pv a0),(9,.I (a0.length:Int)),(10,.I s17)] [(21,⟨List.map iF j25,(List.map iF j25).length,true,1,true⟩)]) (λj25 h=>?_) λκ24 h=>?_
   ·refine S6 2 J ?_;exact eL h (Wk.trans (r9 _ [21]) (WP (λl=>if l=910005 then 21 else l)))
   ·refine k9 ?_;refine S3 1 J<|iL h J J W1 X4 λv26 _ h=>S2 4 J<|S3 2 J<|cA h b2i J J λv27 _ h=>yN ?_;refine cN h (λhc h=>?_) λhc h=>?_
    ·refine S5 2 J ?_;refine y0 J (Y4 (f:=iF) (l:=[s17]) J n0 s7 F0 J J nl J J)<|A5 h λv28 hv21 h=>a1Y J (a1z (f:=iF) hv21 J J J J J J (.inl ⟨_,J,J⟩) n0 s7 Y5 F0 J (λ_=>J)) J J J<|S2 1 J ?_;exact eJ h (Wk.trans (r9 _ [21]) W)
    ·refine g5 ?_;exact eJ h (Wk.trans (r9 _ [910005]) (WP (λl=>if l=21 then 910005 else l)))
  ·refine u9 ?_;refine g9<|g9<|n8 ?_;have h:=xL hx14 h;exact eJ h (Wk.trans (r9 _ [910005]) W)

theorem b4G{a0 a1}:PO Tryz.prog 134 [.L e6.Pv a0,.L iF a1] (a33 a0 a1) λr=>.tup [.L e6.Pv r.1,.L iF r.2]:=by
 refine pO Tryz.func134 λr h _ _=>?_;unfold a33 at h;refine S4 3 J<|S3 2 J<|A5 h λv1 hv1 h=>ycL J (s6 J a26 J hv1) J<|S2 1 J<|S3 1 J<|A5 h λv2 hv2 h=>ycN J (b5b J a6N J hv2) J J<|S2 1 J<|S4 1 J ?_;refine jq h (λq=>St.of [(7,.sl 15),(8,.sl 910008)] [(910008,⟨List.map iF q.1,(List.map iF q.1).length,true,1,true⟩),(15,⟨List.map e6.Pv q.2,0,true,3,true⟩)]) (λq24 h=>?_) λκ21 h=>?_
 ·obtain⟨j22,j23⟩:=q24;refine S4 4 J<|b9 ?_;cases h;exact f2
 ·refine S3 1 J ?_;refine nL J n0<|S2 1 J<|k9<|lq h (λq=>St.of [(7,.sl 15),(8,.sl 910008),(16,.L iF v1),(17,.I (v1.length:Int)),(18,.I q.1)] [(15,⟨List.map e6.Pv q.2.1,0,true,3,true⟩),(910008,⟨List.map iF q.2.2,(List.map iF q.2.2).length,true,1,true⟩)]) (Wk.trans (X0 (t:=8) (l:=920008) (z:=1) J J) (WP (λl=>if l=910008 then 920008 else l))) λq30 x29 h hx18=>?_;obtain⟨s26,s27,s28⟩:=q30;refine S4 1 J<|k8 ?_;refine cN h (λhc h=>?_) λhc h=>?_
  ·refine g5 ?_;refine jq h (λq=>St.of [(7,.sl 15),(8,.sl 35),(16,.L iF v1),(17,.I (v1.length:Int)),(18,.I s26)] [(35,⟨List.map iF q.1,(List.map iF q.1).length,true,1,true⟩),(15,⟨List.map e6.Pv q.2,0,true,3,true⟩)]) (λq38 h=>?_) λκ35 h=>?_
   ·obtain⟨j36,j37⟩:=q38;refine S6 2 J ?_;exact eL h (Wk.trans (r9 _ [35]) (WP (λl=>if l=910008 then 35 else l)))
   ·refine k9 ?_;refine sR<|iL h J J n0 s7 λv39 _ h=>S2 2 J<|S3 2 J<|A5 h λv40 hv25 h=>y0 J (a8Y (f:=e6.Pv) hv25 J J J J W1 X4 J)<|S1 1 J<|b4b (f:=e6.Pv) (v:=(⟨v40.Target,false,v40.Call⟩:e6)) hv25 J J (.inl J) d0v<|yN<|S3 2 J<|A5 h λv41 hv26 h=>y0 J (a8Y (f:=e6.Pv) hv26 J J J J W1 X4 J)<|S1 1 J<|y0 J (c4i (f:=e6.Pv) hv26 J J J K1 J)<|S2 1 J ?_;refine cN h (λhc h=>?_) λhc h=>?_
    ·refine S5 2 J ?_;refine y0 J (Y4 (f:=iF) (l:=[v39]) J n0 s7 F0 J J nl J J)<|A5 h λv42 hv27 h=>a1Y J (a1z (f:=iF) hv27 J J J J J J (.inl ⟨_,J,J⟩) n0 s7 Y5 F0 J (λ_=>J)) J J J<|S2 1 J ?_;exact eJ h (Wk.trans (r9 _ [35]) W)
    ·refine g5 ?_;exact eJ h (Wk.trans (r9 _ [910008]) (WP (λl=>if l=35 then 910008 else l)))
  ·refine u9 ?_;refine g9<|g9<|n8 ?_;have h:=xL hx18 h;exact eJ h (Wk.trans (r9 _ [910008]) W)

theorem b0G{a0 a1}:PO Tryz.prog 85 [b6.Pv a0,.L iF a1] (a1H a0 a1) λr=>b6.Pv r:=by
 refine pO Tryz.func85 λr h _ _=>?_;refine S4 2 J<|S3 3 J<|cF h b4G J J λv1 _ h=>S2 5 J<|S4 3 J ?_;refine jq h (λj11=>St.of [(2,.ptr 2 0 0),(4,.ptr 4 0 0)] [(4,vR (.agg [.nl,.I 0,.I 0,.nl,.nl,.nl,.nl,.I 0]) 8),(2,vR (.agg [.L b7.Pv a0.S.S.a8,.I a0.S.S.Last,.I a0.S.Serial,.L iF a0.Roots,.L e6.Pv v1.1,.L b8.Pv a0.T,.L k7.Pv j11.L,.I j11.Cap]) 8)]) (λj11 h=>?_) λκ10 h=>?_
 ·refine S4 2 J ?_;refine b9 ?_;cases h;exact⟨J,[_],⟨oL J J J p6 o0 nl J,tr⟩,J,io⟩
 ·refine S3 1 J ?_;refine nL J n0<|S2 1 J<|k9<|lq h (λq=>St.of [(2,.ptr 2 0 0),(4,.ptr 4 0 0),(5,.L e6.Pv v1.1),(18,.L iF v1.2),(19,.I (v1.2.length:Int)),(20,.I q.1)] [(4,vR (.agg [.nl,.I 0,.I 0,.nl,.nl,.nl,.nl,.I 0]) 8),(2,vR (.agg [.L b7.Pv a0.S.S.a8,.I a0.S.S.Last,.I a0.S.Serial,.L iF a0.Roots,.L e6.Pv v1.1,.L b8.Pv a0.T,.L k7.Pv q.2.L,.I q.2.Cap]) 8)]) W λq16 x15 h hx11=>?_;obtain⟨s13,s14⟩:=q16;refine S4 1 J<|k8 ?_;refine cN h (λhc h=>?_) λhc h=>?_
  ·refine g5 ?_;refine k8<|k9<|sR<|iL h J J n0 s7 λv17 _ h=>S2 2 J<|a6b [] u5 (by kernel_rfl) (by kernel_rfl)<|S7 5 J<|A5 h λv18 hv13 h=>d0 J (Y0 (f:=e6.Pv) (cs:=e6.Pc v18) hv13 J J W1 X4 J J) J<|S7 2 J<|d7 J (λ_ hN=>u4 (cs:=[.I 2,.I v17,.I v18.Call]) J b5x a9G J J J) J<|A5 h λv19 hv14 h=>d2f J (s6 J b13 J hv14) J<|S7 4 J<|A9 (x':=.agg [.L b7.Pv a0.S.S.a8,.I a0.S.S.Last,.I a0.S.Serial,.L iF a0.Roots,.L e6.Pv v1.1,.L b8.Pv a0.T,.L k7.Pv v19.1.L,.I v19.1.Cap]) (cl':=true) J J (.inr J) a1m<|M7<|S6 2 J ?_;exact eL h W
  ·refine u9 ?_;refine g9<|g9<|n8 ?_;have h:=xL hx11 h;exact eJ h W

theorem b64{a0}:PO Tryz.prog 135 [.L iF a0] (a8w a0) λr=>.fn (.func 184) [.rptr [.L iF r]]:=by
 refine pO Tryz.func135 λr h _ _=>?_;unfold a8w at h;refine S4 2 J<|S4 2 J<|b9 ?_;cases h;exact f1

theorem b0P{a0}:PO Tryz.prog 87 [.L iF a0] (a3A a0) λr=>.L iF r:=by
 refine pO Tryz.func87 λr h _ _=>?_;refine S4 1 J<|S4 1 J ?_;refine jq h (λj10=>St.of [(3,.ptr 2001 0 0)] [(2001,vS (.sl 912501) 1),(912501,⟨List.map iF j10,(List.map iF j10).length,true,1,true⟩)]) (λj10 h=>?_) λκ9 h=>?_
 ·refine S4 2 J ?_;refine b9 ?_;cases h;exact f1
 ·refine S3 1 J ?_;refine cF h b64 J J λv11 _ h=>yN<|k9<|a2H (WPE (λl=>if l=2011 then 3 else l) [(3,.ptr 2011 0 0),(6,.fn (.func 184) [.rptr [.L iF v11]])] [(2011,vR (.nl) 1)]) ?_;refine a1C (fn:=Tryz.f184) (N1:=20) J Tryz.func184 J J nl J c5J J J (λl17 e18 o19 hR20=>?_);refine S3 1 J<|nL J n0<|S2 1 J<|k9<|lq h (λq=>St.of [(1000003,.ptr 2011 0 0),(1000006,.fn (.func 184) [.rptr [.L iF v11]]),(0,.fn (.yield l17) []),(5,.L iF v11),(6,.I (v11.length:Int)),(7,.I q.1)] [(2011,vS (.sl 912511) 1),(912511,⟨List.map iF q.2,(List.map iF q.2).length,true,1,true⟩)]) (Wk.trans (b2N (l0:=2011) (j:=0) (l:=922511) (z:=1) J J J J J) (WP (λl=>if l=912511 then 922511 else l))) λq16 x15 h hx23=>?_;obtain⟨s13,s14⟩:=q16;refine S4 1 J<|k8 ?_;refine cN h (λhc h=>?_) λhc h=>?_
  ·refine g5 ?_;refine k8<|k9<|sR<|iL h J J n0 s7 λv17 _ h=>S2 2 J<|S3 3 J<|n9 J (λhg=>om (d:=.fn (.yield l17) []) J)<|n9 J (λhg=>mI J) ?_;rcases Bool.eq_false_or_eq_true ((v17 != 0)==true) with hg25 | hg25
   ·have h:=ifT h hg25;refine Q3 (WPE (λl=>if l=2019 then 912511 else l) [(1000003,.ptr 2011 0 0),(1000006,.fn (.func 184) [.rptr [.L iF v11]]),(0,.fn (.yield l17) []),(5,.L iF v11),(6,.I (v11.length:Int)),(7,.I s13),(13,.bool (v17 != 0)),(14,.fn (.yield l17) []),(15,.I v17)] [(2011,vS (.sl 2019) 1),(2019,⟨List.map iF s14,(List.map iF s14).length,true,1,true⟩)]) ?_;refine a6A hR20 (congrArg some hg25) J J J J J (λe26 o27 o28=>?_);refine S6 1 J ?_;refine⟨J,?_⟩;refine k9<|S5 2 J<|y0 J (Y4 (f:=iF) (l:=[v17]) J n0 s7 F0 J J nl J J)<|A5 h λv18 hv29 h=>a1Y J (a1z (f:=iF) hv29 J J J J J J (.inl ⟨_,J,J⟩) n0 s7 Y5 F0 J (λ_=>J)) J J J<|S2 1 J ?_;refine⟨J,?_⟩;refine Q3 (WPE (λl=>if l=2020 then 11 else l) [(1000003,.ptr 2011 0 0),(1000006,.fn (.func 184) [.rptr [.L iF v11]]),(0,.fn (.yield l17) []),(5,.L iF v11),(6,.I (v11.length:Int)),(7,.I s13),(13,.bool (v17 != 0)),(16,.bool true)] [(2011,vS (.sl 2020) 1),(2020,⟨List.map iF v18,s14.length,true,1,true⟩)])<|y0 (congrArg some hg25) (a6I J J)<|y0 J (a58 J J hg25)<|yN ?_;refine G5 false J (λq=>nomatch q) (λ_=>?_);refine g5<|S6 2 J ?_;exact eL h (Wk.trans (r9 _ [2020]) (WP (λl=>if l=912511 then 2020 else l)))
   ·have h:=ifF h hg25;refine a1N (congrArg some hg25)<|a1N (congrArg some hg25)<|y0 J (a78 J J hg25)<|yN ?_;refine G5 false J (λq=>nomatch q) (λ_=>?_);refine g5<|S6 2 J ?_;exact eL h (Wk.trans (r9 _ [912511]) W)
  ·refine u9 ?_;refine g9<|g9<|n8 ?_;refine .inl ⟨J,?_⟩;have h:=xL hx23 h;exact eJ h (Wk.trans (r9 _ [912511]) (WP (λl=>if l=2001 then 2011 else if l=912501 then 912511 else l)))

theorem b05{a0 a1}:PO Tryz.prog 88 [.L b8.Pv a0,.L iF a1] (V2 a0 a1) λr=>.tup [.L b8.Pv r.1,.L iF r.2]:=by
 refine pO Tryz.func88 λr h _ _=>?_;refine S4 2 J<|S4 1 J ?_;refine jq h (λq=>St.of [(0,.L b8.Pv q.1),(6,.sl 910006)] [(910006,⟨List.map iF q.2,(List.map iF q.2).length,true,1,true⟩)]) (λq20 h=>?_) λκ17 h=>?_
 ·obtain⟨j18,j19⟩:=q20;refine S4 4 J<|b9 ?_;cases h;exact f2
 ·refine S3 1 J ?_;refine nL J n0<|S2 1 J<|k9<|lq h (λq=>St.of [(0,.L b8.Pv q.1),(6,.sl 910006),(12,.L iF a1),(13,.I (a1.length:Int)),(14,.I q.2.1)] [(910006,⟨List.map iF q.2.2,(List.map iF q.2.2).length,true,1,true⟩)]) (Wk.trans (X0 (t:=6) (l:=920006) (z:=1) J J) (WP (λl=>if l=910006 then 920006 else l))) λq26 x25 h hx14=>?_;obtain⟨s22,s23,s24⟩:=q26;refine S4 1 J<|k8 ?_;refine cN h (λhc h=>?_) λhc h=>?_
  ·refine g5 ?_;refine jq h (λq=>St.of [(0,.L b8.Pv q.1),(6,.sl 31),(12,.L iF a1),(13,.I (a1.length:Int)),(14,.I s23)] [(31,⟨List.map iF q.2,(List.map iF q.2).length,true,1,true⟩)]) (λq33 h=>?_) λκ30 h=>?_
   ·obtain⟨j31,j32⟩:=q33;refine S6 2 J ?_;exact eL h (Wk.trans (r9 _ [31]) (WP (λl=>if l=910006 then 31 else l)))
   ·refine k9 ?_;refine sR<|iL h J J n0 s7 λv34 _ h=>S2 2 J<|S3 2 J<|cF h a92 J J λv35 _ h=>S2 7 J<|S4 2 J ?_;refine cN h (λhc h=>?_) λhc h=>?_
    ·refine S5 3 J ?_;refine y0 J (Y4 (f:=iF) (l:=[v35.2.1]) J n0 s7 F0 J J nl J J)<|A5 h λv36 hv21 h=>a1Y J (a1z (f:=iF) hv21 J J J J J J (.inl ⟨_,J,J⟩) n0 s7 Y5 F0 J (λ_=>J)) J J J<|S2 2 J ?_;exact eJ h (Wk.trans (r9 _ [31]) W)
    ·refine g5 ?_;exact eJ h (Wk.trans (r9 _ [910006]) (WP (λl=>if l=31 then 910006 else l)))
  ·refine u9 ?_;refine g9<|g9<|n8 ?_;have h:=xL hx14 h;exact eJ h (Wk.trans (r9 _ [910006]) W)

theorem a6o{a0 a1}:PO Tryz.prog 137 [c7.Pv a0,.I a1] (Q6 a0 a1) λr=>.tup [c7.Pv r.1,.I r.2]:=by
 refine pO Tryz.func137 λr h _ _=>?_;refine S4 3 J<|S3 2 J<|cF h a1V J J λv1 _ h=>S2 6 J<|k8<|S4 2 J ?_;refine cN h (λhc h=>?_) λhc h=>?_
 ·refine S4 4 J ?_;refine b9 ?_;cases h;exact⟨J,[_,_],⟨oL J J J a2N a1l nl J,⟨J,tr⟩⟩,J,io⟩
 ·refine g5 ?_;refine dr [] u5 (by kernel_rfl) (by kernel_rfl)<|S7 2 J<|A5 h λv2 hv2 h=>d2 J (U0 J a7e J hv2) J<|S7 1 J<|A5 h λv3 hv3 h=>d2 J (U0 J a8V J hv3) J<|S7 1 J<|d7 J (λ_ hN=>u4 (cs:=[.I 2,.I v3,.I v1.1.Serial,.I v1.1.Strong,.I v1.1.Weak,.I v1.1.Prog,.bool v1.1.Started,.L iF v1.1.Fields]) J b5y b0X J J J) J<|A5 h λv4 hv4 h=>d2f J (s6 J G8 J hv4) J<|A9 (x':=c7.Pv v4) (cl':=true) J J (.inr J) a1l<|S8 1 J<|b9 ?_;cases h;exact⟨J,[_,_],⟨oL J J J a2N a1l nl J,⟨J,tr⟩⟩,J,io⟩

theorem b1D{a0 a1}:PO Tryz.prog 89 [b6.Pv a0,.I a1] (V8 a0 a1) λr=>b6.Pv r:=by
 refine pO Tryz.func89 λr h _ _=>?_;refine S4 2 J<|S3 3 J<|cF h A6 J J λv1 _ h=>S2 6 J<|S3 1 J<|a7R (x':=.agg [.I v1.1.Serial,.I v1.1.Strong,.I v1.1.Weak,.I v1.1.Prog,.bool v1.1.Started,.nl]) (cl':=true) J J (.inl J) a60<|S1 1 J<|a7R (x':=.agg [.I v1.1.Serial,.I 0,.I v1.1.Weak,.I v1.1.Prog,.bool v1.1.Started,.nl]) (cl':=true) J J (.inl J) s7<|yN<|S3 4 J<|cF h a0n J J λv2 _ h=>S2 5 J<|S3 4 J<|cF h a6o J J λv3 _ h=>S2 6 J<|k8<|S4 3 J ?_;refine cN h (λhc h=>?_) λhc h=>?_
 ·refine S5 4 J ?_;refine cF h a1I J J λv4 _ h=>S2 6 J<|S4 2 J<|b9 ?_;cases h;exact⟨J,[_],⟨oL J J J p6 o0 nl J,tr⟩,J,io⟩
 ·refine g5 ?_;refine S4 2 J<|b9 ?_;cases h;exact⟨J,[_],⟨oL J J J p6 o0 nl J,tr⟩,J,io⟩

end Go.Proofs.YtjpgbnlcefhaiaaGreat.Ok
