/-
 The functions of the program do as the plain functions do.
-/
import Derived.Test.YtjpgbnlcefhaiaaGreatW24bPwC
import Derived.Test.YtjpgbnlcefhaiaaGreatW24bPwD
import Derived.Test.YtjpgbnlcefhaiaaGreatSrt
import Derived.Test.YtjpgbnlcefhaiaaGreatSrtI
import Derived.Test.YtjpgbnlcefhaiaaGreatW24bSh
import Derived.Test.YtjpgbnlcefhaiaaGreatProg
set_option linter.unusedVariables false
set_option linter.unusedSimpArgs false
set_option linter.unusedSectionVars false
namespace Go.Proofs.YtjpgbnlcefhaiaaGreat.Ok
open Go Go.Pw Go.Sh Go.Proofs
set_option maxRecDepth 100000
set_option maxHeartbeats 4000000
abbrev _root_.Go.Sh.m7.Pc(x:m7):List PV:=[.I x.Serial,.I x.Strong,.I x.Weak,.I x.Prog,.bool x.Started,.L iF x.Fields]
abbrev _root_.Go.Sh.m7.Pv(x:m7):PV:=.agg x.Pc
abbrev _root_.Go.Sh.b7.Pc(x:b7):List PV:=[.I x.State,.I x.Gen,.I x.Val.Serial,.I x.Val.Strong,.I x.Val.Weak,.I x.Val.Prog,.bool x.Val.Started,.L iF x.Val.Fields]
abbrev _root_.Go.Sh.b7.Pv(x:b7):PV:=.agg x.Pc
abbrev _root_.Go.Sh.e6.Pc(x:e6):List PV:=[.I x.Target,.bool x.Intact,.I x.Call]
abbrev _root_.Go.Sh.e6.Pv(x:e6):PV:=.agg x.Pc
abbrev _root_.Go.Sh.b8.Pc(x:b8):List PV:=[.I x.State,.I x.Key,.I x.Val]
abbrev _root_.Go.Sh.b8.Pv(x:b8):PV:=.agg x.Pc
abbrev _root_.Go.Sh.k9.Pc(x:k9):List PV:=[.I x.Kind,.I x.At,.I x.Prog]
abbrev _root_.Go.Sh.k9.Pv(x:k9):PV:=.agg x.Pc
abbrev _root_.Go.Sh.g9.Pc(x:g9):List PV:=[.I x.Kind,.I x.A,.I x.B,.I x.C]
abbrev _root_.Go.Sh.g9.Pv(x:g9):PV:=.agg x.Pc
abbrev _root_.Go.Sh.g8.Pc(x:g8):List PV:=[fvE x.part,.I x.least,.I x.most,.I x.e]
abbrev _root_.Go.Sh.g8.Pv(x:g8):PV:=.agg x.Pc
abbrev _root_.Go.Sh.c8.Pc(x:c8):List PV:=[.L b7.Pv x.a8,.I x.Last]
abbrev _root_.Go.Sh.c8.Pv(x:c8):PV:=.agg x.Pc
abbrev _root_.Go.Sh.a7.Pc(x:a7):List PV:=[.L b7.Pv x.S.a8,.I x.S.Last,.I x.Serial]
abbrev _root_.Go.Sh.a7.Pv(x:a7):PV:=.agg x.Pc
abbrev _root_.Go.Sh.c9.Pc(x:c9):List PV:=[.L k9.Pv x.L,.I x.Cap]
abbrev _root_.Go.Sh.c9.Pv(x:c9):PV:=.agg x.Pc
abbrev _root_.Go.Sh.b6.Pc(x:b6):List PV:=[.L b7.Pv x.S.S.a8,.I x.S.S.Last,.I x.S.Serial,.L iF x.Roots,.L e6.Pv x.a8,.L b8.Pv x.T,.L k9.Pv x.Q.L,.I x.Q.Cap]
abbrev _root_.Go.Sh.b6.Pv(x:b6):PV:=.agg x.Pc
abbrev _root_.Go.Sh.c7.Pc(x:c7):List PV:=[.L b7.Pv x.X.S.S.a8,.I x.X.S.S.Last,.I x.X.S.Serial,.L iF x.X.Roots,.L e6.Pv x.X.a8,.L b8.Pv x.X.T,.L k9.Pv x.X.Q.L,.I x.X.Q.Cap,.L (Ls g9.Pv) x.Progs]
abbrev _root_.Go.Sh.c7.Pv(x:c7):PV:=.agg x.Pc
abbrev _root_.Go.Sh.g7.Pc(x:g7):List PV:=[.I x.V,.I x.E]
abbrev _root_.Go.Sh.g7.Pv(x:g7):PV:=.agg x.Pc
abbrev _root_.Go.Sh.o8.Pc(x:o8):List PV:=[.L b7.Pv x.x.S.S.a8,.I x.x.S.S.Last,.I x.x.S.Serial,.L iF x.x.Roots,.L e6.Pv x.x.a8,.L b8.Pv x.x.T,.L k9.Pv x.x.Q.L,.I x.x.Q.Cap,.I x.o.Kind,.I x.o.A,.I x.o.B,.I x.o.C]
abbrev _root_.Go.Sh.o8.Pv(x:o8):PV:=.agg x.Pc
abbrev _root_.Go.Sh.G4.Pc(x:G4):List PV:=[.I x.r,.I x.h]
abbrev _root_.Go.Sh.G4.Pv(x:G4):PV:=.agg x.Pc
abbrev _root_.Go.Sh.E9.Pc(x:E9):List PV:=[.I x.h,.I x.k,.I x.v]
abbrev _root_.Go.Sh.E9.Pv(x:E9):PV:=.agg x.Pc
abbrev _root_.Go.Sh.G3.Pc(x:G3):List PV:=[.L b8.Pv x.t]
abbrev _root_.Go.Sh.G3.Pv(x:G3):PV:=.agg x.Pc
abbrev _root_.Go.Sh.m9.Pc(x:m9):List PV:=[.I x.Key,.I x.Val]
abbrev _root_.Go.Sh.m9.Pv(x:m9):PV:=.agg x.Pc
abbrev _root_.Go.Sh.k7.Pc(x:k7):List PV:=[.L iF x.L,.I x.Cap]
abbrev _root_.Go.Sh.k7.Pv(x:k7):PV:=.agg x.Pc
def a9h(t:Nat):Nat:=if t=85 then 4 else if t=89 then 0 else if t=93 then 1 else 0
theorem I6:K4 Tryz.prog 3=some false:=by kernel_rfl
theorem b7q:K4 Tryz.prog 4=some false:=by kernel_rfl
theorem c8o:K4 Tryz.prog 25=some false:=by kernel_rfl
theorem a2V:K4 Tryz.prog 27=some true:=by kernel_rfl
theorem a5K:K4 Tryz.prog 29=some true:=by kernel_rfl
theorem b80:K4 Tryz.prog 30=some false:=by kernel_rfl
theorem c8p:K4 Tryz.prog 31=some false:=by kernel_rfl
theorem b5F:K4 Tryz.prog 32=some false:=by kernel_rfl
theorem a4R:K4 Tryz.prog 35=some true:=by kernel_rfl
theorem p8:K4 Tryz.prog 37=some true:=by kernel_rfl
theorem W5:K4 Tryz.prog 40=some true:=by kernel_rfl
theorem a4S:K4 Tryz.prog 45=some false:=by kernel_rfl
theorem a5L:K4 Tryz.prog 47=some true:=by kernel_rfl
theorem b2Z:K4 Tryz.prog 54=some true:=by kernel_rfl
theorem c2J:K4 Tryz.prog 57=some true:=by kernel_rfl
theorem b5G:K4 Tryz.prog 65=some true:=by kernel_rfl
theorem a3j:K4 Tryz.prog 144=some true:=by kernel_rfl
theorem a1q:K4 Tryz.prog 154=some true:=by kernel_rfl
theorem c0r:K4 Tryz.prog 201=some false:=by kernel_rfl
theorem a72:K4 Tryz.prog 292=some true:=by kernel_rfl
theorem Y9:O1 Tryz.prog 3=some 8:=by kernel_rfl
theorem c8q:O1 Tryz.prog 47=some 16:=by kernel_rfl
theorem c2K:O1 Tryz.prog 56=some 80:=by kernel_rfl
theorem c5L:O1 Tryz.prog 154=some 24:=by kernel_rfl
theorem c0s:O1 Tryz.prog 183=some 24:=by kernel_rfl
theorem c0t:O1 Tryz.prog 256=some 24:=by kernel_rfl
theorem c0u:O1 Tryz.prog 308=some 16:=by kernel_rfl
theorem a9g:z8 Tryz.prog 22=some 30:=by kernel_rfl
theorem R3:z8 Tryz.prog 25=some 56:=by kernel_rfl
theorem n0:z8 Tryz.prog 30=some 3:=by kernel_rfl
theorem W6:z8 Tryz.prog 31=some 183:=by kernel_rfl
theorem a0Y:z8 Tryz.prog 32=some 256:=by kernel_rfl
theorem a69:z8 Tryz.prog 33=some 154:=by kernel_rfl
theorem b20:z8 Tryz.prog 38=some 63:=by kernel_rfl
theorem a0v:z8 Tryz.prog 41=some 47:=by kernel_rfl
theorem b05:z8 Tryz.prog 63=some 65:=by kernel_rfl
theorem a0f:z8 Tryz.prog 138=some 144:=by kernel_rfl
theorem a5M:z8 Tryz.prog 305=some 308:=by kernel_rfl
theorem c2L:a01 Tryz.prog 27 0=some (0,25):=by kernel_rfl
theorem b7r:a01 Tryz.prog 37 1=some (3,30):=by kernel_rfl
theorem c2M:a01 Tryz.prog 37 2=some (4,31):=by kernel_rfl
theorem c2N:a01 Tryz.prog 37 4=some (6,35):=by kernel_rfl
theorem a1r:a01 Tryz.prog 47 0=some (0,3):=by kernel_rfl
theorem a7a:a01 Tryz.prog 47 1=some (1,45):=by kernel_rfl
theorem c2O:a01 Tryz.prog 54 1=some (1,3):=by kernel_rfl
theorem c2P:a01 Tryz.prog 54 2=some (2,3):=by kernel_rfl
theorem b7s:a01 Tryz.prog 54 4=some (4,4):=by kernel_rfl
theorem b7t:a01 Tryz.prog 56 0=some (0,3):=by kernel_rfl
theorem c2Q:a01 Tryz.prog 56 2=some (2,54):=by kernel_rfl
theorem c2R:a01 Tryz.prog 65 0=some (0,3):=by kernel_rfl
theorem c1K:a01 Tryz.prog 144 2=some (2,3):=by kernel_rfl
theorem b4T:a01 Tryz.prog 183 0=some (0,3):=by kernel_rfl
theorem c1L:a01 Tryz.prog 183 1=some (1,4):=by kernel_rfl
theorem c1M:a01 Tryz.prog 256 1=some (1,3):=by kernel_rfl
theorem c1N:a01 Tryz.prog 308 0=some (0,3):=by kernel_rfl
theorem b4U:a01 Tryz.prog 308 1=some (1,3):=by kernel_rfl
theorem b7u:c5p Tryz.prog 3=some .i64:=by kernel_rfl
theorem c8r:A3 Tryz.prog 35:=kC Tryz.func35 J
theorem c8s:A3 Tryz.prog 48:=kC Tryz.func48 J
theorem c8t:A3 Tryz.prog 51:=kC Tryz.func51 J
theorem c8u:A3 Tryz.prog 52:=kC Tryz.func52 J
theorem c2S:A3 Tryz.prog 86:=kC Tryz.func86 J
theorem c8v:A3 Tryz.prog 92:=kC Tryz.func92 J
theorem c5M:A3 Tryz.prog 167:=kC Tryz.func167 J
theorem c5N:A3 Tryz.prog 174:=kC Tryz.func174 J
theorem c5O:A3 Tryz.prog 184:=kC Tryz.func184 J
theorem c5P:A3 Tryz.prog 195:=kC Tryz.func195 J
theorem c5Q:A3 Tryz.prog 197:=kC Tryz.func197 J
theorem c5R:A3 Tryz.prog 221:=kC Tryz.func221 J
theorem c5S:A3 Tryz.prog 223:=kC Tryz.func223 J
theorem c0v:A3 Tryz.prog 224:=kC Tryz.func224 J
theorem c0w:A3 Tryz.prog 227:=kC Tryz.func227 J
theorem c5T:A3 Tryz.prog 247:=kC Tryz.func247 J
theorem c0x:A3 Tryz.prog 248:=kC Tryz.func248 J
theorem Z0:b0T Tryz.prog 109=some (3,107):=by kernel_rfl
theorem b21:b0T Tryz.prog 123=some (3,3):=by kernel_rfl
theorem R4:b0T Tryz.prog 140=some (3,138):=by kernel_rfl
theorem a2B:b0T Tryz.prog 201=some (3,4):=by kernel_rfl
theorem c2T:D2 Tryz.prog 27=some (λi=>(#[(0,1),(1,1)]:Array (Nat × Nat))[i]?):=by kernel_rfl
theorem c2U:D2 Tryz.prog 29=some (λi=>(#[(0,2),(2,1)]:Array (Nat × Nat))[i]?):=by kernel_rfl
theorem c8w:D2 Tryz.prog 35=some (λi=>(#[(0,1),(1,1)]:Array (Nat × Nat))[i]?):=by kernel_rfl
theorem c2V:D2 Tryz.prog 37=some (λi=>(#[(0,3),(3,1),(4,1),(5,1),(6,2)]:Array (Nat × Nat))[i]?):=by kernel_rfl
theorem b81:D2 Tryz.prog 40=some (λi=>(#[(0,8),(8,1)]:Array (Nat × Nat))[i]?):=by kernel_rfl
theorem c8x:D2 Tryz.prog 47=some (λi=>(#[(0,1),(1,1)]:Array (Nat × Nat))[i]?):=by kernel_rfl
theorem c8y:D2 Tryz.prog 54=some (λi=>(#[(0,1),(1,1),(2,1),(3,1),(4,1),(5,1)]:Array (Nat × Nat))[i]?):=by kernel_rfl
theorem b5I:D2 Tryz.prog 56=some (λi=>(#[(0,1),(1,1),(2,6)]:Array (Nat × Nat))[i]?):=by kernel_rfl
theorem b82:D2 Tryz.prog 57=some (λi=>some (i*1,1)):=by kernel_rfl
theorem b83:D2 Tryz.prog 65=some (λi=>(#[(0,1),(1,1),(2,1),(3,1)]:Array (Nat × Nat))[i]?):=by kernel_rfl
theorem c8z:D2 Tryz.prog 85=some (λi=>(#[(0,4)]:Array (Nat × Nat))[i]?):=by kernel_rfl
theorem c8A:D2 Tryz.prog 89=some (λi=>(#[]:Array (Nat × Nat))[i]?):=by kernel_rfl
theorem c8B:D2 Tryz.prog 93=some (λi=>(#[(0,1)]:Array (Nat × Nat))[i]?):=by kernel_rfl
theorem c5U:D2 Tryz.prog 113=some (λi=>(#[(0,8),(8,4)]:Array (Nat × Nat))[i]?):=by kernel_rfl
theorem a1s:D2 Tryz.prog 144=some (λi=>(#[(0,1),(1,1),(2,1),(3,1)]:Array (Nat × Nat))[i]?):=by kernel_rfl
theorem b5H:D2 Tryz.prog 154=some (λi=>(#[(0,1),(1,1),(2,1)]:Array (Nat × Nat))[i]?):=by kernel_rfl
theorem c5V:D2 Tryz.prog 183=some (λi=>(#[(0,1),(1,1),(2,1)]:Array (Nat × Nat))[i]?):=by kernel_rfl
theorem c5W:D2 Tryz.prog 234=some (λi=>(#[(0,1),(1,1),(2,1)]:Array (Nat × Nat))[i]?):=by kernel_rfl
theorem c5X:D2 Tryz.prog 242=some (λi=>(#[(0,1)]:Array (Nat × Nat))[i]?):=by kernel_rfl
theorem c0y:D2 Tryz.prog 256=some (λi=>(#[(0,1),(1,1),(2,1)]:Array (Nat × Nat))[i]?):=by kernel_rfl
theorem c5Y:D2 Tryz.prog 261=some (λi=>(#[(0,1)]:Array (Nat × Nat))[i]?):=by kernel_rfl
theorem c5Z:D2 Tryz.prog 265=some (λi=>(#[(0,1),(1,1)]:Array (Nat × Nat))[i]?):=by kernel_rfl
theorem c50:D2 Tryz.prog 292=some (λi=>(#[(0,1),(1,1)]:Array (Nat × Nat))[i]?):=by kernel_rfl
theorem c0z:D2 Tryz.prog 308=some (λi=>(#[(0,1),(1,1)]:Array (Nat × Nat))[i]?):=by kernel_rfl
theorem b84:b1i Tryz.prog 57=some [1,1,1,1]:=by kernel_rfl
theorem c2W:a9w Tryz.prog 85=true:=by kernel_rfl
theorem c2X:a9w Tryz.prog 89=true:=by kernel_rfl
theorem c2Y:a9w Tryz.prog 93=true:=by kernel_rfl
theorem c2Z:c0c Tryz.prog 57=some (4,3):=by kernel_rfl
theorem u4:o9 Tryz.prog 3=some 1:=by kernel_rfl
theorem d0E:o9 Tryz.prog 4=some 1:=by kernel_rfl
theorem a1t:o9 Tryz.prog 27=some 2:=by kernel_rfl
theorem a5N:o9 Tryz.prog 29=some 3:=by kernel_rfl
theorem a5O:o9 Tryz.prog 30=some 1:=by kernel_rfl
theorem c20:o9 Tryz.prog 33=some 1:=by kernel_rfl
theorem a1u:o9 Tryz.prog 35=some 2:=by kernel_rfl
theorem o0:o9 Tryz.prog 37=some 8:=by kernel_rfl
theorem C7:o9 Tryz.prog 40=some 9:=by kernel_rfl
theorem F5:o9 Tryz.prog 47=some 2:=by kernel_rfl
theorem a7b:o9 Tryz.prog 54=some 6:=by kernel_rfl
theorem a0w:o9 Tryz.prog 56=some 8:=by kernel_rfl
theorem c21:o9 Tryz.prog 57=some 4:=by kernel_rfl
theorem c22:o9 Tryz.prog 63=some 1:=by kernel_rfl
theorem a9i:o9 Tryz.prog 65=some 4:=by kernel_rfl
theorem c8C:o9 Tryz.prog 89=some 0:=by kernel_rfl
theorem I7:o9 Tryz.prog 144=some 4:=by kernel_rfl
theorem K5:o9 Tryz.prog 154=some 3:=by kernel_rfl
theorem Y1:o9 Tryz.prog 183=some 3:=by kernel_rfl
theorem a0T:o9 Tryz.prog 256=some 3:=by kernel_rfl
theorem a4m:o9 Tryz.prog 292=some 2:=by kernel_rfl
theorem a9T:o9 Tryz.prog 308=some 2:=by kernel_rfl
theorem J6:Tryz.prog.underlying 3=some (.int .i64):=by kernel_rfl
theorem d0F:Tryz.prog.underlying 4=some (.bool):=by kernel_rfl
theorem b7v:Tryz.prog.underlying 5=some (.int .u8):=by kernel_rfl
theorem F1:y9 Tryz.prog 3=some ((.I 0)):=by kernel_rfl
theorem b7w:y9 Tryz.prog 4=some ((.bool false)):=by kernel_rfl
theorem c23:y9 Tryz.prog 27=some ((.agg #[(.slice none 0 0),(.I 0)])):=by kernel_rfl
theorem c24:y9 Tryz.prog 29=some ((.agg #[(.slice none 0 0),(.I 0),(.I 0)])):=by kernel_rfl
theorem b22:y9 Tryz.prog 30=some ((.slice none 0 0)):=by kernel_rfl
theorem c8D:y9 Tryz.prog 35=some ((.agg #[(.slice none 0 0),(.I 0)])):=by kernel_rfl
theorem c25:y9 Tryz.prog 37=some ((.agg #[(.slice none 0 0),(.I 0),(.I 0),(.slice none 0 0),(.slice none 0 0),(.slice none 0 0),(.slice none 0 0),(.I 0)])):=by kernel_rfl
theorem b85:y9 Tryz.prog 40=some ((.agg #[(.slice none 0 0),(.I 0),(.I 0),(.slice none 0 0),(.slice none 0 0),(.slice none 0 0),(.slice none 0 0),(.I 0),(.slice none 0 0)])):=by kernel_rfl
theorem b86:y9 Tryz.prog 47=some ((.agg #[(.I 0),(.I 0)])):=by kernel_rfl
theorem c8E:y9 Tryz.prog 54=some ((.agg #[(.I 0),(.I 0),(.I 0),(.I 0),(.bool false),(.slice none 0 0)])):=by kernel_rfl
theorem b06:y9 Tryz.prog 56=some ((.agg #[(.I 0),(.I 0),(.I 0),(.I 0),(.I 0),(.I 0),(.bool false),(.slice none 0 0)])):=by kernel_rfl
theorem b87:y9 Tryz.prog 57=some ((.agg #[(.I 0),(.I 0),(.I 0),(.I 0)])):=by kernel_rfl
theorem b88:y9 Tryz.prog 65=some ((.agg #[(.I 0),(.I 0),(.I 0),(.I 0)])):=by kernel_rfl
theorem c26:y9 Tryz.prog 85=some ((.agg #[(.I 0),(.I 0),(.I 0),(.I 0)])):=by kernel_rfl
theorem c27:y9 Tryz.prog 89=some ((.agg #[])):=by kernel_rfl
theorem c28:y9 Tryz.prog 93=some ((.agg #[(.I 0)])):=by kernel_rfl
theorem c51:y9 Tryz.prog 107=some (.nilFunc):=by kernel_rfl
theorem c52:y9 Tryz.prog 113=some ((.agg #[(.slice none 0 0),(.I 0),(.I 0),(.slice none 0 0),(.slice none 0 0),(.slice none 0 0),(.slice none 0 0),(.I 0),(.I 0),(.I 0),(.I 0),(.I 0)])):=by kernel_rfl
theorem c53:y9 Tryz.prog 138=some ((.slice none 0 0)):=by kernel_rfl
theorem H7:y9 Tryz.prog 144=some ((.agg #[.nilFunc,(.I 0),(.I 0),(.I 0)])):=by kernel_rfl
theorem a9U:y9 Tryz.prog 154=some ((.agg #[(.I 0),(.I 0),(.I 0)])):=by kernel_rfl
theorem b5J:y9 Tryz.prog 183=some ((.agg #[(.I 0),(.bool false),(.I 0)])):=by kernel_rfl
theorem c54:y9 Tryz.prog 234=some ((.agg #[(.I 0),(.I 0),(.I 0)])):=by kernel_rfl
theorem c55:y9 Tryz.prog 242=some ((.agg #[(.slice none 0 0)])):=by kernel_rfl
theorem b2u:y9 Tryz.prog 256=some ((.agg #[(.I 0),(.I 0),(.I 0)])):=by kernel_rfl
theorem c56:y9 Tryz.prog 261=some ((.agg #[.nilFunc])):=by kernel_rfl
theorem c57:y9 Tryz.prog 265=some ((.agg #[(.I 0),(.I 0)])):=by kernel_rfl
theorem c58:y9 Tryz.prog 292=some ((.agg #[(.slice none 0 0),(.I 0)])):=by kernel_rfl
theorem a73:y9 Tryz.prog 308=some ((.agg #[(.I 0),(.I 0)])):=by kernel_rfl
theorem u5:Tryz.prog.follows .mixedOrders=true:=by kernel_rfl
def tb:TB:=⟨[((27,0),(0,25)),((27,1),(1,3)),((29,0),(0,27)),((29,1),(2,3)),((35,0),(0,33)),((35,1),(1,3)),((37,0),(0,29)),((37,1),(3,30)),((37,2),(4,31)),((37,3),(5,32)),((37,4),(6,35)),((40,0),(0,37)),((40,1),(8,38)),((47,0),(0,3)),((47,1),(1,45)),((54,0),(0,3)),((54,1),(1,3)),((54,2),(2,3)),((54,3),(3,3)),((54,4),(4,4)),((54,5),(5,30)),((56,0),(0,3)),((56,1),(1,3)),((56,2),(2,54)),((65,0),(0,3)),((65,1),(1,3)),((65,2),(2,3)),((65,3),(3,3)),((85,0),(0,65)),((93,0),(0,3)),((113,0),(0,37)),((113,1),(8,65)),((144,0),(0,142)),((144,1),(1,3)),((144,3),(3,45)),((154,0),(0,3)),((154,1),(1,3)),((154,2),(2,3)),((183,0),(0,3)),((183,1),(1,4)),((183,2),(2,3)),((234,0),(0,3)),((234,1),(1,3)),((234,2),(2,3)),((242,0),(0,32)),((256,0),(0,3)),((256,1),(1,3)),((256,2),(2,3)),((261,0),(0,259)),((265,0),(0,3)),((265,1),(1,3)),((292,0),(0,30)),((292,1),(1,3)),((308,0),(0,3)),((308,1),(1,3))],[(3,false),(4,false),(25,false),(27,true),(29,true),(30,false),(31,false),(32,false),(33,false),(35,true),(37,true),(38,false),(40,true),(45,false),(47,true),(54,true),(56,true),(57,true),(63,false),(65,true),(113,true),(123,false),(142,false),(144,true),(154,true),(183,true),(201,false),(256,true),(259,false),(261,true),(292,true),(305,false),(308,true),(316,false)],[(3,1),(4,1),(25,1),(27,2),(29,3),(30,1),(31,1),(32,1),(35,2),(37,8),(40,9),(45,1),(47,2),(54,6),(56,8),(57,4),(65,4),(85,4),(93,1),(113,12),(123,1),(144,4),(154,3),(183,3),(201,1),(256,3),(261,1),(292,2),(305,1),(308,2)],[(3,.I 0),(4,.bool false),(27,.agg [.N4 true (List.map b7.Pv []),.I 0]),(29,.agg [.N4 true (List.map b7.Pv []),.I 0,.I 0]),(30,.N4 true (List.map iF [])),(32,.N4 true (List.map b8.Pv [])),(35,.agg [.N4 true (List.map k9.Pv []),.I 0]),(37,.agg [.N4 true (List.map b7.Pv []),.I 0,.I 0,.N4 true (List.map iF []),.N4 true (List.map e6.Pv []),.N4 true (List.map b8.Pv []),.N4 true (List.map k9.Pv []),.I 0]),(40,.agg [.N4 true (List.map b7.Pv []),.I 0,.I 0,.N4 true (List.map iF []),.N4 true (List.map e6.Pv []),.N4 true (List.map b8.Pv []),.N4 true (List.map k9.Pv []),.I 0,.N4 true (List.map (Ls g9.Pv) [])]),(45,.I 0),(47,.agg [.I 0,.I 0]),(54,.agg [.I 0,.I 0,.I 0,.I 0,.bool false,.N4 true (List.map iF [])]),(56,.agg [.I 0,.I 0,.I 0,.I 0,.I 0,.I 0,.bool false,.N4 true (List.map iF [])]),(57,.agg [.I 0,.I 0,.I 0,.I 0]),(65,.agg [.I 0,.I 0,.I 0,.I 0]),(85,.agg [.I 0,.I 0,.I 0,.I 0]),(89,.agg []),(93,.agg [.I 0]),(123,.abs b8Y),(144,.agg [.nilfn,.I 0,.I 0,.I 0]),(154,.agg [.I 0,.I 0,.I 0]),(183,.agg [.I 0,.bool false,.I 0]),(201,.abs b8Y),(256,.agg [.I 0,.I 0,.I 0]),(261,.agg [.nilfn]),(292,.agg [.N4 true (List.map iF []),.I 0]),(305,.N4 true (List.map m9.Pv [])),(308,.agg [.I 0,.I 0])]⟩
theorem Tb:TB.Ok Tryz.prog tb:=⟨by kernel_rfl,by kernel_rfl,by kernel_rfl,by kernel_rfl⟩
section
variable{X:Ctx}{ops:Array Oper}{K:Ctx→St→Prop}{i n:Nat}{l l':List Oper}{env env':Nat→PV}{σ σ':Nat→Option Row}{Q:PX→Ctx→St→Prop}{y:Code}{KD:St→Prop}{bar:List Nat}
theorem S1(n:Nat)(h:run tb n l env σ=some (l',env',σ'))(k:Sq X ops (i+n) l' K ⟨env',σ'⟩)(hb:TB.Ok X.P tb:=by exact Tb):Sq X ops i l K ⟨env,σ⟩:=seg hb n h k
theorem S2(n:Nat)(h:run tb n l env σ=some ([],env',σ'))(k:K X ⟨env',σ'⟩)(hb:TB.Ok X.P tb:=by exact Tb):Sq X ops i l K ⟨env,σ⟩:=seg hb n h (yN k)
theorem S3{id:Nat}(n:Nat)(h:run tb n l env σ=some (l',env',σ'))(k:Sq X l.toArray (0+n) l' (λX' s=>T7 X' y Q s) ⟨env',σ'⟩)(hd:a2F X.N l.toArray=true:=by kernel_rfl)(hb:TB.Ok X.P tb:=by exact Tb):T7 X (.seq (.region id l.toArray false) y) Q ⟨env,σ⟩:=sr hd (seg hb n h k)
theorem S4{id:Nat}(n:Nat)(h:run tb n l env σ=some ([],env',σ'))(k:T7 X y Q ⟨env',σ'⟩)(hd:a2F X.N l.toArray=true:=by kernel_rfl)(hb:TB.Ok X.P tb:=by exact Tb):T7 X (.seq (.region id l.toArray false) y) Q ⟨env,σ⟩:=sr hd (seg hb n h (yN k))
theorem S5{id:Nat}(n:Nat)(h:run tb n l env σ=some (l',env',σ'))(k:Sq X l.toArray (0+n) l' (Q .normal) ⟨env',σ'⟩)(hd:a2F X.N l.toArray=true:=by kernel_rfl)(hb:TB.Ok X.P tb:=by exact Tb):T7 X (.region id l.toArray false) Q ⟨env,σ⟩:=sr1 hd (seg hb n h k)
theorem S6{id:Nat}(n:Nat)(h:run tb n l env σ=some ([],env',σ'))(k:Q .normal X ⟨env',σ'⟩)(hd:a2F X.N l.toArray=true:=by kernel_rfl)(hb:TB.Ok X.P tb:=by exact Tb):T7 X (.region id l.toArray false) Q ⟨env,σ⟩:=sr1 hd (seg hb n h (yN k))
theorem S7(n:Nat)(h:c7j tb bar n i l env σ=some (l',env',σ'))(k:Ex X.P ops bar true (i+n) l' ⟨env',σ'⟩ KD)(hb:TB.Ok X.P tb:=by exact Tb):Ex X.P ops bar true i l ⟨env,σ⟩ KD:=dG hb n h k
theorem S8(n:Nat)(h:c7j tb bar n i l env σ=some ([],env',σ'))(k:KD ⟨env',σ'⟩)(hb:TB.Ok X.P tb:=by exact Tb):Ex X.P ops bar true i l ⟨env,σ⟩ KD:=dG hb n h k
end
theorem d0e:b5E Tryz.prog (Tryz.sortF_ren.f 6):=c2v Tryz.sortF
theorem c7p:b2t Tryz.prog (Tryz.sortI_ren.f 5):=b99 Tryz.sortI
theorem b4x{a0}:PO Tryz.prog 59 [g9.Pv a0] (a17 a0) λr=>.bool r:=by
 refine pO Tryz.func59 λr h _ _=>?_;unfold a17 at h;refine S4 2 J<|S3 4 J<|n9 J (λhg=>oF J c2R J)<|n9 J (λhg=>oS (ct hg) J J I6 J)<|n9 J (λhg=>D4 (ct hg) J J)<|y0 J (E0 J J J (λq=>eqT q))<|S2 1 J<|b9 ?_;cases h;exact f1

theorem y4:PO Tryz.prog 113 [.fn (.func 114) []] (X0) λr=>g8.Pv r:=by
 refine pO Tryz.func113 λr h _ _=>?_;unfold X0 at h;refine S4 1 J<|S3 1 J<|y0 J (u7 (cs:=[.fn (.func 114) [],.I 0,.I 5,.I 6]) J a1s H7 J J J)<|Q7 (a6X 4 (d':=.agg [fvE (some 114),.I 0,.I 5,.I 6]) J)<|S2 1 J<|b9 ?_;cases h;exact⟨J,[_],⟨oL J J J a3j I7 nl J,tr⟩,J,io⟩

theorem Y2:PO Tryz.prog 116 [.fn (.func 117) []] (Q0) λr=>g8.Pv r:=by
 refine pO Tryz.func116 λr h _ _=>?_;unfold Q0 at h;refine S4 1 J<|S3 1 J<|y0 J (u7 (cs:=[.fn (.func 117) [],.I (-1),.I 5,.I 13]) J a1s H7 J J J)<|Q7 (a6X 4 (d':=.agg [fvE (some 117),.I (-1),.I 5,.I 13]) J)<|S2 1 J<|b9 ?_;cases h;exact⟨J,[_],⟨oL J J J a3j I7 nl J,tr⟩,J,io⟩

theorem C8{a0}:PO Tryz.prog 112 [.L g8.Pv a0] (H4 a0) λr=>.L g8.Pv r:=by
 refine pO Tryz.func112 λr h _ _=>?_;unfold H4 at h;refine S4 1 J<|S4 2 J<|b9 ?_;cases h;exact f1

theorem I9:PO Tryz.prog 113 [.fn (.func 115) []] (X4) λr=>g8.Pv r:=by
 refine pO Tryz.func113 λr h _ _=>?_;unfold X4 at h;refine S4 1 J<|S3 1 J<|y0 J (u7 (cs:=[.fn (.func 115) [],.I 0,.I 5,.I 6]) J a1s H7 J J J)<|Q7 (a6X 4 (d':=.agg [fvE (some 115),.I 0,.I 5,.I 6]) J)<|S2 1 J<|b9 ?_;cases h;exact⟨J,[_],⟨oL J J J a3j I7 nl J,tr⟩,J,io⟩

theorem a4h:PO Tryz.prog 118 [.fn (.func 117) []] (U2) λr=>g8.Pv r:=by
 refine pO Tryz.func118 λr h _ _=>?_;unfold U2 at h;refine S4 1 J<|S3 1 J<|y0 J (u7 (cs:=[.fn (.func 117) [],.I 0,.I 3,.I 5]) J a1s H7 J J J)<|Q7 (a6X 4 (d':=.agg [fvE (some 117),.I 0,.I 3,.I 5]) J)<|S2 1 J<|b9 ?_;cases h;exact⟨J,[_],⟨oL J J J a3j I7 nl J,tr⟩,J,io⟩

theorem a4g:PO Tryz.prog 118 [.fn (.func 115) []] (U1) λr=>g8.Pv r:=by
 refine pO Tryz.func118 λr h _ _=>?_;unfold U1 at h;refine S4 1 J<|S3 1 J<|y0 J (u7 (cs:=[.fn (.func 115) [],.I 0,.I 3,.I 5]) J a1s H7 J J J)<|Q7 (a6X 4 (d':=.agg [fvE (some 115),.I 0,.I 3,.I 5]) J)<|S2 1 J<|b9 ?_;cases h;exact⟨J,[_],⟨oL J J J a3j I7 nl J,tr⟩,J,io⟩

theorem a19:PO Tryz.prog 119 [.fn (.func 117) []] (L7) λr=>g8.Pv r:=by
 refine pO Tryz.func119 λr h _ _=>?_;unfold L7 at h;refine S4 1 J<|S3 1 J<|y0 J (u7 (cs:=[.fn (.func 117) [],.I (-1),.I 5,.I 6]) J a1s H7 J J J)<|Q7 (a6X 4 (d':=.agg [fvE (some 117),.I (-1),.I 5,.I 6]) J)<|S2 1 J<|b9 ?_;cases h;exact⟨J,[_],⟨oL J J J a3j I7 nl J,tr⟩,J,io⟩

theorem a4V:PO Tryz.prog 120 [.fn (.func 114) []] (W8) λr=>g8.Pv r:=by
 refine pO Tryz.func120 λr h _ _=>?_;unfold W8 at h;refine S4 1 J<|S3 1 J<|y0 J (u7 (cs:=[.fn (.func 114) [],.I 0,.I 5,.I 7]) J a1s H7 J J J)<|Q7 (a6X 4 (d':=.agg [fvE (some 114),.I 0,.I 5,.I 7]) J)<|S2 1 J<|b9 ?_;cases h;exact⟨J,[_],⟨oL J J J a3j I7 nl J,tr⟩,J,io⟩

theorem R5:PO Tryz.prog 119 [.fn (.func 115) []] (L6) λr=>g8.Pv r:=by
 refine pO Tryz.func119 λr h _ _=>?_;unfold L6 at h;refine S4 1 J<|S3 1 J<|y0 J (u7 (cs:=[.fn (.func 115) [],.I (-1),.I 5,.I 6]) J a1s H7 J J J)<|Q7 (a6X 4 (d':=.agg [fvE (some 115),.I (-1),.I 5,.I 6]) J)<|S2 1 J<|b9 ?_;cases h;exact⟨J,[_],⟨oL J J J a3j I7 nl J,tr⟩,J,io⟩

theorem a4W:PO Tryz.prog 120 [.fn (.func 115) []] (W9) λr=>g8.Pv r:=by
 refine pO Tryz.func120 λr h _ _=>?_;unfold W9 at h;refine S4 1 J<|S3 1 J<|y0 J (u7 (cs:=[.fn (.func 115) [],.I 0,.I 5,.I 7]) J a1s H7 J J J)<|Q7 (a6X 4 (d':=.agg [fvE (some 115),.I 0,.I 5,.I 7]) J)<|S2 1 J<|b9 ?_;cases h;exact⟨J,[_],⟨oL J J J a3j I7 nl J,tr⟩,J,io⟩

theorem b2j:PO Tryz.prog 64 [] (a5U) λr=>.abs (U9 (List.map (ent iF (Ls g8.Pv)) r)):=by
 refine pO Tryz.func64 λr h _ _=>?_;refine S4 1 J<|sR<|b8U (KT:=Int) (VT:=List g8) (EK:=iF) (E:=(Ls g8.Pv)) 5000001 J J<|cF h y4 J J λv1 hv1 h=>y0 J (u7 (cs:=[.fn (.func 115) [],.I 0,.I 4,.I 1]) J a1s H7 J J J)<|Q7 (a6X 3 (d':=.agg [fvE (some 115),.I 0,.I 4,.I 1]) J)<|cF h Y2 J J λv2 hv2 h=>y0 J (X7 (f:=g8.Pv) (l:=[v1,(⟨(some 115),0,4,1⟩:g8),v2]) J a0f I7 H7 J J nl J J)<|cF h C8 J J λv3 _ h=>a0D (es:=[]) (k:=1) (v:=v3) (E:=(Ls g8.Pv)) (EK:=iF) (.inr J) J J J J J J R4 (y6 J6)<|yc J (p6 J y4 J hv1)<|cF h I9 J J λv4 hv4 h=>y0 J (X7 (f:=g8.Pv) (l:=[v1,v4]) J a0f I7 H7 J J nl J J)<|cF h C8 J J λv5 hv5 h=>a0D (es:=(o6 [] 1 v3)) (k:=2) (v:=v5) (E:=(Ls g8.Pv)) (EK:=iF) (.inr J) J J J J J J R4 (y6 J6)<|yc J (p6 J y4 J hv1)<|y0 J (X7 (f:=g8.Pv) (l:=[v1]) J a0f I7 H7 J J nl J J)<|cF h C8 J J λv6 _ h=>a0D (es:=(o6 (o6 [] 1 v3) 2 v5)) (k:=3) (v:=v6) (E:=(Ls g8.Pv)) (EK:=iF) (.inr J) J J J J J J R4 (y6 J6)<|yc J (p6 J y4 J hv1)<|yc J (p6 J I9 J hv4)<|cF h a4h J J λv7 _ h=>y0 J (X7 (f:=g8.Pv) (l:=[v1,v4,v7]) J a0f I7 H7 J J nl J J)<|cF h C8 J J λv8 _ h=>a0D (es:=(o6 (o6 (o6 [] 1 v3) 2 v5) 3 v6)) (k:=4) (v:=v8) (E:=(Ls g8.Pv)) (EK:=iF) (.inr J) J J J J J J R4 (y6 J6)<|yc J (p6 J y4 J hv1)<|cF h a4g J J λv9 _ h=>cF h a19 J J λv10 _ h=>y0 J (X7 (f:=g8.Pv) (l:=[v1,v9,v10]) J a0f I7 H7 J J nl J J)<|cF h C8 J J λv11 _ h=>?_;refine a0D (es:=(o6 (o6 (o6 (o6 [] 1 v3) 2 v5) 3 v6) 4 v8)) (k:=5) (v:=v11) (E:=(Ls g8.Pv)) (EK:=iF) (.inr J) J J J J J J R4 (y6 J6)<|cF h a4V J J λv12 _ h=>cF h R5 J J λv13 hv13 h=>yc J (p6 J Y2 J hv2)<|y0 J (X7 (f:=g8.Pv) (l:=[v12,v13,v2]) J a0f I7 H7 J J nl J J)<|cF h C8 J J λv14 _ h=>a0D (es:=(o6 (o6 (o6 (o6 (o6 [] 1 v3) 2 v5) 3 v6) 4 v8) 5 v11)) (k:=6) (v:=v14) (E:=(Ls g8.Pv)) (EK:=iF) (.inr J) J J J J J J R4 (y6 J6)<|yc J (p6 J y4 J hv1)<|cF h a4W J J λv15 _ h=>y0 J (X7 (f:=g8.Pv) (l:=[v1,v15]) J a0f I7 H7 J J nl J J)<|cF h C8 J J λv16 _ h=>a0D (es:=(o6 (o6 (o6 (o6 (o6 (o6 [] 1 v3) 2 v5) 3 v6) 4 v8) 5 v11) 6 v14)) (k:=7) (v:=v16) (E:=(Ls g8.Pv)) (EK:=iF) (.inr J) J J J J J J R4 (y6 J6)<|yc J (p6 J y4 J hv1)<|yc J (p6 J R5 J hv13)<|y0 J (X7 (f:=g8.Pv) (l:=[v1,v13]) J a0f I7 H7 J J nl J J)<|cF h C8 J J λv17 _ h=>a0D (es:=(o6 (o6 (o6 (o6 (o6 (o6 (o6 [] 1 v3) 2 v5) 3 v6) 4 v8) 5 v11) 6 v14) 7 v16)) (k:=8) (v:=v17) (E:=(Ls g8.Pv)) (EK:=iF) (.inr J) J J J J J J R4 (y6 J6)<|yc J (p6 J y4 J hv1)<|yc J (p6 J I9 J hv4)<|y0 J (X7 (f:=g8.Pv) (l:=[v1,v4]) J a0f I7 H7 J J nl J J)<|yc J (p6 J C8 J hv5)<|a0D (es:=(o6 (o6 (o6 (o6 (o6 (o6 (o6 (o6 [] 1 v3) 2 v5) 3 v6) 4 v8) 5 v11) 6 v14) 7 v16) 8 v17)) (k:=9) (v:=v5) (E:=(Ls g8.Pv)) (EK:=iF) (.inr J) J J J J J J R4 (y6 J6)<|yc J (p6 J y4 J hv1)<|yc J (p6 J I9 J hv4)<|y0 J (X7 (f:=g8.Pv) (l:=[v1,v4]) J a0f I7 H7 J J nl J J)<|yc J (p6 J C8 J hv5)<|a0D (es:=(o6 (o6 (o6 (o6 (o6 (o6 (o6 (o6 (o6 [] 1 v3) 2 v5) 3 v6) 4 v8) 5 v11) 6 v14) 7 v16) 8 v17) 9 v5)) (k:=10) (v:=v5) (E:=(Ls g8.Pv)) (EK:=iF) (.inr J) J J J J J J R4 (y6 J6)<|cF h C8 J J λv18 _ h=>a0D (es:=(o6 (o6 (o6 (o6 (o6 (o6 (o6 (o6 (o6 (o6 [] 1 v3) 2 v5) 3 v6) 4 v8) 5 v11) 6 v14) 7 v16) 8 v17) 9 v5) 10 v5)) (k:=11) (v:=v18) (E:=(Ls g8.Pv)) (EK:=iF) (.inr J) J J J J J J R4 (y6 J6)<|y0 J (u7 (cs:=[.fn (.func 114) [],.I 0,.I 200,.I 12]) J a1s H7 J J J) ?_;refine Q7 (a6X 46 (d':=.agg [fvE (some 114),.I 0,.I 200,.I 12]) J)<|y0 J (X7 (f:=g8.Pv) (l:=[(⟨(some 114),0,200,12⟩:g8)]) J a0f I7 H7 J J nl J J)<|cF h C8 J J λv19 _ h=>a0D (es:=(o6 (o6 (o6 (o6 (o6 (o6 (o6 (o6 (o6 (o6 (o6 [] 1 v3) 2 v5) 3 v6) 4 v8) 5 v11) 6 v14) 7 v16) 8 v17) 9 v5) 10 v5) 11 v18)) (k:=12) (v:=v19) (E:=(Ls g8.Pv)) (EK:=iF) (.inr J) J J J J J J R4 (y6 J6)<|S2 2 J<|a2O (c0j 0 5000001 J J)<|b9 ?_;cases h;exact f1

theorem a8Z{a0}:PO Tryz.prog 114 [g9.Pv a0] (a9n a0) λr=>.I r:=by
 refine pO Tryz.func114 λr h _ _=>?_;unfold a9n at h;refine S4 2 J<|S4 3 J<|b9 ?_;cases h;exact f1

theorem a80{a0}:PO Tryz.prog 115 [g9.Pv a0] (a9o a0) λr=>.I r:=by
 refine pO Tryz.func115 λr h _ _=>?_;unfold a9o at h;refine S4 2 J<|S4 3 J<|b9 ?_;cases h;exact f1

theorem a81{a0}:PO Tryz.prog 117 [g9.Pv a0] (a9p a0) λr=>.I r:=by
 refine pO Tryz.func117 λr h _ _=>?_;unfold a9p at h;refine S4 2 J<|S4 3 J<|b9 ?_;cases h;exact f1

theorem b9s{f:Fv}{a0:g9}{r:Int}(h:a99 f a0=some r):∃n,f=some n∧A3 Tryz.prog n∧W4 Tryz.prog n [g9.Pv a0] (.I r):=by
 unfold a99 at h;by_cases e114:f=some 114
 ·rw[if_pos e114] at h;exact⟨114,e114,(@a8Z a0).1,(@a8Z a0).2 _ h⟩
 rw[if_neg e114] at h;by_cases e115:f=some 115
 ·rw[if_pos e115] at h;exact⟨115,e115,(@a80 a0).1,(@a80 a0).2 _ h⟩
 rw[if_neg e115] at h;by_cases e117:f=some 117
 ·rw[if_pos e117] at h;exact⟨117,e117,(@a81 a0).1,(@a81 a0).2 _ h⟩
 rw[if_neg e117] at h;cases h

theorem a4U{a0}:PO Tryz.prog 40 [g9.Pv a0] (P9 a0) λr=>.I r:=by
 refine pO Tryz.func40 λr h _ _=>?_;unfold P9 at h;refine S4 2 J<|dr [] u5 (by kernel_rfl) (by kernel_rfl)<|z6 h λv1 hv1 h=>X5 J (p6 J b2j J hv1) J<|S7 2 J<|d4 J (b77 (es:=v1) (k:=a0.Kind) (E:=(Ls g8.Pv)) (EK:=iF) (d:=.tup [.L g8.Pv ((A1 v1 a0.Kind).getD ([]:List g8)),.bool ((A1 v1 a0.Kind).isSome)]) J J R4 (y6 J6) c53 J (lk2 _ _ ([]:List g8))) J<|S8 5 J<|k8<|S4 2 J ?_
 refine cN h (λhc h=>?_) λhc h=>?_
 ·refine S4 1 J ?_;refine b9 ?_;cases h;exact f1
 ·refine g5 ?_;refine jq h (λ_=>St.of [] []) (λq9 h=>?_) λκ8 h=>?_
  ·refine S4 1 J ?_;refine b9 ?_;cases h;exact f1
  ·refine S3 1 J ?_;refine nL J a0f<|S2 1 J<|l5<|lq h (λs11=>St.of [(1,.ptr 1 0 0),(17,.L g8.Pv ((A1 v1 a0.Kind).getD ([]:List g8))),(18,.I (((A1 v1 a0.Kind).getD ([]:List g8)).length:Int)),(19,.I s11)] [(1,vR (g9.Pv a0) 4)]) W λs11 x12 h hx13=>S4 1 J<|k8 ?_;refine cN h (λhc h=>?_) λhc h=>?_
   ·refine g5 ?_;refine k8<|l5<|sR<|iL h J J a0f I7 λv13 _ h=>S2 3 J<|S3 3 J ?_;obtain⟨v14,hv15,h⟩:=a8X h;obtain⟨n15,he16,hk17,hp18⟩:=b9s hv15;refine Q7 (c8i 24 J he16)<|y0 J (b9G J hk17 J hp18)<|S2 1 J<|S3 5 J<|n9 J (λhg=>mI J)<|n9 J (λhg=>oF J c1K J)<|n9 J (λhg=>oS (ct hg) J J I6 J)<|n9 J (λhg=>D4 (ct hg) (ct hg) J)<|y0 J (M6 J J J (λq=>eqF q))<|yN ?_;refine cN h (λhc h=>?_) λhc h=>?_
    ·refine S4 3 J ?_;refine b9 ?_;have h:=xL hx13 h;cases h;exact f1
    ·refine g5 ?_;refine S6 2 J ?_;exact eL h W
   ·refine w8 ?_;refine j5<|j5<|n8 ?_;have h:=xL hx13 h;exact eJ h W

theorem b4y{a0}:PO Tryz.prog 38 [.L (Ls g9.Pv) a0] (a18 a0) λr=>.bool r:=by
 refine pO Tryz.func38 λr h _ _=>?_;refine S4 1 J<|k8<|S3 1 J<|nL J b20<|S2 1 J ?_;refine cN h (λhc h=>?_) λhc h=>?_
 ·refine S4 1 J ?_;refine b9 ?_;cases h;exact f1
 ·refine g5 ?_;refine jq h (λ_=>St.of [] []) (λq21 h=>?_) λκ20 h=>?_
  ·refine S4 1 J ?_;refine b9 ?_;cases h;exact f1
  ·refine S3 1 J ?_;refine nL J b20<|S2 1 J<|l5<|lq h (λs23=>St.of [(10,.L (Ls g9.Pv) a0),(11,.I (a0.length:Int)),(12,.I s23)] []) W λs23 x24 h hx22=>S4 1 J<|k8 ?_;refine cN h (λhc h=>?_) λhc h=>?_
   ·refine g5 ?_;refine jq h (λ_=>St.of [(10,.L (Ls g9.Pv) a0),(11,.I (a0.length:Int)),(12,.I s23)] []) (λq33 h=>?_) λκ32 h=>?_
    ·refine S6 2 J ?_;exact eL h W
    ·refine l5 ?_;refine sR<|iL h J J b20 c22 λv34 _ h=>S2 2 J<|k8<|S3 1 J<|nL J b05<|S2 1 J ?_;refine cN h (λhc h=>?_) λhc h=>?_
     ·refine S4 1 J ?_;refine b9 ?_;have h:=xL hx22 h;cases h;exact f1
     ·refine g5 ?_;refine S3 1 J<|nL J b05<|S2 1 J<|l5<|lq h (λs36=>St.of [(10,.L (Ls g9.Pv) a0),(11,.I (a0.length:Int)),(12,.I s23),(19,.L g9.Pv v34),(20,.I (v34.length:Int)),(21,.I s36)] []) W λs36 x37 h hx34=>S4 1 J<|k8 ?_;refine cN h (λhc h=>?_) λhc h=>?_
      ·refine g5 ?_;refine k8<|l5<|sR<|iL h J J b05 a9i λv38 _ h=>S2 3 J<|S3 1 J<|cA h b4x J J λv39 _ h=>S1 2 J<|n9 J (λhg=>oL J J J b5G a9i nl J)<|z6 h λv40 hv37 h=>n9 J (λhg=>U6 J a4U (Y3 (ct hg) J) (P1 hv37 hg))<|n9 J (λhg=>D4 (ct hg) J J)<|y0 J (M6 J J J (λq=>eqF q))<|yN ?_;refine cN h (λhc h=>?_) λhc h=>?_
       ·refine S4 1 J ?_;refine b9 ?_;have h:=xL hx34 h;have h:=xL hx22 h;cases h;exact f1
       ·refine g5 ?_;refine S6 2 J ?_;exact eL h W
      ·refine w8 ?_;refine j5<|j5<|n8 ?_;have h:=xL hx34 h;exact eJ h W
   ·refine w8 ?_;refine j5<|j5<|n8 ?_;have h:=xL hx22 h;exact eJ h W

theorem a64{a0 a1}:PO Tryz.prog 110 [.I a0,.I a1] (U7 a0 a1) λr=>c8.Pv r:=by
 refine pO Tryz.func110 λr h _ _=>?_;refine S4 1 J<|k8<|S3 3 J<|n9 J (λhg=>mI J)<|n9 J (λhg=>D4 (ct hg) J J)<|y0 J (M6 J J J (λq=>eqF q))<|S1 1 J<|n9 J (λhg=>mI J)<|n9 J (λhg=>D4 (ct hg) J J)<|y0 J (M6 J J J (λq=>eqF q))<|S1 1 J<|n9 J (λhg=>mI J)<|n9 J (λhg=>D4 (ct hg) J J)<|y0 J (M6 J J J (λq=>eqF q))<|yN ?_;refine cN h (λhc h=>?_) λhc h=>?_
 ·refine sR ?_;refine y0 J (u7 (cs:=[.nl,.I 0]) J c2T c23 J J J)<|a71 (x':=.agg [.nl,.I 0]) (cl':=true) J J (.inl J) a1t<|yN<|b9 ?_;cases h;exact⟨J,[_],⟨oL J J J a2V a1t nl J,tr⟩,J,io⟩
 ·refine g5 ?_;refine S3 1 J<|z6 h λv1 hv1 h=>y1 J (b9H (f:=b7.Pv) hv1 J J J R3 a0w b06 c2K J J J) J<|S1 1 J<|y0 J (u7 (cs:=[.sl 21,.I a1]) J c2T c23 J J J)<|S2 1 J<|b9 ?_;cases h;exact⟨J,[_],⟨oL J J J a2V a1t nl J,tr⟩,J,io⟩

theorem b63{a0 a1}:PO Tryz.prog 60 [.I a0,.I a1] (a3I a0 a1) λr=>a7.Pv r:=by
 refine pO Tryz.func60 λr h _ _=>?_;refine S4 1 J<|S3 2 J<|cF h a64 J J λv1 _ h=>y0 J (u7 (cs:=[.L b7.Pv v1.a8,.I v1.Last,.I 0]) J c2U c24 J J J)<|S2 1 J<|b9 ?_;cases h;exact⟨J,[_],⟨oL J J J a5K a5N nl J,tr⟩,J,io⟩

theorem b8Q{a0}:PO Tryz.prog 61 [.I a0] (b8P a0) λr=>.L e6.Pv r:=by
 refine pO Tryz.func61 λr h _ _=>?_;refine S4 1 J<|k8<|S3 3 J<|n9 J (λhg=>mI J)<|n9 J (λhg=>D4 (ct hg) J J)<|y0 J (M6 J J J (λq=>eqF q))<|yN ?_;refine cN h (λhc h=>?_) λhc h=>?_
 ·refine S4 1 J ?_;refine b9 ?_;cases h;exact f1
 ·refine g5 ?_;refine S3 1 J<|z6 h λv1 hv1 h=>y1 J (b9H (f:=e6.Pv) hv1 J J J W6 Y1 b5J c0s J J J) J<|S2 1 J ?_;refine jq h (λj9=>St.of [(3,.sl 12)] [(12,⟨List.map e6.Pv j9,0,true,3,true⟩)]) (λj9 h=>?_) λκ8 h=>?_
  ·refine S4 2 J ?_;refine b9 ?_;cases h;exact f1
  ·refine S3 1 J ?_;refine y0 J (c4q (f:=e6.Pv) J J J W6)<|S2 1 J<|l5<|lq h (λq=>St.of [(3,.sl 12),(14,.I (v1.length:Int)),(15,.I q.1)] [(12,⟨List.map e6.Pv q.2,0,true,3,true⟩)]) W λq14 x13 h hx9=>?_;obtain⟨s11,s12⟩:=q14;refine S4 1 J<|k8 ?_;refine cN h (λhc h=>?_) λhc h=>?_
   ·refine g5 ?_;refine k8<|l5<|S4 2 J<|S5 2 J<|z6 h λv15 hv10 h=>y0 J (a89 (f:=e6.Pv) hv10 J J J J W6 Y1 J)<|S1 1 J<|b4n (f:=e6.Pv) (v:=(⟨v15.Target,v15.Intact,(-1)⟩:e6)) hv10 J J (.inl J) u4<|yN<|S6 2 J ?_;exact eL h W
   ·refine w8 ?_;refine j5<|j5<|n8 ?_;have h:=xL hx9 h;exact eJ h W

theorem b7O{a0}:PO Tryz.prog 62 [.I a0] (b0h a0) λr=>.L b8.Pv r:=by
 refine pO Tryz.func62 λr h _ _=>?_;refine S4 1 J<|k8<|S3 3 J<|n9 J (λhg=>mI J)<|n9 J (λhg=>D4 (ct hg) J J)<|y0 J (M6 J J J (λq=>eqF q))<|yN ?_;refine cN h (λhc h=>?_) λhc h=>?_
 ·refine S4 1 J ?_;refine b9 ?_;cases h;exact f1
 ·refine g5 ?_;refine S3 1 J<|z6 h λv1 hv1 h=>y1 J (b9H (f:=b8.Pv) hv1 J J J a0Y a0T b2u c0t J J J) J<|S2 1 J<|b9 ?_;cases h;exact f1

theorem a6m{a0}:PO Tryz.prog 111 [.I a0] (a0A a0) λr=>c9.Pv r:=by
 refine pO Tryz.func111 λr h _ _=>?_;unfold a0A at h;refine S4 1 J<|S3 1 J<|y0 J (u7 (cs:=[.nl,.I a0]) J c8w c8D J J J)<|a71 (x':=.agg [.nl,.I a0]) (cl':=true) J J (.inl J) a1u<|yN<|b9 ?_;cases h;exact⟨J,[_],⟨oL J J J a4R a1u nl J,tr⟩,J,io⟩

theorem b8F:PO Tryz.prog 63 [] (b8E) λr=>c9.Pv r:=by
 refine pO Tryz.func63 λr h _ _=>?_;refine S4 1 J<|sR<|cF h a6m J J λv1 _ h=>S2 1 J<|b9 ?_;cases h;exact⟨J,[_],⟨oL J J J a4R a1u nl J,tr⟩,J,io⟩

theorem b7Q{a0 a1 a2}:PO Tryz.prog 39 [.I a0,.I a1,.I a2] (a3T a0 a1 a2) λr=>b6.Pv r:=by
 refine pO Tryz.func39 λr h _ _=>?_;refine S4 1 J<|k8<|S3 3 J<|n9 J (λhg=>mI J)<|n9 J (λhg=>D4 (ct hg) J J)<|y0 J (M6 J J J (λq=>eqF q))<|S1 1 J<|n9 J (λhg=>mI J)<|n9 J (λhg=>D4 (ct hg) J J)<|y0 J (M6 J J J (λq=>eqF q))<|S1 1 J<|n9 J (λhg=>mI J)<|n9 J (λhg=>D4 (ct hg) J J)<|y0 J (M6 J J J (λq=>eqF q))<|S1 1 J<|n9 J (λhg=>mI J)<|n9 J (λhg=>D4 (ct hg) J J)<|y0 J (M6 J J J (λq=>eqF q))<|S1 1 J<|n9 J (λhg=>mI J)<|n9 J (λhg=>D4 (ct hg) J J)<|y0 J (M6 J J J (λq=>eqF q))<|yN ?_;refine cN h (λhc h=>?_) λhc h=>?_
 ·refine sR ?_;refine y0 J (u7 (cs:=[.nl,.I 0,.I 0,.nl,.nl,.nl,.nl,.I 0]) J c2V c25 J J J)<|a71 (x':=.agg [.nl,.I 0,.I 0,.nl,.nl,.nl,.nl,.I 0]) (cl':=true) J J (.inl J) o0<|yN<|b9 ?_;cases h;exact⟨J,[_],⟨oL J J J p8 o0 nl J,tr⟩,J,io⟩
 ·refine g5 ?_;refine dr [] u5 (by kernel_rfl) (by kernel_rfl)<|S7 2 J<|z6 h λv1 hv1 h=>X5 J (p6 J b63 J hv1) J<|z6 h λv2 hv2 h=>d1 J (b9H (f:=iF) hv2 J J J n0 u4 F1 Y9 J J J) J J J<|z6 h λv3 hv3 h=>X5 J (p6 J b8Q J hv3) J<|S7 1 J<|z6 h λv4 hv4 h=>X5 J (p6 J b7O J hv4) J<|z6 h λv5 hv5 h=>X5 J (p6 J b8F J hv5) J<|d7 J (λ_ hN=>u7 (cs:=[.L b7.Pv v1.S.a8,.I v1.S.Last,.I v1.Serial,.sl 33,.L e6.Pv v3,.L b8.Pv v4,.L k9.Pv v5.L,.I v5.Cap]) J c2V c25 J J J) J<|A8 (x':=.agg [.L b7.Pv v1.S.a8,.I v1.S.Last,.I v1.Serial,.sl 33,.L e6.Pv v3,.L b8.Pv v4,.L k9.Pv v5.L,.I v5.Cap]) (cl':=false) J J (.inr J) o0<|M5<|b9 ?_
  cases h;exact⟨J,[_],⟨oL J J J p8 o0 nl J,tr⟩,J,io⟩

theorem b4D{a0 a1 a2 a3}:PO Tryz.prog 24 [.I a0,.I a1,.I a2,.L (Ls g9.Pv) a3] (a2b a0 a1 a2 a3) λr=>.tup [c7.Pv r.1,.I r.2]:=by
 refine pO Tryz.func24 λr h _ _=>?_;refine S4 2 J<|k8<|S3 1 J<|cA h b4y J J λv1 _ h=>S2 1 J ?_;refine cN h (λhc h=>?_) λhc h=>?_
 ·refine sR ?_;refine y0 J (u7 (cs:=[.nl,.I 0,.I 0,.nl,.nl,.nl,.nl,.I 0,.nl]) J b81 b85 J J J)<|a71 (x':=.agg [.nl,.I 0,.I 0,.nl,.nl,.nl,.nl,.I 0,.nl]) (cl':=true) J J (.inl J) C7<|S2 1 J<|b9 ?_;cases h;exact⟨J,[_,_],⟨oL J J J W5 C7 nl J,⟨J,tr⟩⟩,J,io⟩
 ·refine g5 ?_;refine S3 3 J<|cF h b7Q J J λv2 _ h=>S2 2 J<|k8<|S3 2 J<|nL J n0<|S2 1 J ?_;refine cN h (λhc h=>?_) λhc h=>?_
  ·refine sR ?_;refine y0 J (u7 (cs:=[.nl,.I 0,.I 0,.nl,.nl,.nl,.nl,.I 0,.nl]) J b81 b85 J J J)<|a71 (x':=.agg [.nl,.I 0,.I 0,.nl,.nl,.nl,.nl,.I 0,.nl]) (cl':=true) J J (.inl J) C7<|S2 1 J<|b9 ?_;cases h;exact⟨J,[_,_],⟨oL J J J W5 C7 nl J,⟨J,tr⟩⟩,J,io⟩
  ·refine g5 ?_;refine S3 2 J<|y0 J (u7 (cs:=[.L b7.Pv v2.S.S.a8,.I v2.S.S.Last,.I v2.S.Serial,.L iF v2.Roots,.L e6.Pv v2.a8,.L b8.Pv v2.T,.L k9.Pv v2.Q.L,.I v2.Q.Cap,.L (Ls g9.Pv) a3]) J b81 b85 J J J)<|S2 2 J<|b9 ?_;cases h;exact⟨J,[_,_],⟨oL J J J W5 C7 nl J,⟨J,tr⟩⟩,J,io⟩

theorem a2U{a0 a1}:PO Tryz.prog 16 [.I a0,.I a1] (a0e a0 a1) λr=>c7.Pv r:=by
 refine pO Tryz.func16 λr h _ _=>?_;refine S4 1 J<|S3 2 J<|cF h b4D J J λv1 _ h=>S2 6 J<|S4 2 J<|b9 ?_;cases h;exact⟨J,[_],⟨oL J J J W5 C7 nl J,tr⟩,J,io⟩

theorem s7{a0 a1 a2 a3}:PO Tryz.prog 18 [.I a0,.I a1,.I a2,.I a3] (C5 a0 a1 a2 a3) λr=>.N4 true (List.map iF r):=by
 refine pO Tryz.func18 λr h _ _=>?_;unfold C5 at h;refine S4 1 J<|S3 4 J<|y0 J (X7 (f:=iF) (l:=[a0,a1,a2,a3]) J n0 u4 F1 J J nl J J)<|S2 1 J<|b9 ?_;cases h;exact f1

theorem b26{a0}:PO Tryz.prog 27 [.L iF a0] (T8 a0) λr=>.tup [g9.Pv r.1,.I r.2]:=by
 refine pO Tryz.func27 λr h _ _=>?_;refine S4 2 J<|k8<|S3 1 J<|nL J n0<|S2 1 J ?_;refine cN h (λhc h=>?_) λhc h=>?_
 ·refine sR ?_;refine y0 J (u7 (cs:=[.I 0,.I 0,.I 0,.I 0]) J b83 b88 J J J)<|S2 2 J<|b9 ?_;cases h;exact⟨J,[_,_],⟨oL J J J b5G a9i nl J,⟨J,tr⟩⟩,J,io⟩
 ·refine g5 ?_;refine dr [] u5 (by kernel_rfl) (by kernel_rfl)<|S7 1 J<|z6 h λv1 hv1 h=>d0 J (P0 (f:=iF) (cs:=[.I v1]) hv1 J J n0 u4 J J) J<|S7 2 J<|z6 h λv2 hv2 h=>d0 J (P0 (f:=iF) (cs:=[.I v2]) hv2 J J n0 u4 J J) J<|S7 2 J<|z6 h λv3 hv3 h=>d0 J (P0 (f:=iF) (cs:=[.I v3]) hv3 J J n0 u4 J J) J<|S7 2 J<|z6 h λv4 hv4 h=>d0 J (P0 (f:=iF) (cs:=[.I v4]) hv4 J J n0 u4 J J) J<|S7 1 J<|d7 J (λ_ hN=>u7 (cs:=[.I v1,.I v2,.I v3,.I v4]) J b83 b88 J J J) J<|S7 1 J<|A8 (x':=.agg [.I v1,.I v2,.I v3,.I v4]) (cl':=true) J J (.inl J) a9i<|M5<|k8<|S3 1 J<|cA h a4U J J λv5 _ h=>S2 1 J<|S4 2 J ?_
  refine cN h (λhc h=>?_) λhc h=>?_
  ·refine sR ?_;refine y0 J (u7 (cs:=[.I 0,.I 0,.I 0,.I 0]) J b83 b88 J J J)<|S2 3 J<|b9 ?_;cases h;exact⟨J,[_,_],⟨oL J J J b5G a9i nl J,⟨J,tr⟩⟩,J,io⟩
  ·refine g5 ?_;refine S4 3 J<|b9 ?_;cases h;exact⟨J,[_,_],⟨oL J J J b5G a9i nl J,⟨J,tr⟩⟩,J,io⟩

theorem b2k{a0}:PO Tryz.prog 28 [g9.Pv a0] (a5X a0) λr=>ifE a9h r:=by
 refine pO Tryz.func28 λr h _ _=>?_;refine S4 2 J<|k8<|S4 2 J<|l5<|S4 2 J ?_;refine cN h (λhc h=>?_) λhc h=>?_
 ·refine sR ?_;refine y0 J (u7 (cs:=[]) J c8A c27 J J J)<|y0 J (b9I (n:=a9h) (T:=89) (xs:=[]) J c2X J)<|S2 1 J<|b9 ?_;cases h;exact f1
 ·refine S4 2 J ?_;refine cN h (λhc h=>?_) λhc h=>?_
  ·refine S3 2 J ?_;refine y0 J (u7 (cs:=[.I a0.A]) J c8B c28 J J J)<|y0 J (b9I (n:=a9h) (T:=93) (xs:=[a0.A]) J c2Y J)<|S2 1 J<|b9 ?_;cases h;exact f1
  ·refine g5 ?_;refine S3 1 J<|y0 J (u7 (cs:=[.I a0.Kind,.I a0.A,.I a0.B,.I a0.C]) J c8z c26 J J J)<|y0 J (b9I (n:=a9h) (T:=85) (xs:=[a0.Kind,a0.A,a0.B,a0.C]) J c2W J)<|S2 1 J<|b9 ?_;cases h;exact f1

theorem b1n:PO Tryz.prog 41 [] (a2x) λr=>.abs (U9 (List.map (ent iF fvE) r)):=by
 refine pO Tryz.func41 λr h _ _=>?_;unfold a2x at h;refine S4 1 J<|sR<|b8U (KT:=Int) (VT:=Fv) (EK:=iF) (E:=fvE) 5000001 J J<|a48 (es:=[]) (k:=1) (v:=(some 65)) (E:=fvE) (EK:=iF) (.inr J) J J J J J J Z0 (y6 J6)<|a48 (es:=(o6 [] 1 (some 65))) (k:=2) (v:=(some 66)) (E:=fvE) (EK:=iF) (.inr J) J J J J J J Z0 (y6 J6)<|a48 (es:=(o6 (o6 [] 1 (some 65)) 2 (some 66))) (k:=3) (v:=(some 67)) (E:=fvE) (EK:=iF) (.inr J) J J J J J J Z0 (y6 J6)<|a48 (es:=(o6 (o6 (o6 [] 1 (some 65)) 2 (some 66)) 3 (some 67))) (k:=4) (v:=(some 68)) (E:=fvE) (EK:=iF) (.inr J) J J J J J J Z0 (y6 J6)<|a48 (es:=(o6 (o6 (o6 (o6 [] 1 (some 65)) 2 (some 66)) 3 (some 67)) 4 (some 68))) (k:=5) (v:=(some 69)) (E:=fvE) (EK:=iF) (.inr J) J J J J J J Z0 (y6 J6)<|a48 (es:=(o6 (o6 (o6 (o6 (o6 [] 1 (some 65)) 2 (some 66)) 3 (some 67)) 4 (some 68)) 5 (some 69))) (k:=6) (v:=(some 70)) (E:=fvE) (EK:=iF) (.inr J) J J J J J J Z0 (y6 J6)<|a48 (es:=(o6 (o6 (o6 (o6 (o6 (o6 [] 1 (some 65)) 2 (some 66)) 3 (some 67)) 4 (some 68)) 5 (some 69)) 6 (some 70))) (k:=7) (v:=(some 71)) (E:=fvE) (EK:=iF) (.inr J) J J J J J J Z0 (y6 J6)<|a48 (es:=(o6 (o6 (o6 (o6 (o6 (o6 (o6 [] 1 (some 65)) 2 (some 66)) 3 (some 67)) 4 (some 68)) 5 (some 69)) 6 (some 70)) 7 (some 71))) (k:=8) (v:=(some 72)) (E:=fvE) (EK:=iF) (.inr J) J J J J J J Z0 (y6 J6)<|a48 (es:=(o6 (o6 (o6 (o6 (o6 (o6 (o6 (o6 [] 1 (some 65)) 2 (some 66)) 3 (some 67)) 4 (some 68)) 5 (some 69)) 6 (some 70)) 7 (some 71)) 8 (some 72))) (k:=9) (v:=(some 73)) (E:=fvE) (EK:=iF) (.inr J) J J J J J J Z0 (y6 J6)<|a48 (es:=(o6 (o6 (o6 (o6 (o6 (o6 (o6 (o6 (o6 [] 1 (some 65)) 2 (some 66)) 3 (some 67)) 4 (some 68)) 5 (some 69)) 6 (some 70)) 7 (some 71)) 8 (some 72)) 9 (some 73))) (k:=10) (v:=(some 74)) (E:=fvE) (EK:=iF) (.inr J) J J J J J J Z0 (y6 J6)<|S2 2 J<|a2O (c0j 0 5000001 J J)<|b9 ?_;cases h;exact f1

theorem c0h{a0}:PO Tryz.prog 161 [.I a0] (b7b a0) λr=>.tup [.L iF r.1,.I r.2]:=by
 refine pO Tryz.func161 λr h _ _=>?_;refine S4 2 J<|k8<|S3 3 J<|n9 J (λhg=>mI J)<|n9 J (λhg=>D4 (ct hg) J J)<|y0 J (M6 J J J (λq=>eqF q))<|yN ?_;refine cN h (λhc h=>?_) λhc h=>?_
 ·refine S4 2 J ?_;refine b9 ?_;cases h;exact f2
 ·refine g5 ?_;refine S3 1 J<|z6 h λv1 hv1 h=>y1 J (b9H (f:=iF) hv1 J J J n0 u4 F1 Y9 J J J) J<|S2 2 J<|b9 ?_;cases h;exact f2

theorem a7V{a0}:PO Tryz.prog 162 [.I a0] (P7 a0) λr=>.bool r:=by
 refine pO Tryz.func162 λr h _ _=>?_;unfold P7 at h;refine S4 1 J<|S3 3 J<|n9 J (λhg=>mI J)<|n9 J (λhg=>D4 (ct hg) J J)<|y0 J (E0 J J J (λq=>eqT q))<|S2 1 J<|b9 ?_;cases h;exact f1

theorem a6y{a0}:PO Tryz.prog 202 [c8.Pv a0] (L4 a0) λr=>.fn (.func 221) [.rptr (c8.Pc r)]:=by
 refine pO Tryz.func202 λr h _ _=>?_;unfold L4 at h;refine S4 2 J<|S4 2 J<|b9 ?_;cases h;exact f1

theorem K2{a0}:PON Tryz.prog 208 [.L b7.Pv a0] (w7 a0) λr=>⟨List.map b7.Pv r,0,true,8,true⟩:=by
 refine pON Tryz.func208 λr h _ _=>?_;unfold w7 at h;refine S4 1 J<|k8<|S3 1 J<|b7f J R3 λb hb=>yN ?_;refine G7 b J (λhc=>?_) (λhc=>?_)
 ·obtain rfl:a0 = []:=by simpa using hb hc
  refine S4 1 J<|a2O (Y0 (t:=2) (l:=920000) (z:=8) J J)<|b9 ?_;cases h;exact⟨J,_,_,J,J,J,J⟩
 ·refine g5 ?_;refine sR<|y0 J (b3C J R3 a0w)<|S1 1 J<|y1 J (b76 (f:=b7.Pv) h J J (.inl ⟨_,J,J⟩) R3 a0w c2K b06 J (λ_=>J)) J<|S2 1 J<|b9 ?_;exact⟨J,_,_,J,J,J,J⟩

theorem H0{a0 a1 a2}:PO Tryz.prog 176 [c8.Pv a0,.I a1,b7.Pv a2] (B2 a0 a1 a2) λr=>c8.Pv r:=by
 refine pO Tryz.func176 λr h _ _=>?_;unfold B2 at h;refine S4 3 J<|S3 2 J<|z6 h λv1 hv1 h=>ycN J (b5l J K2 J hv1) J J<|S2 2 J<|S3 4 J<|z6 h λv2 hv2 h=>y0 J (a89 (f:=b7.Pv) hv2 J J J J R3 a0w J)<|b4n (f:=b7.Pv) (v:=a2) hv2 J J (.inr J) a0w<|yN<|S4 2 J<|b9 ?_;cases h;exact⟨J,[_],⟨oL J J J a2V a1t nl J,tr⟩,J,io⟩

theorem a7n{a0 a1}:PO Tryz.prog 50 [.I a0,.I a1] (a1g a0 a1) λr=>.I r:=by
 refine pO Tryz.func50 λr h _ _=>?_;refine S4 1 J<|k8<|S3 3 J<|n9 J (λhg=>mI J)<|n9 J (λhg=>D4 (ct hg) J J)<|y0 J (M6 J J J (λq=>eqF q))<|S1 1 J<|n9 J (λhg=>mI J)<|n9 J (λhg=>D4 (ct hg) J J)<|y0 J (M6 J J J (λq=>eqF q))<|S1 1 J<|n9 J (λhg=>mI J)<|n9 J (λhg=>D4 (ct hg) J J)<|y0 J (M6 J J J (λq=>eqF q))<|yN ?_;refine cN h (λhc h=>?_) λhc h=>?_
 ·refine S4 1 J ?_;refine b9 ?_;cases h;exact f1
 ·refine g5 ?_;refine S4 7 J<|b9 ?_;cases h;exact f1

theorem a6x{a0 a1}:PO Tryz.prog 163 [c8.Pv a0,m7.Pv a1] (H3 a0 a1) λr=>.tup [c8.Pv r.1,.I r.2.1,.I r.2.2]:=by
 refine pO Tryz.func163 λr h _ _=>?_;refine S4 5 J ?_;refine jq h (λ_=>St.of [(2,.ptr 2005 0 0),(4,.ptr 2003 0 0),(5,.ptr 2002 0 0),(6,.ptr 2001 0 0)] [(2001,vR (.I 0) 1),(2002,vR (.I 0) 1),(2003,vR (.agg [.nl,.I 0]) 2),(2005,vR (c8.Pv a0) 2)]) (λq10 h=>?_) λκ9 h=>?_
 ·refine S4 4 J ?_;refine b9 ?_;cases h;exact⟨J,[_,_,_],⟨oL J J J a2V a1t nl J,⟨oS J J J I6 J,⟨oS J J J a4S J,tr⟩⟩⟩,J,io⟩
 ·refine S3 1 J ?_;refine cF h a6y J J λv11 _ h=>yN<|l5<|a2O (WPE (λl=>if l=2006 then 6 else if l=2007 then 5 else if l=2008 then 4 else if l=2009 then 3 else if l=2010 then 2 else l) [(2,.ptr 2010 0 0),(3,.ptr 2009 0 0),(4,.ptr 2008 0 0),(5,.ptr 2007 0 0),(6,.ptr 2006 0 0),(10,.fn (.func 221) [.rptr (c8.Pc v11)])] [(2006,vR (.I 0) 1),(2007,vR (.I 0) 1),(2008,vR (.agg [.nl,.I 0]) 2),(2009,vR (m7.Pv a1) 6),(2010,vR (c8.Pv a0) 2)]) ?_
  refine a1K (fn:=Tryz.f221) (N1:=23) J Tryz.func221 J J nl J c5R J J (λl19 e20 o21 hR22=>?_);refine S3 2 J<|nL J R3<|S2 1 J<|l5<|lq h (λs13=>St.of [(1000002,.ptr 2010 0 0),(1000003,.ptr 2009 0 0),(1000004,.ptr 2008 0 0),(1000005,.ptr 2007 0 0),(1000006,.ptr 2006 0 0),(1000010,.fn (.func 221) [.rptr (c8.Pc v11)]),(0,.fn (.yield l19) []),(6,.L b7.Pv v11.a8),(7,.I (v11.a8.length:Int)),(8,.I s13)] [(2006,vR (.I 0) 1),(2007,vR (.I 0) 1),(2008,vR (.agg [.nl,.I 0]) 2),(2009,vR (m7.Pv a1) 6),(2010,vR (c8.Pv a0) 2)]) W λs13 x14 h hx25=>S4 1 J<|k8 ?_;refine cN h (λhc h=>?_) λhc h=>?_
  ·refine g5 ?_;refine k8<|l5<|S3 1 J<|iL h J J R3 a0w λv15 _ h=>S2 4 J<|S3 4 J<|n9 J (λhg=>om (d:=.fn (.yield l19) []) J)<|n9 J (λhg=>mI J) ?_;rcases Bool.eq_false_or_eq_true ((v15.State==0)==true) with hg27 | hg27
   ·have h:=ifT h hg27;refine Q7 (WE [(1000002,.ptr 2010 0 0),(1000003,.ptr 2009 0 0),(1000004,.ptr 2008 0 0),(1000005,.ptr 2007 0 0),(1000006,.ptr 2006 0 0),(1000010,.fn (.func 221) [.rptr (c8.Pc v11)]),(0,.fn (.yield l19) []),(6,.L b7.Pv v11.a8),(7,.I (v11.a8.length:Int)),(8,.I s13),(16,.bool (v15.State==0)),(17,.fn (.yield l19) []),(18,.I s13)] [(2006,vR (.I 0) 1),(2007,vR (.I 0) 1),(2008,vR (.agg [.nl,.I 0]) 2),(2009,vR (m7.Pv a1) 6),(2010,vR (c8.Pv a0) 2)]) ?_;refine a6J hR22 (congrArg some hg27) J J J J J (λe28 o29 o30=>?_);refine S6 1 J ?_;refine⟨J,?_⟩;refine l5<|S3 3 J<|iL h J J R3 a0w λv16 _ h=>S2 3 J<|S3 4 J<|y0 J (u7 (cs:=[.I 1,.I v16.Gen,.I a1.Serial,.I a1.Strong,.I a1.Weak,.I a1.Prog,.bool a1.Started,.L iF a1.Fields]) J b5I b06 J J J)<|cF h H0 J J λv17 _ h=>S1 2 J<|cA h a7n J J λv18 _ h=>S2 3 J<|b9 ?_;refine⟨J,?_⟩;refine Q7 (WE [(1000002,.ptr 2010 0 0),(1000003,.ptr 2009 0 0),(1000004,.ptr 2008 0 0),(1000005,.ptr 2007 0 0),(1000006,.ptr 2006 0 0),(1000010,.fn (.func 221) [.rptr (c8.Pc v11)]),(0,.fn (.yield l19) []),(6,.L b7.Pv v11.a8),(7,.I (v11.a8.length:Int)),(8,.I s13),(16,.bool (v15.State==0)),(19,.bool false)] [(2006,vR (.I 0) 1),(2007,vR (.I v18) 1),(2008,vR (c8.Pv v17) 2),(2009,vR (m7.Pv a1) 6),(2010,vR (c8.Pv a0) 2)])<|y0 (congrArg some hg27) (a6R J J)<|y0 J (a6h J J hg27)<|yN ?_;refine G7 true J (λ_=>?_) (λq=>nomatch q);refine b9 ?_;refine .inr ⟨.ret,J,c6w ?_⟩;have h:=xL hx25 h;cases h;exact⟨J,[_,_,_],⟨oL J J J a2V a1t nl J,⟨oS J J J I6 J,⟨oS J J J a4S J,tr⟩⟩⟩,J,io⟩
   ·have h:=ifF h hg27;refine a1V (congrArg some hg27)<|a1V (congrArg some hg27)<|y0 J (a8i J J hg27)<|yN ?_;refine G7 false J (λq=>nomatch q) (λ_=>?_);refine g5<|S6 2 J ?_;exact eL h W
  ·refine w8 ?_;refine j5<|j5<|n8 ?_;refine .inl ⟨J,?_⟩;have h:=xL hx25 h;exact eJ h (WP (λl=>if l=2005 then 2010 else if l=2003 then 2008 else if l=2002 then 2007 else if l=2001 then 2006 else l))

theorem b4O{a0 a1 a2}:PO Tryz.prog 121 [a7.Pv a0,.I a1,.I a2] (Q6 a0 a1 a2) λr=>.tup [a7.Pv r.1,.I r.2.1,.I r.2.2]:=by
 refine pO Tryz.func121 λr h _ _=>?_;refine S4 4 J<|S3 1 J<|cF h c0h J J λv1 _ h=>S2 5 J<|k8<|S4 2 J ?_;refine cN h (λhc h=>?_) λhc h=>?_
 ·refine S4 5 J ?_;refine b9 ?_;cases h;exact⟨J,[_,_,_],⟨oL J J J a5K a5N nl J,⟨J,⟨J,tr⟩⟩⟩,J,io⟩
 ·refine g5 ?_;refine k8<|S3 1 J<|cA h a7V J J λv2 _ h=>S2 1 J ?_;refine cN h (λhc h=>?_) λhc h=>?_
  ·refine S4 4 J ?_;refine b9 ?_;cases h;exact⟨J,[_,_,_],⟨oL J J J a5K a5N nl J,⟨J,⟨J,tr⟩⟩⟩,J,io⟩
  ·refine g5 ?_;refine S3 7 J<|y0 J (u7 (cs:=[.I (p7 (a0.Serial+1)),.I 0,.I 0,.I a2,.bool false,.L iF v1.1]) J c8y c8E J J J)<|cF h a6x J J λv3 _ h=>S2 8 J<|k8<|S4 2 J ?_;refine cN h (λhc h=>?_) λhc h=>?_
   ·refine S4 5 J ?_;refine b9 ?_;cases h;exact⟨J,[_,_,_],⟨oL J J J a5K a5N nl J,⟨J,⟨J,tr⟩⟩⟩,J,io⟩
   ·refine g5 ?_;refine S3 4 J<|y0 J (u7 (cs:=[.L b7.Pv v3.1.a8,.I v3.1.Last,.I (p7 (a0.Serial+1))]) J c2U c24 J J J)<|S2 4 J<|b9 ?_;cases h;exact⟨J,[_,_,_],⟨oL J J J a5K a5N nl J,⟨J,⟨J,tr⟩⟩⟩,J,io⟩

theorem a6N{a0}:PO Tryz.prog 213 [.I a0] (a1z a0) λr=>.tup [.I r.1,.I r.2.1,.bool r.2.2]:=by
 refine pO Tryz.func213 λr h _ _=>?_;refine S4 3 J<|k8<|S4 2 J ?_;refine cN h (λhc h=>?_) λhc h=>?_
 ·refine S4 3 J ?_;refine b9 ?_;cases h;exact f3
 ·refine g5 ?_;refine S3 2 J<|z6 h λv1 hv1 h=>y0 J (a1I J J hv1)<|z6 h λv2 hv2 h=>y0 J (a1I J J hv2)<|S1 2 J<|z6 h λv3 hv3 h=>y0 J (a1I J J hv3)<|S2 2 J<|k8<|S3 3 J<|n9 J (λhg=>mI J)<|n9 J (λhg=>D4 (ct hg) J J)<|y0 J (M6 J J J (λq=>eqF q))<|yN ?_;refine cN h (λhc h=>?_) λhc h=>?_
  ·refine S4 3 J ?_;refine b9 ?_;cases h;exact f3
  ·refine g5 ?_;refine S4 5 J<|b9 ?_;cases h;exact f3

theorem a7o{a0}:PO Tryz.prog 187 [.I a0] (a2H a0) λr=>.I r:=by
 refine pO Tryz.func187 λr h _ _=>?_;refine S4 1 J<|S3 1 J<|cA h a6N J J λv1 _ h=>S2 7 J<|S4 2 J<|b9 ?_;cases h;exact f1

theorem a86{a0}:PO Tryz.prog 188 [.I a0] (a3R a0) λr=>.I r:=by
 refine pO Tryz.func188 λr h _ _=>?_;refine S4 1 J<|S3 1 J<|cA h a6N J J λv1 _ h=>S2 7 J<|S4 2 J<|b9 ?_;cases h;exact f1

theorem G9{a0 a1}:PO Tryz.prog 155 [c8.Pv a0,.I a1] (r9 a0 a1) λr=>.tup [.I r.1,.I r.2]:=by
 refine pO Tryz.func155 λr h _ _=>?_;refine S4 3 J<|k8<|S4 2 J ?_;refine cN h (λhc h=>?_) λhc h=>?_
 ·refine S4 2 J ?_;refine b9 ?_;cases h;exact f2
 ·refine g5 ?_;refine S3 1 J<|cA h a7o J J λv1 _ h=>S2 1 J<|k8<|S3 3 J<|n9 J (λhg=>mI J)<|n9 J (λhg=>oF J c2L J)<|n9 J (λhg=>oS (ct hg) J J c8o J)<|n9 J (λhg=>a4D (f:=b7.Pv) (ct hg) R3)<|n9 J (λhg=>D4 (ct hg) (ct hg) J)<|y0 J (M6 J J J (λq=>eqF q))<|yN ?_;refine cN h (λhc h=>?_) λhc h=>?_
  ·refine S4 2 J ?_;refine b9 ?_;cases h;exact f2
  ·refine g5 ?_;refine S3 3 J<|iL h J J R3 a0w λv2 _ h=>S2 3 J<|k8<|dr [] u5 (by kernel_rfl) (by kernel_rfl)<|S7 3 J<|z6 h λv3 hv3 h=>d2 J (U6 J a86 J hv3) J<|S7 2 J<|O7 J (λhg _ hN=>oF J b7t J) J<|a3f J (λhg=>oS (ct hg) J J I6 J) J<|O7 J (λhg _ hN=>D4 (ct hg) J J) J<|O7 J (λhg _ hN=>om (d:=.bool (v2.State != 1)) (ct hg)) J<|O7 (U0 J J J) (λhg _ hN=>oF J b7t J) J<|a3f (U0 J J J) (λhg=>oS (ct hg) J J I6 J) J<|O7 (U0 J J J) (λhg _ hN=>D4 (ct hg) J J) J<|O7 J (λhg _ hN=>E0 (ct hg) J J (λq=>c59 hg (eqT q))) J<|d7 J (λ_ hN=>M6 J J J (λq=>eqF q)) J<|M5 ?_
   refine cN h (λhc h=>?_) λhc h=>?_
   ·refine S4 2 J ?_;refine b9 ?_;cases h;exact f2
   ·refine g5 ?_;refine S4 3 J<|b9 ?_;cases h;exact f2

theorem a13{a0 a1}:PO Tryz.prog 98 [c8.Pv a0,.I a1] (C1 a0 a1) λr=>.tup [m7.Pv r.1,.I r.2]:=by
 refine pO Tryz.func98 λr h _ _=>?_;refine S4 3 J<|S4 1 J<|S3 2 J<|cA h G9 J J λv1 _ h=>S2 5 J<|k8<|S4 2 J ?_;refine cN h (λhc h=>?_) λhc h=>?_
 ·refine S3 2 J ?_;refine a71 (x':=.agg [.I 0,.I 0,.I 0,.I 0,.bool false,.nl]) (cl':=true) J J (.inl J) a7b<|S2 1 J<|b9 ?_;cases h;exact⟨J,[_,_],⟨oL J J J b2Z a7b nl J,⟨J,tr⟩⟩,J,io⟩
 ·refine g5 ?_;refine k8<|S3 3 J<|iL h J J R3 a0w λv2 hv2 h=>S2 3 J ?_;refine cN h (λhc h=>?_) λhc h=>?_
  ·refine S3 1 J ?_;refine a71 (x':=.agg [.I 0,.I 0,.I 0,.I 0,.bool false,.nl]) (cl':=true) J J (.inl J) a7b<|S2 1 J<|b9 ?_;cases h;exact⟨J,[_,_],⟨oL J J J b2Z a7b nl J,⟨J,tr⟩⟩,J,io⟩
  ·refine g5 ?_;refine S3 3 J<|y0 J (P0 (f:=b7.Pv) (cs:=b7.Pc v2) hv2 J J R3 a0w J J)<|S2 4 J<|b9 ?_;cases h;exact⟨J,[_,_],⟨oL J J J b2Z a7b nl J,⟨J,tr⟩⟩,J,io⟩

theorem A6{a0 a1}:PO Tryz.prog 54 [a7.Pv a0,.I a1] (u9 a0 a1) λr=>.tup [m7.Pv r.1,.I r.2]:=by
 refine pO Tryz.func54 λr h _ _=>?_;refine S4 3 J<|S3 3 J<|cF h a13 J J λv1 _ h=>S2 4 J<|b9 ?_;cases h;exact⟨J,[_,_],⟨oL J J J b2Z a7b nl J,⟨J,tr⟩⟩,J,io⟩

theorem b3q{a0 a1}:PO Tryz.prog 204 [b6.Pv a0,.I a1] (a4v a0 a1) λr=>.bool r:=by
 refine pO Tryz.func204 λr h _ _=>?_;refine S4 2 J<|S3 3 J<|cF h A6 J J λv1 _ h=>S2 6 J<|S4 3 J<|b9 ?_;cases h;exact f1

theorem R9{a0 a1}:PO Tryz.prog 165 [b6.Pv a0,.I a1] (J0 a0 a1) λr=>.bool r:=by
 refine pO Tryz.func165 λr h _ _=>?_;unfold J0 at h;refine S4 2 J<|S3 3 J<|n9 J (λhg=>oL J J J p8 o0 nl J)<|n9 J (λhg=>mI J)<|z6 h λv1 hv1 h=>n9 J (λhg=>U6 J b3q (Y3 (ct hg) (Y3 (ct hg) J)) (P1 hv1 hg))<|y0 J (M6 J J J (λq=>eqF q))<|S2 1 J<|b9 ?_;cases h;exact f1

theorem Z1{a0}:PO Tryz.prog 209 [.I a0] (E2 a0) λr=>.bool r:=by
 refine pO Tryz.func209 λr h _ _=>?_;unfold E2 at h;refine S4 1 J<|S4 3 J<|b9 ?_;cases h;exact f1

theorem a90{a0}:PO Tryz.prog 179 [.I a0] (a3M a0) λr=>.tup [.I r.1,.I r.2]:=by
 refine pO Tryz.func179 λr h _ _=>?_;refine S4 2 J<|k8<|S3 1 J<|cA h Z1 J J λv1 _ h=>yN ?_;refine cN h (λhc h=>?_) λhc h=>?_
 ·refine S4 2 J ?_;refine b9 ?_;cases h;exact f2
 ·refine g5 ?_;refine S3 1 J<|y0 J (c4s J J J)<|S2 3 J<|b9 ?_;cases h;exact f2

theorem b5S{a0}:PO Tryz.prog 133 [.I a0] (a74 a0) λr=>.I r:=by
 refine pO Tryz.func133 λr h _ _=>?_;refine S4 1 J<|S3 1 J<|cA h a90 J J λv1 _ h=>S2 5 J<|S4 2 J<|b9 ?_;cases h;exact f1

theorem a65{a0 a1 a2}:PO Tryz.prog 130 [c8.Pv a0,.I a1,m7.Pv a2] (I3 a0 a1 a2) λr=>.tup [c8.Pv r.1,.I r.2]:=by
 refine pO Tryz.func130 λr h _ _=>?_;refine S4 4 J<|S3 2 J<|cA h G9 J J λv1 _ h=>S2 5 J<|k8<|S4 2 J ?_;refine cN h (λhc h=>?_) λhc h=>?_
 ·refine S4 4 J ?_;refine b9 ?_;cases h;exact⟨J,[_,_],⟨oL J J J a2V a1t nl J,⟨J,tr⟩⟩,J,io⟩
 ·refine g5 ?_;refine S3 3 J<|iL h J J R3 a0w λv2 _ h=>S2 3 J<|S4 3 J<|S3 3 J<|cF h H0 J J λv3 _ h=>S2 2 J<|b9 ?_;cases h;exact⟨J,[_,_],⟨oL J J J a2V a1t nl J,⟨J,tr⟩⟩,J,io⟩

theorem a0r{a0 a1 a2}:PO Tryz.prog 81 [a7.Pv a0,.I a1,m7.Pv a2] (I4 a0 a1 a2) λr=>.tup [a7.Pv r.1,.I r.2]:=by
 refine pO Tryz.func81 λr h _ _=>?_;refine S4 4 J<|S4 1 J<|S3 4 J<|cF h a65 J J λv1 _ h=>S2 6 J<|S4 4 J<|b9 ?_;cases h;exact⟨J,[_,_],⟨oL J J J a5K a5N nl J,⟨J,tr⟩⟩,J,io⟩

theorem a3U{a0 a1}:PO Tryz.prog 132 [b6.Pv a0,.I a1,.fn (.func 133) []] (R8 a0 a1) λr=>b6.Pv r:=by
 refine pO Tryz.func132 λr h _ _=>?_;refine S4 2 J<|S3 3 J<|cF h A6 J J λv1 _ h=>S2 6 J<|k8<|S4 2 J ?_;refine cN h (λhc h=>?_) λhc h=>?_
 ·refine S3 3 J ?_;refine cA h b5S J J λv2 _ h=>S2 2 J<|S5 4 J<|cF h a0r J J λv3 _ h=>S2 5 J<|S4 2 J<|b9 ?_;cases h;exact⟨J,[_],⟨oL J J J p8 o0 nl J,tr⟩,J,io⟩
 ·refine g5 ?_;refine S4 2 J<|b9 ?_;cases h;exact⟨J,[_],⟨oL J J J p8 o0 nl J,tr⟩,J,io⟩

theorem a1B{a0 a1}:PO Tryz.prog 83 [b6.Pv a0,.I a1] (Z3 a0 a1) λr=>b6.Pv r:=by
 refine pO Tryz.func83 λr h _ _=>?_;refine S4 2 J<|S3 2 J<|cF h a3U J J λv1 _ h=>S2 1 J<|b9 ?_;cases h;exact⟨J,[_],⟨oL J J J p8 o0 nl J,tr⟩,J,io⟩

theorem a44{a0}:PON Tryz.prog 219 [.L iF a0] (K1 a0) λr=>⟨List.map iF r,0,true,1,true⟩:=by
 refine pON Tryz.func219 λr h _ _=>?_;unfold K1 at h;refine S4 1 J<|k8<|S3 1 J<|b7f J n0 λb hb=>yN ?_;refine G7 b J (λhc=>?_) (λhc=>?_)
 ·obtain rfl:a0 = []:=by simpa using hb hc
  refine S4 1 J<|a2O (Y0 (t:=2) (l:=920000) (z:=1) J J)<|b9 ?_;cases h;exact⟨J,_,_,J,J,J,J⟩
 ·refine g5 ?_;refine sR<|y0 J (b3C J n0 u4)<|S1 1 J<|y1 J (b76 (f:=iF) h J J (.inl ⟨_,J,J⟩) n0 u4 Y9 F1 J (λ_=>J)) J<|S2 1 J<|b9 ?_;exact⟨J,_,_,J,J,J,J⟩

theorem a62{a0 a1}:PO Tryz.prog 197 [G4.Pv a0,b6.Pv a1] (N3 a0 a1) λr=>b6.Pv r:=by
 refine pO Tryz.func197 λr h _ _=>?_;unfold N3 at h;refine S4 3 J<|S3 2 J<|z6 h λv1 hv1 h=>ycN J (b5l J a44 J hv1) J J<|S2 2 J<|S3 6 J<|z6 h λv2 hv2 h=>y0 J (a89 (f:=iF) hv2 J J J J n0 u4 J)<|b4n (f:=iF) (v:=a0.h) hv2 J J (.inl J) u4<|yN<|S4 2 J<|b9 ?_;cases h;exact⟨J,[_],⟨oL J J J p8 o0 nl J,tr⟩,J,io⟩

theorem a8K{a0}:PO Tryz.prog 189 [.I a0] (a2a a0) λr=>.tup [.I r.1,.I r.2]:=by
 refine pO Tryz.func189 λr h _ _=>?_;refine S4 2 J<|k8<|S3 1 J<|cA h Z1 J J λv1 _ h=>yN ?_;refine cN h (λhc h=>?_) λhc h=>?_
 ·refine S4 2 J ?_;refine b9 ?_;cases h;exact f2
 ·refine g5 ?_;refine k8<|S4 2 J ?_;refine cN h (λhc h=>?_) λhc h=>?_
  ·refine S4 2 J ?_;refine b9 ?_;cases h;exact f2
  ·refine g5 ?_;refine S4 4 J<|b9 ?_;cases h;exact f2

theorem b5R{a0}:PO Tryz.prog 140 [.I a0] (b09 a0) λr=>.tup [.I r.1,.I r.2]:=by
 refine pO Tryz.func140 λr h _ _=>?_;refine S4 2 J<|S3 1 J<|cA h a8K J J λv1 _ h=>S2 5 J<|S4 4 J<|b9 ?_;cases h;exact f2

theorem b0k{a0}:PO Tryz.prog 139 [.I a0] (a1A a0) λr=>.I r:=by
 refine pO Tryz.func139 λr h _ _=>?_;refine S4 1 J<|S3 1 J<|cA h b5R J J λv1 _ h=>S2 5 J<|k8<|S4 2 J ?_;refine cN h (λhc h=>?_) λhc h=>?_
 ·refine S4 2 J ?_;refine b9 ?_;cases h;exact f1
 ·refine g5 ?_;refine S4 2 J<|b9 ?_;cases h;exact f1

theorem a1X{a0 a1}:PO Tryz.prog 132 [b6.Pv a0,.I a1,.fn (.func 139) []] (K9 a0 a1) λr=>b6.Pv r:=by
 refine pO Tryz.func132 λr h _ _=>?_;refine S4 2 J<|S3 3 J<|cF h A6 J J λv1 _ h=>S2 6 J<|k8<|S4 2 J ?_;refine cN h (λhc h=>?_) λhc h=>?_
 ·refine S3 3 J ?_;refine cA h b0k J J λv2 _ h=>S2 2 J<|S5 4 J<|cF h a0r J J λv3 _ h=>S2 5 J<|S4 2 J<|b9 ?_;cases h;exact⟨J,[_],⟨oL J J J p8 o0 nl J,tr⟩,J,io⟩
 ·refine g5 ?_;refine S4 2 J<|b9 ?_;cases h;exact⟨J,[_],⟨oL J J J p8 o0 nl J,tr⟩,J,io⟩

theorem V1{a0 a1}:PO Tryz.prog 90 [b6.Pv a0,.I a1] (B1 a0 a1) λr=>b6.Pv r:=by
 refine pO Tryz.func90 λr h _ _=>?_;refine S4 2 J<|S3 2 J<|cF h a1X J J λv1 _ h=>S2 1 J<|b9 ?_;cases h;exact⟨J,[_],⟨oL J J J p8 o0 nl J,tr⟩,J,io⟩

theorem a03{a0 a1 a2 a3}:PO Tryz.prog 166 [b6.Pv a0,.I a1,.I a2,.abs (BFn 197 [G4.Pv a3])] (D6 a0 a1 a2 a3) λr=>b6.Pv r:=by
 refine pO Tryz.func166 λr h _ _=>?_;refine S4 2 J<|S3 3 J<|cF h a1B J J λv1 _ h=>z6 h λv2 hv2 h=>b7e (xs:=[b6.Pv v1]) J J c5Q J (a62.2 _ hv2)<|S1 1 J<|cF h V1 J J λv3 _ h=>S2 1 J<|b9 ?_;cases h;exact⟨J,[_],⟨oL J J J p8 o0 nl J,tr⟩,J,io⟩

theorem a58{a0 a1 a2}:PO Tryz.prog 145 [b6.Pv a0,.I a1,.I a2] (a0j a0 a1 a2) λr=>.tup [b6.Pv r.1,.I r.2]:=by
 refine pO Tryz.func145 λr h _ _=>?_;refine S4 3 J<|k8<|S3 3 J<|n9 J (λhg=>mI J)<|n9 J (λhg=>oF J b7r J)<|n9 J (λhg=>oS (ct hg) J J b80 J)<|n9 J (λhg=>a4D (f:=iF) (ct hg) n0)<|n9 J (λhg=>D4 (ct hg) (ct hg) J)<|y0 J (M6 J J J (λq=>eqF q))<|yN ?_;refine cN h (λhc h=>?_) λhc h=>?_
 ·refine S4 3 J ?_;refine b9 ?_;cases h;exact⟨J,[_,_],⟨oL J J J p8 o0 nl J,⟨J,tr⟩⟩,J,io⟩
 ·refine g5 ?_;refine k8<|S3 2 J<|cA h R9 J J λv1 _ h=>S2 1 J ?_;refine cN h (λhc h=>?_) λhc h=>?_
  ·refine S4 3 J ?_;refine b9 ?_;cases h;exact⟨J,[_,_],⟨oL J J J p8 o0 nl J,⟨J,tr⟩⟩,J,io⟩
  ·refine g5 ?_;refine dr [] u5 (by kernel_rfl) (by kernel_rfl)<|S7 4 J<|z6 h λv2 hv2 h=>d0 J (P0 (f:=iF) (cs:=[.I v2]) hv2 J J n0 u4 J J) J<|S7 4 J<|d7 J (λ_ hN=>u7 (cs:=[.I a1,.I a2]) J c5Z c57 J J J) J<|d7 J (λ_ hN=>b1s (d:=.agg [.I a1,.I a2]) J) J<|z6 h λv3 hv3 h=>X5 J (p6 J a03 J hv3) J<|A8 (x':=b6.Pv v3) (cl':=true) J J (.inr J) o0<|S8 1 J<|b9 ?_
   cases h;exact⟨J,[_,_],⟨oL J J J p8 o0 nl J,⟨J,tr⟩⟩,J,io⟩

theorem F3{a0 a1 a2}:PO Tryz.prog 122 [o8.Pv a0,.I a1,.I a2] (A5 a0 a1 a2) λr=>.tup [b6.Pv r.1,.I r.2]:=by
 refine pO Tryz.func122 λr h _ _=>?_;refine S4 3 J<|k8<|S4 2 J ?_;refine cN h (λhc h=>?_) λhc h=>?_
 ·refine S4 5 J ?_;refine b9 ?_;cases h;exact⟨J,[_,_],⟨oL J J J p8 o0 nl J,⟨J,tr⟩⟩,J,io⟩
 ·refine g5 ?_;refine S3 6 J<|cF h a58 J J λv1 _ h=>S2 4 J<|b9 ?_;cases h;exact⟨J,[_,_],⟨oL J J J p8 o0 nl J,⟨J,tr⟩⟩,J,io⟩

theorem a1F{a0}:PO Tryz.prog 65 [o8.Pv a0] (Q8 a0) λr=>.tup [b6.Pv r.1,.I r.2]:=by
 refine pO Tryz.func65 λr h _ _=>?_;refine S4 3 J<|S3 9 J<|cF h b4O J J λv1 _ h=>S2 8 J<|k8<|S4 2 J ?_;refine cN h (λhc h=>?_) λhc h=>?_
 ·refine S4 5 J ?_;refine b9 ?_;cases h;exact⟨J,[_,_],⟨oL J J J p8 o0 nl J,⟨J,tr⟩⟩,J,io⟩
 ·refine g5 ?_;refine S4 4 J<|S3 2 J<|cF h F3 J J λv2 _ h=>S2 4 J<|b9 ?_;cases h;exact⟨J,[_,_],⟨oL J J J p8 o0 nl J,⟨J,tr⟩⟩,J,io⟩

theorem L0{a0 a1}:PO Tryz.prog 78 [b6.Pv a0,.I a1] (J2 a0 a1) λr=>.I r:=by
 refine pO Tryz.func78 λr h _ _=>?_;refine S4 2 J<|k8<|S3 3 J<|n9 J (λhg=>mI J)<|n9 J (λhg=>oF J b7r J)<|n9 J (λhg=>oS (ct hg) J J b80 J)<|n9 J (λhg=>a4D (f:=iF) (ct hg) n0)<|n9 J (λhg=>D4 (ct hg) (ct hg) J)<|y0 J (M6 J J J (λq=>eqF q))<|yN ?_;refine cN h (λhc h=>?_) λhc h=>?_
 ·refine S4 1 J ?_;refine b9 ?_;cases h;exact f1
 ·refine g5 ?_;refine S3 3 J<|iL h J J n0 u4 λv1 _ h=>S2 2 J<|b9 ?_;cases h;exact f1

theorem a0u{a0}:PO Tryz.prog 66 [o8.Pv a0] (G6 a0) λr=>.tup [b6.Pv r.1,.I r.2]:=by
 refine pO Tryz.func66 λr h _ _=>?_;unfold G6 at h;refine S4 3 J<|dr [] u5 (by kernel_rfl) (by kernel_rfl)<|S7 6 J<|z6 h λv1 hv1 h=>d2 J (U6 J L0 J hv1) J<|z6 h λv2 hv2 h=>X5 J (p6 J F3 J hv2) J<|S7 2 J<|A8 (x':=b6.Pv v2.1) (cl':=true) J J (.inr J) o0<|S8 1 J<|b9 ?_
 cases h;exact⟨J,[_,_],⟨oL J J J p8 o0 nl J,⟨J,tr⟩⟩,J,io⟩

theorem a2K{a0}:PO Tryz.prog 67 [o8.Pv a0] (Y4 a0) λr=>.tup [b6.Pv r.1,.I r.2]:=by
 refine pO Tryz.func67 λr h _ _=>?_;refine S4 3 J<|S3 1 J<|cF h F3 J J λv1 _ h=>S2 4 J<|b9 ?_;cases h;exact⟨J,[_,_],⟨oL J J J p8 o0 nl J,⟨J,tr⟩⟩,J,io⟩

theorem O9{a0 a1}:PO Tryz.prog 123 [b6.Pv a0,.I a1] (J9 a0 a1) λr=>.tup [.I r.1,.I r.2]:=by
 refine pO Tryz.func123 λr h _ _=>?_;refine S4 3 J<|S3 2 J<|cA h L0 J J λv1 _ h=>S2 1 J<|k8<|S4 2 J ?_;refine cN h (λhc h=>?_) λhc h=>?_
 ·refine S4 2 J ?_;refine b9 ?_;cases h;exact f2
 ·refine g5 ?_;refine S4 3 J<|b9 ?_;cases h;exact f2

theorem b4g{a0 a1}:PO Tryz.prog 203 [.L iF a0,.I a1] (a6F a0 a1) λr=>.bool r:=by
 refine pO Tryz.func203 λr h _ _=>?_;unfold a6F at h;refine S4 1 J<|S3 3 J<|n9 J (λhg=>mI J)<|n9 J (λhg=>om (d:=.L iF a0) J)<|n9 J (λhg=>a4D (f:=iF) (ct hg) n0)<|n9 J (λhg=>D4 (ct hg) (ct hg) J)<|y0 J (E0 J J J (λq=>eqT q))<|S2 1 J<|b9 ?_;cases h;exact f1

theorem c2D{a0 a1}:PO Tryz.prog 164 [.L iF a0,.I a1] (b1V a0 a1) λr=>.tup [.I r.1,.I r.2]:=by
 refine pO Tryz.func164 λr h _ _=>?_;refine S4 2 J<|k8<|S3 2 J<|cA h b4g J J λv1 _ h=>S2 1 J ?_;refine cN h (λhc h=>?_) λhc h=>?_
 ·refine S4 2 J ?_;refine b9 ?_;cases h;exact f2
 ·refine g5 ?_;refine S3 2 J<|iL h J J n0 u4 λv2 _ h=>S2 3 J<|b9 ?_;cases h;exact f2

theorem a7U{a0 a1 a2}:PO Tryz.prog 124 [a7.Pv a0,.I a1,.I a2] (a0b a0 a1 a2) λr=>.tup [.I r.1,.I r.2]:=by
 refine pO Tryz.func124 λr h _ _=>?_;refine S4 3 J<|S3 2 J<|cF h A6 J J λv1 _ h=>S2 6 J<|k8<|S4 2 J ?_;refine cN h (λhc h=>?_) λhc h=>?_
 ·refine S4 3 J ?_;refine b9 ?_;cases h;exact f2
 ·refine g5 ?_;refine S3 3 J<|cA h c2D J J λv2 _ h=>S2 4 J<|b9 ?_;cases h;exact f2

theorem a2L{a0}:PO Tryz.prog 68 [o8.Pv a0] (Y5 a0) λr=>.tup [b6.Pv r.1,.I r.2]:=by
 refine pO Tryz.func68 λr h _ _=>?_;refine S4 3 J<|S3 5 J<|cA h O9 J J λv1 _ h=>S2 5 J<|k8<|S4 2 J ?_;refine cN h (λhc h=>?_) λhc h=>?_
 ·refine S4 5 J ?_;refine b9 ?_;cases h;exact⟨J,[_,_],⟨oL J J J p8 o0 nl J,⟨J,tr⟩⟩,J,io⟩
 ·refine g5 ?_;refine dr [] u5 (by kernel_rfl) (by kernel_rfl)<|S7 8 J<|z6 h λv2 hv2 h=>d2 J (U6 J a7U J hv2) J<|S7 2 J<|z6 h λv3 hv3 h=>X5 J (p6 J F3 J hv3) J<|S7 2 J<|A8 (x':=b6.Pv v3.1) (cl':=true) J J (.inr J) o0<|S8 1 J<|b9 ?_
  cases h;exact⟨J,[_,_],⟨oL J J J p8 o0 nl J,⟨J,tr⟩⟩,J,io⟩

theorem b8M{a0 a1 a2}:PO Tryz.prog 222 [.L iF a0,.I a1,.I a2] (b4f a0 a1 a2) λr=>.tup [.L iF r.1,.I r.2]:=by
 refine pO Tryz.func222 λr h _ _=>?_;refine S4 2 J<|k8<|S3 2 J<|cA h b4g J J λv1 _ h=>S2 1 J ?_;refine cN h (λhc h=>?_) λhc h=>?_
 ·refine S4 3 J ?_;refine b9 ?_;cases h;exact f2
 ·refine g5 ?_;refine S3 1 J<|nL J n0<|z6 h λv2 hv2 h=>y1 J (b9H (f:=iF) hv2 J J J n0 u4 F1 Y9 J J J) J<|S2 1 J<|S3 2 J<|z6 h λv3 hv3 h=>d1V (f:=iF) hv3 J J J (.inl ⟨_,J,J⟩) n0 u4 (λ_=>J) (by decide)<|yN<|S3 3 J<|z6 h λv4 hv4 h=>y0 J (a89 (f:=iF) hv4 J J J J n0 u4 J)<|b4n (f:=iF) (v:=a2) hv4 J J (.inl J) u4<|yN<|S4 3 J<|b9 ?_
  cases h;exact f2

theorem b64{a0 a1 a2 a3}:PO Tryz.prog 205 [a7.Pv a0,.I a1,.I a2,.I a3] (a8B a0 a1 a2 a3) λr=>.tup [a7.Pv r.1,.I r.2]:=by
 refine pO Tryz.func205 λr h _ _=>?_;refine S4 3 J<|S3 2 J<|cF h A6 J J λv1 _ h=>S2 6 J<|k8<|S4 2 J ?_;refine cN h (λhc h=>?_) λhc h=>?_
 ·refine S4 4 J ?_;refine b9 ?_;cases h;exact⟨J,[_,_],⟨oL J J J a5K a5N nl J,⟨J,tr⟩⟩,J,io⟩
 ·refine g5 ?_;refine k8<|S3 4 J<|cF h b8M J J λv2 _ h=>S2 6 J<|S4 2 J ?_;refine cN h (λhc h=>?_) λhc h=>?_
  ·refine S4 4 J ?_;refine b9 ?_;cases h;exact⟨J,[_,_],⟨oL J J J a5K a5N nl J,⟨J,tr⟩⟩,J,io⟩
  ·refine g5 ?_;refine S3 3 J<|cF h a0r J J λv3 _ h=>S2 4 J<|b9 ?_;cases h;exact⟨J,[_,_],⟨oL J J J a5K a5N nl J,⟨J,tr⟩⟩,J,io⟩

theorem a59{a0 a1}:PO Tryz.prog 167 [E9.Pv a0,b6.Pv a1] (a0y a0 a1) λr=>b6.Pv r:=by
 refine pO Tryz.func167 λr h _ _=>?_;refine S4 3 J<|S3 8 J<|cF h b64 J J λv1 _ h=>S2 5 J<|S4 2 J<|b9 ?_;cases h;exact⟨J,[_],⟨oL J J J p8 o0 nl J,tr⟩,J,io⟩

theorem a0K{a0 a1 a2 a3}:PO Tryz.prog 166 [b6.Pv a0,.I a1,.I a2,.abs (BFn 167 [E9.Pv a3])] (G5 a0 a1 a2 a3) λr=>b6.Pv r:=by
 refine pO Tryz.func166 λr h _ _=>?_;refine S4 2 J<|S3 3 J<|cF h a1B J J λv1 _ h=>z6 h λv2 hv2 h=>b7e (xs:=[b6.Pv v1]) J J c5M J (a59.2 _ hv2)<|S1 1 J<|cF h V1 J J λv3 _ h=>S2 1 J<|b9 ?_;cases h;exact⟨J,[_],⟨oL J J J p8 o0 nl J,tr⟩,J,io⟩

theorem b4G{a0 a1 a2 a3}:PO Tryz.prog 125 [b6.Pv a0,.I a1,.I a2,.I a3] (a2e a0 a1 a2 a3) λr=>.tup [b6.Pv r.1,.I r.2]:=by
 refine pO Tryz.func125 λr h _ _=>?_;refine S4 3 J<|S3 4 J<|cA h a7U J J λv1 _ h=>S2 5 J<|k8<|S4 2 J ?_;refine cN h (λhc h=>?_) λhc h=>?_
 ·refine S4 4 J ?_;refine b9 ?_;cases h;exact⟨J,[_,_],⟨oL J J J p8 o0 nl J,⟨J,tr⟩⟩,J,io⟩
 ·refine g5 ?_;refine k8<|S3 2 J<|cA h R9 J J λv2 _ h=>S2 1 J ?_;refine cN h (λhc h=>?_) λhc h=>?_
  ·refine S4 3 J ?_;refine b9 ?_;cases h;exact⟨J,[_,_],⟨oL J J J p8 o0 nl J,⟨J,tr⟩⟩,J,io⟩
  ·refine g5 ?_;refine S3 6 J<|y0 J (u7 (cs:=[.I a1,.I a2,.I a3]) J c5W c54 J J J)<|y0 J (b1s (d:=.agg [.I a1,.I a2,.I a3]) J)<|cF h a0K J J λv3 _ h=>S2 2 J<|b9 ?_;cases h;exact⟨J,[_,_],⟨oL J J J p8 o0 nl J,⟨J,tr⟩⟩,J,io⟩

theorem a11{a0}:PO Tryz.prog 69 [o8.Pv a0] (U5 a0) λr=>.tup [b6.Pv r.1,.I r.2]:=by
 refine pO Tryz.func69 λr h _ _=>?_;refine S4 3 J<|S3 5 J<|cA h O9 J J λv1 _ h=>S2 5 J<|k8<|S4 2 J ?_;refine cN h (λhc h=>?_) λhc h=>?_
 ·refine S4 5 J ?_;refine b9 ?_;cases h;exact⟨J,[_,_],⟨oL J J J p8 o0 nl J,⟨J,tr⟩⟩,J,io⟩
 ·refine g5 ?_;refine dr [] u5 (by kernel_rfl) (by kernel_rfl)<|S7 11 J<|z6 h λv2 hv2 h=>d2 J (U6 J L0 J hv2) J<|z6 h λv3 hv3 h=>X5 J (p6 J b4G J hv3) J<|S7 2 J<|A8 (x':=b6.Pv v3.1) (cl':=true) J J (.inr J) o0<|S8 1 J<|b9 ?_
  cases h;exact⟨J,[_,_],⟨oL J J J p8 o0 nl J,⟨J,tr⟩⟩,J,io⟩

theorem c0d{a0 a1}:PO Tryz.prog 206 [c9.Pv a0,.I a1] (b2T a0 a1) λr=>.fn (.func 223) [.rptr (c9.Pc r.1),.rptr [.I r.2]]:=by
 refine pO Tryz.func206 λr h _ _=>?_;unfold b2T at h;refine S4 3 J<|S4 2 J<|b9 ?_;cases h;exact f1

theorem b4P{a0 a1}:PO Tryz.prog 168 [c9.Pv a0,.I a1] (a4c a0 a1) λr=>.bool r:=by
 refine pO Tryz.func168 λr h _ _=>?_;refine S4 3 J ?_;refine jq h (λ_=>St.of [(4,.ptr 2001 0 0)] [(2001,vR (.bool false) 1)]) (λq7 h=>?_) λκ6 h=>?_
 ·refine S4 1 J ?_;refine b9 ?_;cases h;exact⟨J,[_],⟨oS J J J b7q J,tr⟩,J,io⟩
 ·refine S3 1 J ?_;refine cF h c0d J J λv8 _ h=>yN<|l5<|a2O (WPE (λl=>if l=2003 then 4 else if l=2004 then 3 else l) [(3,.ptr 2004 0 0),(4,.ptr 2003 0 0),(7,.fn (.func 223) [.rptr (c9.Pc v8.1),.rptr [.I v8.2]])] [(2003,vR (.bool false) 1),(2004,vR (.I a1) 1)]) ?_
  refine a1K (fn:=Tryz.f223) (N1:=24) J Tryz.func223 J J nl J c5S J J (λl16 e17 o18 hR19=>?_);refine S3 2 J<|nL J a69<|S2 1 J<|l5<|lq h (λs10=>St.of [(1000003,.ptr 2004 0 0),(1000004,.ptr 2003 0 0),(1000007,.fn (.func 223) [.rptr (c9.Pc v8.1),.rptr [.I v8.2]]),(0,.fn (.yield l16) []),(2,.rptr [.I v8.2]),(7,.L k9.Pv v8.1.L),(8,.I (v8.1.L.length:Int)),(9,.I s10)] [(2003,vR (.bool false) 1),(2004,vR (.I a1) 1)]) W λs10 x11 h hx22=>S4 1 J<|k8 ?_;refine cN h (λhc h=>?_) λhc h=>?_
  ·refine g5 ?_;refine k8<|l5<|sR<|iL h J J a69 K5 λv12 _ h=>S2 3 J<|S3 5 J<|n9 J (λhg=>om (d:=.fn (.yield l16) []) J)<|n9 J (λhg=>oL J J J a1q K5 nl J) ?_;rcases Bool.eq_false_or_eq_true ((v12.Kind==v8.2)==true) with hg24 | hg24
   ·have h:=ifT h hg24;refine Q7 (WE [(1000003,.ptr 2004 0 0),(1000004,.ptr 2003 0 0),(1000007,.fn (.func 223) [.rptr (c9.Pc v8.1),.rptr [.I v8.2]]),(0,.fn (.yield l16) []),(2,.rptr [.I v8.2]),(7,.L k9.Pv v8.1.L),(8,.I (v8.1.L.length:Int)),(9,.I s10),(17,.bool (v12.Kind==v8.2)),(18,.fn (.yield l16) []),(19,k9.Pv v12)] [(2003,vR (.bool false) 1),(2004,vR (.I a1) 1)]) ?_;refine a6J hR19 (congrArg some hg24) J J J J J (λe25 o26 o27=>?_);refine S6 2 J ?_;refine⟨J,?_⟩;refine l5<|S4 4 J ?_;refine cN h (λhc h=>?_) λhc h=>?_
    ·refine S4 1 J ?_;refine b9 ?_;refine⟨J,?_⟩;refine Q7 (WE [(1000003,.ptr 2004 0 0),(1000004,.ptr 2003 0 0),(1000007,.fn (.func 223) [.rptr (c9.Pc v8.1),.rptr [.I v8.2]]),(0,.fn (.yield l16) []),(2,.rptr [.I v8.2]),(7,.L k9.Pv v8.1.L),(8,.I (v8.1.L.length:Int)),(9,.I s10),(17,.bool (v12.Kind==v8.2)),(20,.bool false)] [(2003,vR (.bool true) 1),(2004,vR (.I a1) 1)])<|y0 (congrArg some hg24) (a6R J J)<|y0 J (a6h J J hg24)<|yN ?_;refine G7 true J (λ_=>?_) (λq=>nomatch q);refine b9 ?_;refine .inr ⟨.ret,J,c6w ?_⟩;have h:=xL hx22 h;cases h;exact⟨J,[_],⟨oS J J J b7q J,tr⟩,J,io⟩
    ·refine g5 ?_;refine⟨J,?_⟩;refine Q7 (WE [(1000003,.ptr 2004 0 0),(1000004,.ptr 2003 0 0),(1000007,.fn (.func 223) [.rptr (c9.Pc v8.1),.rptr [.I v8.2]]),(0,.fn (.yield l16) []),(2,.rptr [.I v8.2]),(7,.L k9.Pv v8.1.L),(8,.I (v8.1.L.length:Int)),(9,.I s10),(17,.bool (v12.Kind==v8.2)),(20,.bool true)] [(2003,vR (.bool false) 1),(2004,vR (.I a1) 1)])<|y0 (congrArg some hg24) (a6R J J)<|y0 J (a6h J J hg24)<|yN ?_;refine G7 false J (λq=>nomatch q) (λ_=>?_);refine g5<|S6 2 J ?_;exact eL h W
   ·have h:=ifF h hg24;refine a1V (congrArg some hg24)<|a1V (congrArg some hg24)<|y0 J (a8i J J hg24)<|yN ?_;refine G7 false J (λq=>nomatch q) (λ_=>?_);refine g5<|S6 2 J ?_;exact eL h W
  ·refine w8 ?_;refine j5<|j5<|n8 ?_;refine .inl ⟨J,?_⟩;have h:=xL hx22 h;exact eJ h (WP (λl=>if l=2001 then 2003 else l))

theorem b2f{a0 a1}:PO Tryz.prog 172 [.L e6.Pv a0,.I a1] (a5H a0 a1) λr=>.bool r:=by
 refine pO Tryz.func172 λr h _ _=>?_;unfold a5H at h;refine S4 1 J<|S3 3 J<|n9 J (λhg=>mI J)<|n9 J (λhg=>om (d:=.L e6.Pv a0) J)<|n9 J (λhg=>a4D (f:=e6.Pv) (ct hg) W6)<|n9 J (λhg=>D4 (ct hg) (ct hg) J)<|y0 J (E0 J J J (λq=>eqT q))<|S2 1 J<|b9 ?_;cases h;exact f1

theorem a6W{a0}:PON Tryz.prog 183 [.L e6.Pv a0] (a0c a0) λr=>⟨List.map e6.Pv r,0,true,3,true⟩:=by
 refine pON Tryz.func183 λr h _ _=>?_;unfold a0c at h;refine S4 1 J<|S3 1 J<|nL J W6<|z6 h λv1 hv1 h=>y1 J (b9H (f:=e6.Pv) hv1 J J J W6 Y1 b5J c0s J J J) J<|S2 1 J<|S3 2 J<|z6 h λv2 hv2 h=>d1V (f:=e6.Pv) hv2 J J J (.inl ⟨_,J,J⟩) W6 Y1 (λ_=>J) (by decide)<|yN<|S4 2 J<|b9 ?_
 cases h;exact⟨J,_,_,J,J,J,J⟩

theorem b8R{a0 a1 a2 a3}:PO Tryz.prog 169 [.L e6.Pv a0,.I a1,.I a2,.I a3] (b00 a0 a1 a2 a3) λr=>.tup [.L e6.Pv r.1,.I r.2.1,.I r.2.2]:=by
 refine pO Tryz.func169 λr h _ _=>?_;refine S4 3 J<|k8<|S3 2 J<|cA h b2f J J λv1 _ h=>S2 1 J ?_;refine cN h (λhc h=>?_) λhc h=>?_
 ·refine S4 4 J ?_;refine b9 ?_;cases h;exact f3
 ·refine g5 ?_;refine S3 1 J<|z6 h λv2 hv2 h=>ycN J (b5l J a6W J hv2) J J<|S2 1 J<|S3 6 J<|y0 J (u7 (cs:=[.I a2,.bool (a2 != 0),.I a3]) J c5V b5J J J J)<|z6 h λv3 hv3 h=>y0 J (a89 (f:=e6.Pv) hv3 J J J J W6 Y1 J)<|b4n (f:=e6.Pv) (v:=(⟨a2,(a2 != 0),a3⟩:e6)) hv3 J J (.inl J) Y1<|yN<|dr [] u5 (by kernel_rfl) (by kernel_rfl)<|S7 3 J<|z6 h λv4 hv4 h=>d0 J (P0 (f:=e6.Pv) (cs:=e6.Pc v4) hv4 J J W6 Y1 J J) J<|S8 5 J<|b9 ?_
  cases h;exact f3

theorem a7r{a0 a1 a2}:PO Tryz.prog 171 [b6.Pv a0,.I a1,.I a2] (a1i a0 a1 a2) λr=>b6.Pv r:=by
 refine pO Tryz.func171 λr h _ _=>?_;refine S4 2 J<|S3 4 J<|cA h G9 J J λv1 _ h=>S2 5 J<|k8<|S4 2 J ?_;refine cN h (λhc h=>?_) λhc h=>?_
 ·refine S3 5 J ?_;refine iL h J J R3 a0w λv2 _ h=>S2 4 J<|S4 6 J<|S5 4 J<|cF h a0r J J λv3 _ h=>S2 5 J<|S4 2 J<|b9 ?_;cases h;exact⟨J,[_],⟨oL J J J p8 o0 nl J,tr⟩,J,io⟩
 ·refine g5 ?_;refine S4 2 J<|b9 ?_;cases h;exact⟨J,[_],⟨oL J J J p8 o0 nl J,tr⟩,J,io⟩

theorem a1Q{a0 a1}:PO Tryz.prog 138 [c8.Pv a0,.I a1] (L3 a0 a1) λr=>.tup [c8.Pv r.1,.I r.2]:=by
 refine pO Tryz.func138 λr h _ _=>?_;refine S4 3 J<|S3 2 J<|cA h G9 J J λv1 _ h=>S2 5 J<|k8<|S4 2 J ?_;refine cN h (λhc h=>?_) λhc h=>?_
 ·refine S4 4 J ?_;refine b9 ?_;cases h;exact⟨J,[_,_],⟨oL J J J a2V a1t nl J,⟨J,tr⟩⟩,J,io⟩
 ·refine g5 ?_;refine S3 3 J<|iL h J J R3 a0w λv2 _ h=>S2 3 J<|k8<|S4 4 J ?_;refine cN h (λhc h=>?_) λhc h=>?_
  ·refine S3 3 J ?_;refine y0 J (u7 (cs:=[.I 3,.I v2.Gen,.I 0,.I 0,.I 0,.I 0,.bool false,.nl]) J b5I b06 J J J)<|cF h H0 J J λv3 _ h=>S2 2 J<|b9 ?_;cases h;exact⟨J,[_,_],⟨oL J J J a2V a1t nl J,⟨J,tr⟩⟩,J,io⟩
  ·refine g5 ?_;refine S3 4 J<|y0 J (u7 (cs:=[.I 0,.I (p7 (v2.Gen+1)),.I 0,.I 0,.I 0,.I 0,.bool false,.nl]) J b5I b06 J J J)<|cF h H0 J J λv4 _ h=>S2 2 J<|b9 ?_;cases h;exact⟨J,[_,_],⟨oL J J J a2V a1t nl J,⟨J,tr⟩⟩,J,io⟩

theorem b1l{a0 a1}:PO Tryz.prog 170 [b6.Pv a0,.I a1] (a2w a0 a1) λr=>b6.Pv r:=by
 refine pO Tryz.func170 λr h _ _=>?_;refine S4 2 J<|S3 2 J<|cF h a7r J J λv1 _ h=>S2 1 J<|S3 4 J<|cA h G9 J J λv2 _ h=>S2 5 J<|k8<|S4 2 J ?_;refine cN h (λhc h=>?_) λhc h=>?_
 ·refine S4 2 J ?_;refine b9 ?_;cases h;exact⟨J,[_],⟨oL J J J p8 o0 nl J,tr⟩,J,io⟩
 ·refine g5 ?_;refine k8<|S3 5 J<|iL h J J R3 a0w λv3 _ h=>S2 3 J<|S3 4 J<|n9 J (λhg=>oF J c2Q J)<|n9 J (λhg=>oF (ct hg) c2P J)<|n9 J (λhg=>oS (ct hg) J J I6 J)<|n9 J (λhg=>D4 (ct hg) J J)<|y0 J (E0 J J J (λq=>eqT q))<|yN ?_;refine cN h (λhc h=>?_) λhc h=>?_
  ·refine S5 4 J ?_;refine cF h a1Q J J λv4 _ h=>S2 6 J<|S4 2 J<|b9 ?_;cases h;exact⟨J,[_],⟨oL J J J p8 o0 nl J,tr⟩,J,io⟩
  ·refine g5 ?_;refine S4 2 J<|b9 ?_;cases h;exact⟨J,[_],⟨oL J J J p8 o0 nl J,tr⟩,J,io⟩

theorem b0l{a0 a1 a2 a3}:PO Tryz.prog 126 [b6.Pv a0,.I a1,.I a2,.I a3] (a0k a0 a1 a2 a3) λr=>.tup [b6.Pv r.1,.I r.2]:=by
 refine pO Tryz.func126 λr h _ _=>?_;unfold a0k at h;refine S4 3 J<|k8<|S3 3 J<|n9 J (λhg=>mI J)<|n9 J (λhg=>oF J c2M J)<|n9 J (λhg=>oS (ct hg) J J c8p J)<|n9 J (λhg=>a4D (f:=e6.Pv) (ct hg) W6)<|n9 J (λhg=>D4 (ct hg) (ct hg) J)<|y0 J (M6 J J J (λq=>eqF q))<|S1 1 J<|n9 J (λhg=>oF J c2N J)<|n9 J (λhg=>oL (ct hg) J J a4R a1u nl J)<|n9 J (λhg=>mI J)<|z6 h λv1 hv1 h=>n9 J (λhg=>U6 J b4P (Y3 (ct hg) (Y3 (ct hg) J)) (P1 hv1 hg))<|y0 J (M6 J J J (λq=>eqF q))<|yN ?_;refine cN h (λhc h=>?_) λhc h=>?_
 ·refine S4 3 J ?_;refine b9 ?_;cases h;exact⟨J,[_,_],⟨oL J J J p8 o0 nl J,⟨J,tr⟩⟩,J,io⟩
 ·refine g5 ?_;refine k8<|S3 2 J<|cA h R9 J J λv2 _ h=>S2 1 J ?_;refine cN h (λhc h=>?_) λhc h=>?_
  ·refine S4 3 J ?_;refine b9 ?_;cases h;exact⟨J,[_,_],⟨oL J J J p8 o0 nl J,⟨J,tr⟩⟩,J,io⟩
  ·refine g5 ?_;refine S3 5 J<|cF h b8R J J λv3 _ h=>S2 7 J<|S4 3 J<|S3 2 J<|cF h a7r J J λv4 _ h=>S1 1 J<|cF h b1l J J λv5 _ h=>S2 2 J<|b9 ?_;cases h;exact⟨J,[_,_],⟨oL J J J p8 o0 nl J,⟨J,tr⟩⟩,J,io⟩

theorem a1G{a0}:PO Tryz.prog 70 [o8.Pv a0] (Q9 a0) λr=>.tup [b6.Pv r.1,.I r.2]:=by
 refine pO Tryz.func70 λr h _ _=>?_;refine S4 3 J<|k8<|S4 4 J ?_;refine cN h (λhc h=>?_) λhc h=>?_
 ·refine S3 8 J ?_;refine cF h b0l J J λv1 _ h=>S2 4 J<|b9 ?_;cases h;exact⟨J,[_,_],⟨oL J J J p8 o0 nl J,⟨J,tr⟩⟩,J,io⟩
 ·refine g5 ?_;refine S3 5 J<|cA h O9 J J λv2 _ h=>S2 5 J<|k8<|S4 2 J ?_;refine cN h (λhc h=>?_) λhc h=>?_
  ·refine S4 5 J ?_;refine b9 ?_;cases h;exact⟨J,[_,_],⟨oL J J J p8 o0 nl J,⟨J,tr⟩⟩,J,io⟩
  ·refine g5 ?_;refine S3 9 J<|cF h b0l J J λv3 _ h=>S2 4 J<|b9 ?_;cases h;exact⟨J,[_,_],⟨oL J J J p8 o0 nl J,⟨J,tr⟩⟩,J,io⟩

theorem b7d{a0 a1}:PO Tryz.prog 127 [.L e6.Pv a0,.I a1] (a5G a0 a1) λr=>.tup [.I r.1,.I r.2]:=by
 refine pO Tryz.func127 λr h _ _=>?_;refine S4 2 J<|k8<|S3 2 J<|cA h b2f J J λv1 _ h=>S2 1 J ?_;refine cN h (λhc h=>?_) λhc h=>?_
 ·refine S4 2 J ?_;refine b9 ?_;cases h;exact f2
 ·refine g5 ?_;refine k8<|S3 2 J<|iL h J J W6 Y1 λv2 hv2 h=>S1 4 J<|n9 J (λhg=>om (d:=.L e6.Pv a0) J)<|n9 J (λhg=>mI J)<|n9 J (λhg=>P0 (f:=e6.Pv) (cs:=e6.Pc v2) hv2 (ct hg) (ct hg) W6 Y1 J J)<|n9 J (λhg=>D9 (ct hg) c1L J)<|n9 J (λhg=>L1 (ct hg) b7q J)<|n9 J (λhg=>a6R (ct hg) J)<|y0 J (M6 J J J (λq=>eqF q))<|yN ?_;refine cN h (λhc h=>?_) λhc h=>?_
  ·refine S4 2 J ?_;refine b9 ?_;cases h;exact f2
  ·refine g5 ?_;refine S3 2 J<|y0 J (P0 (f:=e6.Pv) (cs:=e6.Pc v2) hv2 J J W6 Y1 J J)<|S2 4 J<|b9 ?_;cases h;exact f2

theorem a3W{a0}:PO Tryz.prog 71 [o8.Pv a0] (V2 a0) λr=>.tup [b6.Pv r.1,.I r.2]:=by
 refine pO Tryz.func71 λr h _ _=>?_;unfold V2 at h;refine S4 3 J<|dr [] u5 (by kernel_rfl) (by kernel_rfl)<|S7 7 J<|z6 h λv1 hv1 h=>d2 J (U6 J b7d J hv1) J<|S7 2 J<|z6 h λv2 hv2 h=>X5 J (p6 J F3 J hv2) J<|S7 2 J<|A8 (x':=b6.Pv v2.1) (cl':=true) J J (.inr J) o0<|S8 1 J<|b9 ?_
 cases h;exact⟨J,[_,_],⟨oL J J J p8 o0 nl J,⟨J,tr⟩⟩,J,io⟩

theorem b0i{a0 a1}:PO Tryz.prog 211 [.I a0,.I a1] (a3x a0 a1) λr=>.fn (.func 224) [.rptr [.I r.1],.rptr [.I r.2]]:=by
 refine pO Tryz.func211 λr h _ _=>?_;unfold a3x at h;refine S4 3 J<|S4 2 J<|b9 ?_;cases h;exact f1

theorem b0f{a0 a1}:PO Tryz.prog 225 [.I a0,.I a1] (a0i a0 a1) λr=>.I r:=by
 refine pO Tryz.func225 λr h _ _=>?_;refine S4 1 J<|k8<|S4 2 J ?_;refine cN h (λhc h=>?_) λhc h=>?_
 ·refine S4 1 J ?_;refine b9 ?_;cases h;exact f1
 ·refine g5 ?_;refine S3 4 J<|z6 h λv1 hv1 h=>y0 J (a1I J J hv1)<|S2 1 J<|k8<|S4 2 J ?_;refine cN h (λhc h=>?_) λhc h=>?_
  ·refine S6 4 J ?_;refine S4 2 J<|b9 ?_;cases h;exact f1
  ·refine g5 ?_;refine S4 2 J<|b9 ?_;cases h;exact f1

theorem a54{a0 a1}:PO Tryz.prog 185 [.L b8.Pv a0,.I a1] (W0 a0 a1) λr=>.I r:=by
 refine pO Tryz.func185 λr h _ _=>?_;refine S4 3 J ?_;refine jq h (λ_=>St.of [(4,.ptr 2001 0 0)] [(2001,vR (.I 0) 1)]) (λq9 h=>?_) λκ8 h=>?_
 ·refine S4 1 J ?_;refine b9 ?_;cases h;exact⟨J,[_],⟨oS J J J I6 J,tr⟩,J,io⟩
 ·refine S3 1 J ?_;refine nL J a0Y<|S1 1 J<|cF h b0i J J λv10 _ h=>yN<|l5<|a2O (WPE (λl=>if l=2004 then 4 else if l=2005 then 3 else if l=2006 then 2 else l) [(2,.ptr 2006 0 0),(3,.ptr 2005 0 0),(4,.ptr 2004 0 0),(9,.fn (.func 224) [.rptr [.I v10.1],.rptr [.I v10.2]])] [(2004,vR (.I 0) 1),(2005,vR (.I a1) 1),(2006,vR (.L b8.Pv a0) 1)]) ?_
  refine a1K (fn:=Tryz.f224) (N1:=20) J Tryz.func224 J J nl J c0v J J (λl17 e18 o19 hR20=>?_);refine S4 2 J<|l5<|lq h (λs12=>St.of [(1000002,.ptr 2006 0 0),(1000003,.ptr 2005 0 0),(1000004,.ptr 2004 0 0),(1000009,.fn (.func 224) [.rptr [.I v10.1],.rptr [.I v10.2]]),(0,.fn (.yield l17) []),(1,.rptr [.I v10.1]),(2,.rptr [.I v10.2]),(5,.I v10.1),(6,.I s12)] [(2004,vR (.I 0) 1),(2005,vR (.I a1) 1),(2006,vR (.L b8.Pv a0) 1)]) W λs12 x13 h hx23=>S4 1 J<|k8 ?_;refine cN h (λhc h=>?_) λhc h=>?_
  ·refine g5 ?_;refine k8<|l5<|S4 2 J<|drY [] 8 u5 (by kernel_rfl) (by kernel_rfl) (by kernel_rfl) (by kernel_rfl) nl<|S7 3 J<|z6 h λv14 hv24 h=>d2 J (U6 J b0f J hv24) J<|S7 3 J<|z6 h λv15 hv25 h=>d7 J (λ_ hN=>a1I J J hv25) J<|M5<|c4F (WE [(1000002,.ptr 2006 0 0),(1000003,.ptr 2005 0 0),(1000004,.ptr 2004 0 0),(1000009,.fn (.func 224) [.rptr [.I v10.1],.rptr [.I v10.2]]),(0,.fn (.yield l17) []),(1,.rptr [.I v10.1]),(2,.rptr [.I v10.2]),(5,.I v10.1),(6,.I s12),(9,.fn (.yield l17) []),(16,.I v15)] [(2004,vR (.I 0) 1),(2005,vR (.I a1) 1),(2006,vR (.L b8.Pv a0) 1)]) ?_
   refine b4o J hR20 J J J J J J (λe26 o27 o28=>?_);refine S6 1 J ?_;refine⟨J,?_⟩;refine l5<|k8<|S3 2 J<|iL h J J a0Y a0T λv16 hv29 h=>S2 3 J ?_;refine cN h (λhc h=>?_) λhc h=>?_
   ·refine w8 ?_;refine j5<|a5R (by decide) ?_
    refine⟨J,?_⟩;refine⟨_,b4k [(1000002,.ptr 2006 0 0),(1000003,.ptr 2005 0 0),(1000004,.ptr 2004 0 0),(1000009,.fn (.func 224) [.rptr [.I v10.1],.rptr [.I v10.2]]),(0,.fn (.yield l17) []),(1,.rptr [.I v10.1]),(2,.rptr [.I v10.2]),(5,.I v10.1),(6,.I s12),(17,.bool false)] [(2004,vR (.I 0) 1),(2005,vR (.I a1) 1),(2006,vR (.L b8.Pv a0) 1)] ⟨J,J,J,J,J,J,J,J,J,J,J,J,J,J,J,J,J,J,J,J,J,J,J,J,J,J,J,J,J,J,tr⟩ ⟨rS,rS,rS,tr⟩,?_⟩;refine S8 1 J ?_;refine G7 true J (λ_=>?_) (λq=>nomatch q);refine b9 ?_;refine .inr ⟨.exit 0,J,d2F ?_⟩;refine n8 ?_;have h:=xL hx23 h;exact eJ h (WP (λl=>if l=2001 then 2004 else l))
   ·refine g5 ?_;refine dr [] u5 (by kernel_rfl) (by kernel_rfl)<|S7 2 J<|d0 J (P0 (f:=b8.Pv) (cs:=b8.Pc v16) hv29 J J a0Y a0T J J) J<|S7 4 J<|a3f J (λhg=>oS J J J b5F J) J<|O7 J (λhg _ hN=>mI J) J<|a3f J (λhg=>P0 (f:=b8.Pv) (cs:=b8.Pc v16) hv29 (ct hg) (ct hg) a0Y a0T J J) J<|O7 J (λhg _ hN=>D9 (ct hg) c1M J) J<|a3f J (λhg=>L1 (ct hg) I6 J) J<|a3f J (λhg=>oS J J J I6 J) J<|O7 J (λhg _ hN=>D4 (ct hg) (ct hg) J) J<|d7 J (λ_ hN=>E0 J J J (λq=>eqT q)) J<|M5 ?_
    refine cN h (λhc h=>?_) λhc h=>?_
    ·refine S4 2 J ?_;refine b9 ?_;refine⟨J,?_⟩;refine⟨_,b4k [(1000002,.ptr 2006 0 0),(1000003,.ptr 2005 0 0),(1000004,.ptr 2004 0 0),(1000009,.fn (.func 224) [.rptr [.I v10.1],.rptr [.I v10.2]]),(0,.fn (.yield l17) []),(1,.rptr [.I v10.1]),(2,.rptr [.I v10.2]),(5,.I v10.1),(6,.I s12),(17,.bool false)] [(2004,vR (.I v15) 1),(2005,vR (.I a1) 1),(2006,vR (.L b8.Pv a0) 1)] ⟨J,J,J,J,J,J,J,J,J,J,J,J,J,J,J,J,J,J,J,J,J,J,J,J,J,J,J,J,J,J,tr⟩ ⟨rS,rS,rS,tr⟩,?_⟩;refine S8 1 J ?_;refine G7 true J (λ_=>?_) (λq=>nomatch q);refine b9 ?_;refine .inr ⟨.ret,J,c6w ?_⟩;have h:=xL hx23 h;cases h;exact⟨J,[_],⟨oS J J J I6 J,tr⟩,J,io⟩
    ·refine g5 ?_;refine⟨J,?_⟩;refine⟨_,b4k [(1000002,.ptr 2006 0 0),(1000003,.ptr 2005 0 0),(1000004,.ptr 2004 0 0),(1000009,.fn (.func 224) [.rptr [.I v10.1],.rptr [.I v10.2]]),(0,.fn (.yield l17) []),(1,.rptr [.I v10.1]),(2,.rptr [.I v10.2]),(5,.I v10.1),(6,.I s12),(17,.bool true)] [(2004,vR (.I 0) 1),(2005,vR (.I a1) 1),(2006,vR (.L b8.Pv a0) 1)] ⟨J,J,J,J,J,J,J,J,J,J,J,J,J,J,J,J,J,J,J,J,J,J,J,J,J,J,J,J,J,J,tr⟩ ⟨rS,rS,rS,tr⟩,?_⟩;refine S8 1 J ?_;refine G7 false J (λq=>nomatch q) (λ_=>?_);refine g5<|S6 2 J ?_;exact eL h W
  ·refine w8 ?_;refine j5<|j5<|n8 ?_;refine .inl ⟨J,?_⟩;have h:=xL hx23 h;exact eJ h (WP (λl=>if l=2001 then 2004 else l))

theorem a4u{a0 a1}:PO Tryz.prog 175 [.L b8.Pv a0,.I a1] (J8 a0 a1) λr=>.tup [.I r.1,.I r.2]:=by
 refine pO Tryz.func175 λr h _ _=>?_;refine S4 2 J<|S3 2 J<|cA h a54 J J λv1 _ h=>S2 1 J<|k8<|S4 2 J ?_;refine cN h (λhc h=>?_) λhc h=>?_
 ·refine S4 2 J ?_;refine b9 ?_;cases h;exact f2
 ·refine g5 ?_;refine S3 2 J<|iL h J J a0Y a0T λv2 _ h=>S2 4 J<|b9 ?_;cases h;exact f2

theorem Z9{a0}:PON Tryz.prog 212 [.L b8.Pv a0] (C2 a0) λr=>⟨List.map b8.Pv r,0,true,3,true⟩:=by
 refine pON Tryz.func212 λr h _ _=>?_;unfold C2 at h;refine S4 1 J<|k8<|S3 1 J<|b7f J a0Y λb hb=>yN ?_;refine G7 b J (λhc=>?_) (λhc=>?_)
 ·obtain rfl:a0 = []:=by simpa using hb hc
  refine S4 1 J<|a2O (Y0 (t:=2) (l:=920000) (z:=3) J J)<|b9 ?_;cases h;exact⟨J,_,_,J,J,J,J⟩
 ·refine g5 ?_;refine sR<|y0 J (b3C J a0Y a0T)<|S1 1 J<|y1 J (b76 (f:=b8.Pv) h J J (.inl ⟨_,J,J⟩) a0Y a0T c0t b2u J (λ_=>J)) J<|S2 1 J<|b9 ?_;exact⟨J,_,_,J,J,J,J⟩

theorem a56{a0 a1 a2}:PO Tryz.prog 186 [.L b8.Pv a0,.I a1,b8.Pv a2] (a1h a0 a1 a2) λr=>.L b8.Pv r:=by
 refine pO Tryz.func186 λr h _ _=>?_;unfold a1h at h;refine S4 2 J<|S3 1 J<|z6 h λv1 hv1 h=>ycN J (b5l J Z9 J hv1) J J<|S2 1 J<|S3 3 J<|z6 h λv2 hv2 h=>y0 J (a89 (f:=b8.Pv) hv2 J J J J a0Y a0T J)<|b4n (f:=b8.Pv) (v:=a2) hv2 J J (.inl J) a0T<|yN<|S4 2 J<|b9 ?_;cases h;exact f1

theorem b0e{a0 a1}:PO Tryz.prog 136 [.L b8.Pv a0,.I a1] (V9 a0 a1) λr=>.tup [.L b8.Pv r.1,.I r.2.1,.I r.2.2]:=by
 refine pO Tryz.func136 λr h _ _=>?_;refine S4 3 J<|S3 2 J<|cA h a54 J J λv1 _ h=>S2 1 J<|k8<|S4 2 J ?_;refine cN h (λhc h=>?_) λhc h=>?_
 ·refine S4 4 J ?_;refine b9 ?_;cases h;exact f3
 ·refine g5 ?_;refine dr [] u5 (by kernel_rfl) (by kernel_rfl)<|S7 2 J<|d7 J (λ_ hN=>u7 (cs:=[.I 2,.I 0,.I 0]) J c0y b2u J J J) J<|z6 h λv2 hv2 h=>X5 J (p6 J a56 J hv2) J<|S7 2 J<|z6 h λv3 hv3 h=>d0 J (P0 (f:=b8.Pv) (cs:=b8.Pc v3) hv3 J J a0Y a0T J J) J<|S8 5 J<|b9 ?_
  cases h;exact f3

theorem b7P{a0 a1 a2}:PO Tryz.prog 207 [.L b8.Pv a0,.I a1,.I a2] (a7p a0 a1 a2) λr=>.tup [.L b8.Pv r.1,.I r.2]:=by
 refine pO Tryz.func207 λr h _ _=>?_;refine S4 3 J<|S3 2 J<|y0 J (u7 (cs:=[.I 1,.I a1,.I a2]) J c0y b2u J J J)<|S2 2 J<|k8<|S3 2 J<|cA h a54 J J λv1 _ h=>S2 1 J<|S4 2 J ?_;refine cN h (λhc h=>?_) λhc h=>?_
 ·refine S3 3 J ?_;refine cF h a56 J J λv2 _ h=>S2 2 J<|b9 ?_;cases h;exact⟨J,[_,_],⟨oS J J J b5F J,⟨oS J J J a4S J,tr⟩⟩,J,io⟩
 ·refine g5 ?_;refine jq h (λ_=>St.of [(3,.ptr 2004 0 0),(6,.ptr 2003 0 0),(7,.ptr 2002 0 0)] [(2002,vR (.I 0) 1),(2003,vR (.nl) 1),(2004,vR (.L b8.Pv a0) 1)]) (λq12 h=>?_) λκ11 h=>?_
  ·refine S4 3 J ?_;refine b9 ?_;cases h;exact⟨J,[_,_],⟨oS J J J b5F J,⟨oS J J J a4S J,tr⟩⟩,J,io⟩
  ·refine S3 1 J ?_;refine nL J a0Y<|S1 1 J<|cF h b0i J J λv13 _ h=>yN<|l5<|a2O (WPE (λl=>if l=2005 then 8 else if l=2006 then 7 else if l=2007 then 6 else if l=2008 then 3 else l) [(3,.ptr 2008 0 0),(6,.ptr 2007 0 0),(7,.ptr 2006 0 0),(8,.ptr 2005 0 0),(26,.fn (.func 224) [.rptr [.I v13.1],.rptr [.I v13.2]])] [(2005,vR (.agg [.I 1,.I a1,.I a2]) 3),(2006,vR (.I 0) 1),(2007,vR (.nl) 1),(2008,vR (.L b8.Pv a0) 1)]) ?_
   refine a1K (fn:=Tryz.f224) (N1:=20) J Tryz.func224 J J nl J c0v J J (λl20 e21 o22 hR23=>?_);refine S4 2 J<|l5<|lq h (λs15=>St.of [(1000003,.ptr 2008 0 0),(1000006,.ptr 2007 0 0),(1000007,.ptr 2006 0 0),(1000008,.ptr 2005 0 0),(1000026,.fn (.func 224) [.rptr [.I v13.1],.rptr [.I v13.2]]),(0,.fn (.yield l20) []),(1,.rptr [.I v13.1]),(2,.rptr [.I v13.2]),(5,.I v13.1),(6,.I s15)] [(2005,vR (.agg [.I 1,.I a1,.I a2]) 3),(2006,vR (.I 0) 1),(2007,vR (.nl) 1),(2008,vR (.L b8.Pv a0) 1)]) W λs15 x16 h hx26=>S4 1 J<|k8 ?_;refine cN h (λhc h=>?_) λhc h=>?_
   ·refine g5 ?_;refine k8<|l5<|S4 2 J<|drY [] 8 u5 (by kernel_rfl) (by kernel_rfl) (by kernel_rfl) (by kernel_rfl) nl<|S7 3 J<|z6 h λv17 hv27 h=>d2 J (U6 J b0f J hv27) J<|S7 3 J<|z6 h λv18 hv28 h=>d7 J (λ_ hN=>a1I J J hv28) J<|M5<|c4F (WE [(1000003,.ptr 2008 0 0),(1000006,.ptr 2007 0 0),(1000007,.ptr 2006 0 0),(1000008,.ptr 2005 0 0),(1000026,.fn (.func 224) [.rptr [.I v13.1],.rptr [.I v13.2]]),(0,.fn (.yield l20) []),(1,.rptr [.I v13.1]),(2,.rptr [.I v13.2]),(5,.I v13.1),(6,.I s15),(9,.fn (.yield l20) []),(16,.I v18)] [(2005,vR (.agg [.I 1,.I a1,.I a2]) 3),(2006,vR (.I 0) 1),(2007,vR (.nl) 1),(2008,vR (.L b8.Pv a0) 1)]) ?_
    refine b4o J hR23 J J J J J J (λe29 o30 o31=>?_);refine S6 1 J ?_;refine⟨J,?_⟩;refine l5<|S3 2 J<|iL h J J a0Y a0T λv19 _ h=>S2 3 J ?_;refine cN h (λhc h=>?_) λhc h=>?_
    ·refine S3 3 J ?_;refine cF h a56 J J λv20 _ h=>S2 2 J<|b9 ?_;refine⟨J,?_⟩;refine⟨_,b4k [(1000003,.ptr 2008 0 0),(1000006,.ptr 2007 0 0),(1000007,.ptr 2006 0 0),(1000008,.ptr 2005 0 0),(1000026,.fn (.func 224) [.rptr [.I v13.1],.rptr [.I v13.2]]),(0,.fn (.yield l20) []),(1,.rptr [.I v13.1]),(2,.rptr [.I v13.2]),(5,.I v13.1),(6,.I s15),(17,.bool false)] [(2005,vR (.agg [.I 1,.I a1,.I a2]) 3),(2006,vR (.I 0) 1),(2007,vR (.L b8.Pv v20) 1),(2008,vR (.L b8.Pv a0) 1)] ⟨J,J,J,J,J,J,J,J,J,J,J,J,J,J,J,J,J,J,J,J,J,J,J,J,J,J,J,J,J,J,J,J,J,tr⟩ ⟨rS,rS,rS,rS,tr⟩,?_⟩;refine S8 1 J ?_;refine G7 true J (λ_=>?_) (λq=>nomatch q);refine b9 ?_;refine .inr ⟨.ret,J,c6w ?_⟩;have h:=xL hx26 h;cases h;exact⟨J,[_,_],⟨oS J J J b5F J,⟨oS J J J a4S J,tr⟩⟩,J,io⟩
    ·refine g5 ?_;refine⟨J,?_⟩;refine⟨_,b4k [(1000003,.ptr 2008 0 0),(1000006,.ptr 2007 0 0),(1000007,.ptr 2006 0 0),(1000008,.ptr 2005 0 0),(1000026,.fn (.func 224) [.rptr [.I v13.1],.rptr [.I v13.2]]),(0,.fn (.yield l20) []),(1,.rptr [.I v13.1]),(2,.rptr [.I v13.2]),(5,.I v13.1),(6,.I s15),(17,.bool true)] [(2005,vR (.agg [.I 1,.I a1,.I a2]) 3),(2006,vR (.I 0) 1),(2007,vR (.nl) 1),(2008,vR (.L b8.Pv a0) 1)] ⟨J,J,J,J,J,J,J,J,J,J,J,J,J,J,J,J,J,J,J,J,J,J,J,J,J,J,J,J,J,J,J,J,J,tr⟩ ⟨rS,rS,rS,rS,tr⟩,?_⟩;refine S8 1 J ?_;refine G7 false J (λq=>nomatch q) (λ_=>?_);refine g5<|S6 2 J ?_;exact eL h W
   ·refine w8 ?_;refine j5<|j5<|n8 ?_;refine .inl ⟨J,?_⟩;have h:=xL hx26 h;exact eJ h (WP (λl=>if l=2004 then 2008 else if l=2003 then 2007 else if l=2002 then 2006 else l))

theorem b50{a0 a1 a2}:PO Tryz.prog 173 [.L b8.Pv a0,.I a1,.I a2] (R6 a0 a1 a2) λr=>.tup [.L b8.Pv r.1,.I r.2.1,.I r.2.2]:=by
 refine pO Tryz.func173 λr h _ _=>?_;refine S4 3 J<|k8<|S4 2 J ?_;refine cN h (λhc h=>?_) λhc h=>?_
 ·refine S4 4 J ?_;refine b9 ?_;cases h;exact f3
 ·refine g5 ?_;refine S3 2 J<|cA h a4u J J λv1 _ h=>S2 5 J<|k8<|S4 2 J ?_;refine cN h (λhc h=>?_) λhc h=>?_
  ·refine S3 2 J ?_;refine cF h b0e J J λv2 _ h=>S2 7 J<|S4 5 J<|b9 ?_;cases h;exact f3
  ·refine g5 ?_;refine S3 3 J<|cF h b7P J J λv3 _ h=>S2 5 J<|k8<|S4 2 J ?_;refine cN h (λhc h=>?_) λhc h=>?_
   ·refine S4 5 J ?_;refine b9 ?_;cases h;exact f3
   ·refine g5 ?_;refine S4 5 J<|b9 ?_;cases h;exact f3

theorem a61{a0 a1}:PO Tryz.prog 174 [G3.Pv a0,b6.Pv a1] (U4 a0 a1) λr=>b6.Pv r:=by
 refine pO Tryz.func174 λr h _ _=>?_;unfold U4 at h;refine S4 3 J<|S4 4 J<|S4 2 J<|b9 ?_;cases h;exact⟨J,[_],⟨oL J J J p8 o0 nl J,tr⟩,J,io⟩

theorem a02{a0 a1 a2 a3}:PO Tryz.prog 166 [b6.Pv a0,.I a1,.I a2,.abs (BFn 174 [G3.Pv a3])] (H6 a0 a1 a2 a3) λr=>b6.Pv r:=by
 refine pO Tryz.func166 λr h _ _=>?_;refine S4 2 J<|S3 3 J<|cF h a1B J J λv1 _ h=>z6 h λv2 hv2 h=>b7e (xs:=[b6.Pv v1]) J J c5N J (a61.2 _ hv2)<|S1 1 J<|cF h V1 J J λv3 _ h=>S2 1 J<|b9 ?_;cases h;exact⟨J,[_],⟨oL J J J p8 o0 nl J,tr⟩,J,io⟩

theorem b6g{a0 a1 a2}:PO Tryz.prog 128 [b6.Pv a0,.I a1,.I a2] (a3y a0 a1 a2) λr=>.tup [b6.Pv r.1,.I r.2]:=by
 refine pO Tryz.func128 λr h _ _=>?_;refine S4 3 J<|k8<|S4 2 J ?_;refine cN h (λhc h=>?_) λhc h=>?_
 ·refine S4 3 J ?_;refine b9 ?_;cases h;exact⟨J,[_,_],⟨oL J J J p8 o0 nl J,⟨J,tr⟩⟩,J,io⟩
 ·refine g5 ?_;refine k8<|S3 2 J<|cA h R9 J J λv1 _ h=>S1 2 J<|n9 J (λhg=>oL J J J p8 o0 nl J)<|n9 J (λhg=>mI J)<|z6 h λv2 hv2 h=>n9 J (λhg=>U6 J R9 (Y3 (ct hg) (Y3 (ct hg) J)) (P1 hv2 hg))<|n9 J (λhg=>a6R (ct hg) J)<|y0 J (M6 J J J (λq=>eqF q))<|yN ?_;refine cN h (λhc h=>?_) λhc h=>?_
  ·refine S4 3 J ?_;refine b9 ?_;cases h;exact⟨J,[_,_],⟨oL J J J p8 o0 nl J,⟨J,tr⟩⟩,J,io⟩
  ·refine g5 ?_;refine S3 4 J<|cF h b50 J J λv3 _ h=>S2 7 J<|k8<|S4 2 J ?_;refine cN h (λhc h=>?_) λhc h=>?_
   ·refine S4 4 J ?_;refine b9 ?_;cases h;exact⟨J,[_,_],⟨oL J J J p8 o0 nl J,⟨J,tr⟩⟩,J,io⟩
   ·refine g5 ?_;refine S3 4 J<|y0 J (u7 (cs:=[.L b8.Pv v3.1]) J c5X c55 J J J)<|y0 J (b1s (d:=.agg [.L b8.Pv v3.1]) J)<|cF h a02 J J λv4 _ h=>S2 2 J<|b9 ?_;cases h;exact⟨J,[_,_],⟨oL J J J p8 o0 nl J,⟨J,tr⟩⟩,J,io⟩

theorem a2M{a0}:PO Tryz.prog 72 [o8.Pv a0] (Y6 a0) λr=>.tup [b6.Pv r.1,.I r.2]:=by
 refine pO Tryz.func72 λr h _ _=>?_;refine S4 3 J<|S3 5 J<|cA h O9 J J λv1 _ h=>S2 5 J<|k8<|S4 2 J ?_;refine cN h (λhc h=>?_) λhc h=>?_
 ·refine S4 5 J ?_;refine b9 ?_;cases h;exact⟨J,[_,_],⟨oL J J J p8 o0 nl J,⟨J,tr⟩⟩,J,io⟩
 ·refine g5 ?_;refine dr [] u5 (by kernel_rfl) (by kernel_rfl)<|S7 8 J<|z6 h λv2 hv2 h=>d2 J (U6 J L0 J hv2) J<|z6 h λv3 hv3 h=>X5 J (p6 J b6g J hv3) J<|S7 2 J<|A8 (x':=b6.Pv v3.1) (cl':=true) J J (.inr J) o0<|S8 1 J<|b9 ?_
  cases h;exact⟨J,[_,_],⟨oL J J J p8 o0 nl J,⟨J,tr⟩⟩,J,io⟩

theorem b5Z{a0 a1}:PO Tryz.prog 129 [.L b8.Pv a0,.I a1] (b1b a0 a1) λr=>.tup [.I r.1,.I r.2]:=by
 refine pO Tryz.func129 λr h _ _=>?_;refine S4 2 J<|S3 2 J<|cA h a4u J J λv1 _ h=>S2 4 J<|b9 ?_;cases h;exact f2

theorem a3h{a0}:PO Tryz.prog 73 [o8.Pv a0] (a0l a0) λr=>.tup [b6.Pv r.1,.I r.2]:=by
 refine pO Tryz.func73 λr h _ _=>?_;refine S4 3 J<|S3 5 J<|cA h O9 J J λv1 _ h=>S2 5 J<|k8<|S4 2 J ?_;refine cN h (λhc h=>?_) λhc h=>?_
 ·refine S4 5 J ?_;refine b9 ?_;cases h;exact⟨J,[_,_],⟨oL J J J p8 o0 nl J,⟨J,tr⟩⟩,J,io⟩
 ·refine g5 ?_;refine dr [] u5 (by kernel_rfl) (by kernel_rfl)<|S7 5 J<|z6 h λv2 hv2 h=>d2 J (U6 J b5Z J hv2) J<|S7 2 J<|z6 h λv3 hv3 h=>X5 J (p6 J F3 J hv3) J<|S7 2 J<|A8 (x':=b6.Pv v3.1) (cl':=true) J J (.inr J) o0<|S8 1 J<|b9 ?_
  cases h;exact⟨J,[_,_],⟨oL J J J p8 o0 nl J,⟨J,tr⟩⟩,J,io⟩

theorem a10{a0}:PO Tryz.prog 74 [o8.Pv a0] (N5 a0) λr=>.tup [b6.Pv r.1,.I r.2]:=by
 refine pO Tryz.func74 λr h _ _=>?_;unfold N5 at h;refine S4 3 J<|S4 4 J<|b9 ?_;cases h;exact⟨J,[_,_],⟨oL J J J p8 o0 nl J,⟨J,tr⟩⟩,J,io⟩

theorem b9t{f:Fv}{a0:o8}{r:b6 × Int}(h:b2A f a0=some r):∃n,f=some n∧A3 Tryz.prog n∧W4 Tryz.prog n [o8.Pv a0] (.tup [b6.Pv r.1,.I r.2]):=by
 unfold b2A at h;by_cases e65:f=some 65
 ·rw[if_pos e65] at h;exact⟨65,e65,(@a1F a0).1,(@a1F a0).2 _ h⟩
 rw[if_neg e65] at h;by_cases e66:f=some 66
 ·rw[if_pos e66] at h;exact⟨66,e66,(@a0u a0).1,(@a0u a0).2 _ h⟩
 rw[if_neg e66] at h;by_cases e67:f=some 67
 ·rw[if_pos e67] at h;exact⟨67,e67,(@a2K a0).1,(@a2K a0).2 _ h⟩
 rw[if_neg e67] at h;by_cases e68:f=some 68
 ·rw[if_pos e68] at h;exact⟨68,e68,(@a2L a0).1,(@a2L a0).2 _ h⟩
 rw[if_neg e68] at h;by_cases e69:f=some 69
 ·rw[if_pos e69] at h;exact⟨69,e69,(@a11 a0).1,(@a11 a0).2 _ h⟩
 rw[if_neg e69] at h;by_cases e70:f=some 70
 ·rw[if_pos e70] at h;exact⟨70,e70,(@a1G a0).1,(@a1G a0).2 _ h⟩
 rw[if_neg e70] at h;by_cases e71:f=some 71
 ·rw[if_pos e71] at h;exact⟨71,e71,(@a3W a0).1,(@a3W a0).2 _ h⟩
 rw[if_neg e71] at h;by_cases e72:f=some 72
 ·rw[if_pos e72] at h;exact⟨72,e72,(@a2M a0).1,(@a2M a0).2 _ h⟩
 rw[if_neg e72] at h;by_cases e73:f=some 73
 ·rw[if_pos e73] at h;exact⟨73,e73,(@a3h a0).1,(@a3h a0).2 _ h⟩
 rw[if_neg e73] at h;by_cases e74:f=some 74
 ·rw[if_pos e74] at h;exact⟨74,e74,(@a10 a0).1,(@a10 a0).2 _ h⟩
 rw[if_neg e74] at h;cases h

theorem a5c{a0}:PO Tryz.prog 97 [.I a0] (a0G a0) λr=>.bool r:=by
 refine pO Tryz.func97 λr h _ _=>?_;unfold a0G at h;refine S4 1 J<|S4 4 J<|b9 ?_;cases h;exact f1

theorem a9m{a0 a1}:PO Tryz.prog 53 [.I a0,.I a1] (a2X a0 a1) λr=>.I r:=by
 refine pO Tryz.func53 λr h _ _=>?_;refine S4 1 J<|S3 1 J<|cA h a5c J J λv1 _ h=>S2 1 J<|S3 1 J<|cA h a5c J J λv2 _ h=>S2 1 J<|k8<|S4 1 J ?_;refine cN h (λhc h=>?_) λhc h=>?_
 ·refine k8 ?_;refine S4 1 J ?_;refine cN h (λhc h=>?_) λhc h=>?_
  ·refine S4 1 J ?_;refine b9 ?_;cases h;exact f1
  ·refine g5 ?_;refine S4 1 J<|b9 ?_;cases h;exact f1
 ·refine g5 ?_;refine k8<|S4 1 J ?_;refine cN h (λhc h=>?_) λhc h=>?_
  ·refine S4 1 J ?_;refine b9 ?_;cases h;exact f1
  ·refine g5 ?_;refine k8<|S4 3 J ?_;refine cN h (λhc h=>?_) λhc h=>?_
   ·refine S4 1 J ?_;refine b9 ?_;cases h;exact f1
   ·refine g5 ?_;refine k8<|S4 3 J ?_;refine cN h (λhc h=>?_) λhc h=>?_
    ·refine S4 1 J ?_;refine b9 ?_;cases h;exact f1
    ·refine g5 ?_;refine S4 1 J<|b9 ?_;cases h;exact f1

theorem b2q{a0 a1 a2}:PO Tryz.prog 52 [.I a0,.I a1,.rptr [.abs (U9 (List.map (ent iF iF) a2))]] (a3u a0 a1 a2) λr=>.I r:=by
 refine pO Tryz.func52 λr h _ _=>?_;refine S4 1 J<|S3 2 J<|y0 J (b77 (es:=a2) (k:=a0) (E:=iF) (EK:=iF) (d:=.I ((A1 a2 a0).getD (0:Int))) J J b21 (y6 J6) F1 J (lk1 _ _ _))<|S1 2 J<|y0 J (b77 (es:=a2) (k:=a1) (E:=iF) (EK:=iF) (d:=.I ((A1 a2 a1).getD (0:Int))) J J b21 (y6 J6) F1 J (lk1 _ _ _))<|cA h a9m J J λv1 _ h=>S2 1 J<|b9 ?_;cases h;exact f1

theorem J4{a0}:PO Tryz.prog 33 [a7.Pv a0] (C3 a0) λr=>.L iF r:=by
 refine pO Tryz.func33 λr h _ _=>?_;refine S4 2 J<|S4 1 J<|sR<|b8U (KT:=Int) (VT:=Int) (EK:=iF) (E:=iF) 5000008 J J<|S2 2 J ?_;refine jq h (λq=>St.of [(3,.sl 910003),(4,.ptr 4 0 0)] [(4,vS (.mp 5000008) 1),(5000008,⟨[.mapc (List.map (ent iF iF) q.1)],0,false,0,false⟩),(910003,⟨List.map iF q.2,0,true,1,true⟩)]) (λq20 h=>?_) λκ17 h=>?_
 ·obtain⟨j18,j19⟩:=q20;refine S3 2 J<|Q7 (Wk.trans (c7E 5000008 nl J) (d0r 4 0 5000008 J J J J))<|z6 h λv21 hv12 h=>d0u hv12 J J c8t d0e J J J c8u J J J J J (λp q r h=>b2q.2 r h)<|yN<|S4 2 J<|b9 ?_;cases h;exact f1
 ·refine S3 3 J ?_;refine nL J R3<|S2 1 J<|l5<|lq h (λq=>St.of [(3,.sl 910003),(4,.ptr 4 0 0),(11,.L b7.Pv a0.S.a8),(12,.I (a0.S.a8.length:Int)),(13,.I q.1)] [(4,vS (.mp 5000008) 1),(5000008,⟨[.mapc (List.map (ent iF iF) q.2.1)],0,false,0,false⟩),(910003,⟨List.map iF q.2.2,0,true,1,true⟩)]) (Wk.trans (Y0 (t:=3) (l:=920003) (z:=1) J J) (WP (λl=>if l=910003 then 920003 else l))) λq27 x26 h hx15=>?_
  obtain⟨s23,s24,s25⟩:=q27;refine S4 1 J<|k8 ?_;refine cN h (λhc h=>?_) λhc h=>?_
  ·refine g5 ?_;refine jq h (λq=>St.of [(3,.sl 33),(4,.ptr 4 0 0),(11,.L b7.Pv a0.S.a8),(12,.I (a0.S.a8.length:Int)),(13,.I s23)] [(4,vS (.mp 5000008) 1),(5000008,⟨[.mapc (List.map (ent iF iF) q.1)],0,false,0,false⟩),(33,⟨List.map iF q.2,0,true,1,true⟩)]) (λq34 h=>?_) λκ31 h=>?_
   ·obtain⟨j32,j33⟩:=q34;refine S6 2 J ?_;exact eL h (WP (λl=>if l=910003 then 33 else l))
   ·refine l5 ?_;refine S3 1 J<|iL h J J R3 a0w λv35 _ h=>S2 4 J<|S4 3 J ?_;refine cN h (λhc h=>?_) λhc h=>?_
    ·refine S3 3 J ?_;refine cA h a7n J J λv36 _ h=>S2 1 J<|S3 5 J<|a0D (es:=s24) (k:=v36) (v:=v35.Val.Serial) (E:=iF) (EK:=iF) (.inl J) J J J J J J b21 (y6 J6)<|yN<|S5 2 J<|y0 J (X7 (f:=iF) (l:=[v36]) J n0 u4 F1 J J nl J J)<|z6 h λv37 hv22 h=>c8k (f:=iF) (b:=8) [(4,.ptr 4 0 0),(11,.L b7.Pv a0.S.a8),(12,.I (a0.S.a8.length:Int)),(13,.I s23),(14,.bool (decide (s23<(a0.S.a8.length:Int)))),(15,.I s23),(16,.rptr (b7.Pc v35)),(17,b7.Pv v35),(6,.ptr 6 0 0),(5,.I s23),(18,.ptr 6 0 0),(19,.I v35.State),(20,.bool (v35.State==1)),(21,.I s23),(22,.ptr 6 0 1),(23,.I v35.Gen),(24,.I v36),(7,.I v36),(25,.mp 5000008),(26,.I v36),(27,.ptr 6 0 2),(28,.ptr 6 0 2),(29,.I v35.Val.Serial),(31,.I v36),(32,.N4 true (List.map iF [v36]))] [(6,vR (b7.Pv v35) 8),(5000008,⟨[.mapc (List.map (ent iF iF) (o6 s24 v36 v35.Val.Serial))],0,false,0,false⟩),(4,vS (.mp 5000008) 1)] J hv22 ⟨J,J,J,J,J,J,J,J,J,J,J,J,J,J,J,J,J,J,J,J,J,J,J,J,J,J,J,J,J,J,J,J,J,J,J,J,J,J,J,J,J,J,J,J,J,J,J,J,J,J,J,J,J,J,J,J,J,J,J,J,J,J,J,J,J,J,J,J,J,J,J,J,J,J,J,tr⟩ ⟨rS,a2n J J J (λq=>nomatch q) J J J J,a2n J J J (λq=>nomatch q) J J J J,tr⟩ J J J J (.inl ⟨_,J,J⟩) n0 u4 Y9 F1 J (λ_=>J)<|S2 1 J ?_;exact eJ h W
    ·refine g5 ?_;exact eJ h (WP (λl=>if l=33 then 910003 else l))
  ·refine w8 ?_;refine j5<|j5<|n8 ?_;have h:=xL hx15 h;exact eJ h W

theorem b37{a0}:PO Tryz.prog 75 [b6.Pv a0] (a1m a0) λr=>.L iF r:=by
 refine pO Tryz.func75 λr h _ _=>?_;refine S4 2 J<|S4 1 J ?_;refine jq h (λj16=>St.of [(3,.sl 910003)] [(910003,⟨List.map iF j16,(List.map iF j16).length,true,1,true⟩)]) (λj16 h=>?_) λκ15 h=>?_
 ·refine S4 2 J ?_;refine b9 ?_;cases h;exact f1
 ·refine S3 2 J ?_;refine cF h J4 J J λv17 _ h=>nL J n0<|S2 1 J<|l5<|lq h (λq=>St.of [(1,.ptr 1 0 0),(3,.sl 910003),(10,.L iF v17),(11,.I (v17.length:Int)),(12,.I q.1)] [(1,vR (b6.Pv a0) 8),(910003,⟨List.map iF q.2,(List.map iF q.2).length,true,1,true⟩)]) (Wk.trans (Y0 (t:=3) (l:=920003) (z:=1) J J) (WP (λl=>if l=910003 then 920003 else l))) λq22 x21 h hx16=>?_
  obtain⟨s19,s20⟩:=q22;refine S4 1 J<|k8 ?_;refine cN h (λhc h=>?_) λhc h=>?_
  ·refine g5 ?_;refine jq h (λj27=>St.of [(1,.ptr 1 0 0),(3,.sl 29),(10,.L iF v17),(11,.I (v17.length:Int)),(12,.I s19)] [(29,⟨List.map iF j27,(List.map iF j27).length,true,1,true⟩),(1,vR (b6.Pv a0) 8)]) (λj27 h=>?_) λκ26 h=>?_
   ·refine S6 2 J ?_;exact eL h (Wk.trans (s6 _ [29]) (WP (λl=>if l=910003 then 29 else l)))
   ·refine l5 ?_;refine sR<|iL h J J n0 u4 λv28 _ h=>S2 2 J<|S3 3 J<|cF h A6 J J λv29 _ h=>S2 6 J<|S4 3 J ?_;refine cN h (λhc h=>?_) λhc h=>?_
    ·refine S5 2 J ?_;refine y0 J (X7 (f:=iF) (l:=[v28]) J n0 u4 F1 J J nl J J)<|z6 h λv30 hv23 h=>a16 J (a1H (f:=iF) hv23 J J J J J J (.inl ⟨_,J,J⟩) n0 u4 Y9 F1 J (λ_=>J)) J J J<|S2 1 J ?_;exact eJ h (Wk.trans (s6 _ [29]) W)
    ·refine g5 ?_;exact eJ h (Wk.trans (s6 _ [910003]) (WP (λl=>if l=29 then 910003 else l)))
  ·refine w8 ?_;refine j5<|j5<|n8 ?_;have h:=xL hx16 h;exact eJ h (Wk.trans (s6 _ [910003]) W)

theorem a4I{a0}:PO Tryz.prog 76 [m7.Pv a0] (K0 a0) λr=>.bool r:=by
 refine pO Tryz.func76 λr h _ _=>?_;unfold K0 at h;refine S4 2 J<|S3 4 J<|n9 J (λhg=>oF J b7s J)<|n9 J (λhg=>oS (ct hg) J J b7q J)<|n9 J (λhg=>a6R (ct hg) J)<|y0 J (E0 J J J (λq=>eqT q))<|S2 1 J<|b9 ?_;cases h;exact f1

theorem M2{a0}:PO Tryz.prog 177 [c9.Pv a0] (H2 a0) λr=>.I r:=by
 refine pO Tryz.func177 λr h _ _=>?_;unfold H2 at h;refine S4 2 J<|S3 2 J<|nL J a69<|S2 1 J<|b9 ?_;cases h;exact f1

theorem T3{a0 a1 a2}:PO Tryz.prog 178 [.L k9.Pv a0,.I a1,.I a2] (D7 a0 a1 a2) λr=>.N4 true (List.map k9.Pv r):=by
 refine pO Tryz.func178 λr h _ _=>?_;unfold D7 at h;refine S4 1 J<|S3 4 J<|z6 h λv1 hv1 h=>y0 J (c4n (f:=k9.Pv) hv1 J ⟨_,J⟩ ⟨_,J⟩ ⟨_,J⟩ J J a69 K5 (λ_=>J))<|S2 1 J<|b9 ?_;cases h;exact f1

theorem a5p{a0 a1}:PO Tryz.prog 131 [c9.Pv a0,k9.Pv a1] (P2 a0 a1) λr=>.tup [c9.Pv r.1,.I r.2]:=by
 refine pO Tryz.func131 λr h _ _=>?_;unfold P2 at h;refine S4 4 J<|k8<|dr [] u5 (by kernel_rfl) (by kernel_rfl)<|S7 1 J<|z6 h λv1 hv1 h=>d2 J (U6 J M2 J hv1) J<|S8 3 J ?_
 refine cN h (λhc h=>?_) λhc h=>?_
 ·refine S4 3 J ?_;refine b9 ?_;cases h;exact⟨J,[_,_],⟨oL J J J a4R a1u nl J,⟨J,tr⟩⟩,J,io⟩
 ·refine g5 ?_;refine dr [] u5 (by kernel_rfl) (by kernel_rfl)<|S7 3 J<|d2 J (U6 J M2 J hv1) J<|z6 h λv2 hv2 h=>X5 J (p6 J T3 J hv2) J<|S7 1 J<|d1n J (X7 (f:=k9.Pv) (l:=[a1]) J a69 K5 a9U J J nl J J) J<|z6 h λv3 hv3 h=>d3 J (b76 (f:=k9.Pv) hv3 J J (.inl ⟨_,J,J⟩) a69 K5 c5L a9U J (λ_=>J)) J J J<|S7 1 J<|A8 (x':=.agg [.sl 19,.I a0.Cap]) (cl':=false) J J (.inl J) c20<|M5<|S4 3 J<|b9 ?_
  cases h;exact⟨J,[_,_],⟨oL J J J a4R a1u nl J,⟨J,tr⟩⟩,J,io⟩

theorem b2d{a0 a1}:PO Tryz.prog 82 [c9.Pv a0,k9.Pv a1] (a7W a0 a1) λr=>.tup [c9.Pv r.1,.I r.2]:=by
 refine pO Tryz.func82 λr h _ _=>?_;refine S4 4 J<|S3 2 J<|cF h a5p J J λv1 _ h=>S2 4 J<|b9 ?_;cases h;exact⟨J,[_,_],⟨oL J J J a4R a1u nl J,⟨J,tr⟩⟩,J,io⟩

theorem a5B{a0 a1}:PO Tryz.prog 45 [b6.Pv a0,.I a1] (Q4 a0 a1) λr=>b6.Pv r:=by
 refine pO Tryz.func45 λr h _ _=>?_;refine S4 2 J<|S3 3 J<|cF h A6 J J λv1 _ h=>S2 6 J<|k8<|S3 3 J<|n9 J (λhg=>oL J J J b2Z a7b nl J)<|z6 h λv2 hv2 h=>n9 J (λhg=>U6 J a4I (Y3 (ct hg) J) (P1 hv2 hg))<|n9 J (λhg=>a6R (ct hg) J)<|y0 J (M6 J J J (λq=>eqF q))<|yN ?_;refine cN h (λhc h=>?_) λhc h=>?_
 ·refine S4 2 J ?_;refine b9 ?_;cases h;exact⟨J,[_],⟨oL J J J p8 o0 nl J,tr⟩,J,io⟩
 ·refine g5 ?_;refine S4 2 J<|S3 4 J<|cF h a0r J J λv3 _ h=>S2 5 J<|S3 5 J<|y0 J (u7 (cs:=[.I 1,.I a1,.I v1.1.Prog]) J b5H a9U J J J)<|cF h b2d J J λv4 _ h=>S2 5 J<|S3 2 J<|cF h a1B J J λv5 _ h=>S2 1 J<|b9 ?_;cases h;exact⟨J,[_],⟨oL J J J p8 o0 nl J,tr⟩,J,io⟩

theorem a8R{a0 a1}:PO Tryz.prog 84 [b6.Pv a0,.L iF a1] (T4 a0 a1) λr=>.L iF r:=by
 refine pO Tryz.func84 λr h _ _=>?_;refine S4 2 J<|sR<|b8U (KT:=Int) (VT:=Bool) (EK:=iF) (E:=PV.bool) 5000011 J J<|S2 1 J<|S4 1 J ?_;refine jq h (λj18=>St.of [(6,.sl 910006)] [(910006,⟨List.map iF j18,(List.map iF j18).length,true,1,true⟩)]) (λj18 h=>?_) λκ17 h=>?_
 ·refine S4 2 J ?_;refine b9 ?_;cases h;exact f1
 ·refine S3 1 J ?_;refine nL J n0<|S2 1 J<|l5<|lq h (λq=>St.of [(2,.ptr 2 0 0),(5,.mp 5000011),(6,.sl 910006),(12,.L iF a1),(13,.I (a1.length:Int)),(14,.I q.1)] [(5000011,⟨[.mapc (List.map (ent iF PV.bool) q.2.1)],0,false,0,false⟩),(2,vR (b6.Pv a0) 8),(910006,⟨List.map iF q.2.2,(List.map iF q.2.2).length,true,1,true⟩)]) (Wk.trans (Y0 (t:=6) (l:=920006) (z:=1) J J) (WP (λl=>if l=910006 then 920006 else l))) λq24 x23 h hx16=>?_
  obtain⟨s20,s21,s22⟩:=q24;refine S4 1 J<|k8 ?_;refine cN h (λhc h=>?_) λhc h=>?_
  ·refine g5 ?_;refine jq h (λq=>St.of [(2,.ptr 2 0 0),(5,.mp 5000011),(6,.sl 38),(12,.L iF a1),(13,.I (a1.length:Int)),(14,.I s20)] [(38,⟨List.map iF q.1,(List.map iF q.1).length,true,1,true⟩),(5000011,⟨[.mapc (List.map (ent iF PV.bool) q.2)],0,false,0,false⟩),(2,vR (b6.Pv a0) 8)]) (λq31 h=>?_) λκ28 h=>?_
   ·obtain⟨j29,j30⟩:=q31;refine S6 2 J ?_;exact eL h (Wk.trans (s6 _ [38]) (WP (λl=>if l=910006 then 38 else l)))
   ·refine l5 ?_;refine sR<|iL h J J n0 u4 λv32 _ h=>S2 2 J<|S3 3 J<|cF h A6 J J λv33 _ h=>S2 6 J<|S3 3 J<|n9 J (λhg=>om (d:=.mp 5000011) J)<|n9 J (λhg=>mI J) ?_;rcases Bool.eq_false_or_eq_true ((v33.2==0)==true) with hg24 | hg24
    ·have h:=ifT h hg24;refine c5A (es:=s21) (k:=v32) (E:=PV.bool) (EK:=iF) (d:=.bool ((A1 s21 v32).getD (false:Bool))) (congrArg some hg24) (ct hg24) J (ct hg24) a2B (y6 J6) b7w J (lk1 _ _ _)<|y0 (congrArg some hg24) (a6R J J)<|y0 J (a6h J J hg24)<|yN ?_;refine cN h (λhc h=>?_) λhc h=>?_
     ·refine S3 2 J ?_;refine a0D (es:=s21) (k:=v32) (v:=true) (E:=PV.bool) (EK:=iF) (.inl J) J J J J J J a2B (y6 J6)<|yN<|S5 2 J<|y0 J (X7 (f:=iF) (l:=[v32]) J n0 u4 F1 J J nl J J)<|z6 h λv34 hv25 h=>a16 J (a1H (f:=iF) hv25 J J J J J J (.inl ⟨_,J,J⟩) n0 u4 Y9 F1 J (λ_=>J)) J J J<|S2 1 J ?_;exact eJ h (Wk.trans (s6 _ [38]) W)
     ·refine g5 ?_;exact eJ h (Wk.trans (s6 _ [910006]) (WP (λl=>if l=38 then 910006 else l)))
    ·have h:=ifF h hg24;refine a1V (congrArg some hg24)<|a1V (congrArg some hg24)<|y0 J (a8i J J hg24)<|yN ?_;refine G7 false J (λq=>nomatch q) (λ_=>?_);refine g5 ?_;exact eJ h (Wk.trans (s6 _ [910006]) (WP (λl=>if l=38 then 910006 else l)))
  ·refine w8 ?_;refine j5<|j5<|n8 ?_;have h:=xL hx16 h;exact eJ h (Wk.trans (s6 _ [910006]) W)

theorem a5D{a0 a1}:PO Tryz.prog 210 [.L iF a0,.I a1] (P6 a0 a1) λr=>.I r:=by
 refine pO Tryz.func210 λr h _ _=>?_;refine S4 1 J ?_;refine jq h (λ_=>St.of [] []) (λq6 h=>?_) λκ5 h=>?_
 ·refine S4 1 J ?_;refine b9 ?_;cases h;exact f1
 ·refine S3 1 J ?_;refine nL J n0<|S2 1 J<|l5<|lq h (λs8=>St.of [(0,.L iF a0),(1,.I a1),(7,.I (a0.length:Int)),(8,.I s8)] []) W λs8 x9 h hx8=>S4 1 J<|k8 ?_;refine cN h (λhc h=>?_) λhc h=>?_
  ·refine g5 ?_;refine k8<|l5<|S4 2 J<|S3 3 J<|iL h J J n0 u4 λv10 _ h=>S2 2 J ?_;refine cN h (λhc h=>?_) λhc h=>?_
   ·refine S4 2 J ?_;refine b9 ?_;have h:=xL hx8 h;cases h;exact f1
   ·refine g5 ?_;refine S6 2 J ?_;exact eL h W
  ·refine w8 ?_;refine j5<|j5<|n8 ?_;have h:=xL hx8 h;exact eJ h W

theorem O0{a0 a1}:PO Tryz.prog 182 [.L iF a0,.I a1] (D5 a0 a1) λr=>.bool r:=by
 refine pO Tryz.func182 λr h _ _=>?_;refine S4 1 J<|S3 2 J<|cA h a5D J J λv1 _ h=>S2 2 J<|b9 ?_;cases h;exact f1

theorem b2s{a0 a1}:PO Tryz.prog 181 [e6.Pv a0,.rptr [.L iF a1]] (a0s a0 a1) λr=>.bool r:=by
 refine pO Tryz.func181 λr h _ _=>?_;unfold a0s at h;refine S4 2 J<|S3 3 J<|n9 J (λhg=>oF J b4T J)<|n9 J (λhg=>oS (ct hg) J J I6 J)<|n9 J (λhg=>D4 (ct hg) J J)<|y0 J (E0 J J J (λq=>eqT q))<|S1 1 J<|n9 J (λhg=>L1 J b80 J)<|n9 J (λhg=>oF J b4T J)<|n9 J (λhg=>oS (ct hg) J J I6 J)<|z6 h λv1 hv1 h=>n9 J (λhg=>U6 J O0 (Y3 (ct hg) (Y3 (ct hg) J)) (P1 hv1 hg))<|y0 J (E0 J J J (λq=>eqT q))<|S2 1 J<|b9 ?_;cases h;exact f1

theorem a3e{a0 a1}:PO Tryz.prog 180 [.L e6.Pv a0,.fn (.func 181) [.rptr [.L iF a1]]] (H8 a0 a1) λr=>.L iF r:=by
 refine pO Tryz.func180 λr h _ _=>?_;refine S4 1 J<|S4 1 J ?_;refine jq h (λj15=>St.of [(5,.sl 910005)] [(910005,⟨List.map iF j15,(List.map iF j15).length,true,1,true⟩)]) (λj15 h=>?_) λκ14 h=>?_
 ·refine S4 2 J ?_;refine b9 ?_;cases h;exact f1
 ·refine S3 1 J ?_;refine nL J W6<|S2 1 J<|l5<|lq h (λq=>St.of [(1,.fn (.func 181) [.rptr [.L iF a1]]),(5,.sl 910005),(8,.L e6.Pv a0),(9,.I (a0.length:Int)),(10,.I q.1)] [(910005,⟨List.map iF q.2,(List.map iF q.2).length,true,1,true⟩)]) (Wk.trans (Y0 (t:=5) (l:=920005) (z:=1) J J) (WP (λl=>if l=910005 then 920005 else l))) λq20 x19 h hx14=>?_
  obtain⟨s17,s18⟩:=q20;refine S4 1 J<|k8 ?_;refine cN h (λhc h=>?_) λhc h=>?_
  ·refine g5 ?_;refine jq h (λj25=>St.of [(1,.fn (.func 181) [.rptr [.L iF a1]]),(5,.sl 21),(8,.L e6.Pv a0),(9,.I (a0.length:Int)),(10,.I s17)] [(21,⟨List.map iF j25,(List.map iF j25).length,true,1,true⟩)]) (λj25 h=>?_) λκ24 h=>?_
   ·refine S6 2 J ?_;exact eL h (Wk.trans (s6 _ [21]) (WP (λl=>if l=910005 then 21 else l)))
   ·refine l5 ?_;refine S3 1 J<|iL h J J W6 Y1 λv26 _ h=>S2 4 J<|S3 2 J<|cA h b2s J J λv27 _ h=>yN ?_;refine cN h (λhc h=>?_) λhc h=>?_
    ·refine S5 2 J ?_;refine y0 J (X7 (f:=iF) (l:=[s17]) J n0 u4 F1 J J nl J J)<|z6 h λv28 hv21 h=>a16 J (a1H (f:=iF) hv21 J J J J J J (.inl ⟨_,J,J⟩) n0 u4 Y9 F1 J (λ_=>J)) J J J<|S2 1 J ?_;exact eJ h (Wk.trans (s6 _ [21]) W)
    ·refine g5 ?_;exact eJ h (Wk.trans (s6 _ [910005]) (WP (λl=>if l=21 then 910005 else l)))
  ·refine w8 ?_;refine j5<|j5<|n8 ?_;have h:=xL hx14 h;exact eJ h (Wk.trans (s6 _ [910005]) W)

theorem b4S{a0 a1}:PO Tryz.prog 134 [.L e6.Pv a0,.L iF a1] (a4d a0 a1) λr=>.tup [.L e6.Pv r.1,.L iF r.2]:=by
 refine pO Tryz.func134 λr h _ _=>?_;unfold a4d at h;refine S4 3 J<|S3 2 J<|z6 h λv1 hv1 h=>ycL J (p6 J a3e J hv1) J<|S2 1 J<|S3 1 J<|z6 h λv2 hv2 h=>ycN J (b5l J a6W J hv2) J J<|S2 1 J<|S4 1 J ?_;refine jq h (λq=>St.of [(7,.sl 15),(8,.sl 910008)] [(910008,⟨List.map iF q.1,(List.map iF q.1).length,true,1,true⟩),(15,⟨List.map e6.Pv q.2,0,true,3,true⟩)]) (λq24 h=>?_) λκ21 h=>?_
 ·obtain⟨j22,j23⟩:=q24;refine S4 4 J<|b9 ?_;cases h;exact f2
 ·refine S3 1 J ?_;refine nL J n0<|S2 1 J<|l5<|lq h (λq=>St.of [(7,.sl 15),(8,.sl 910008),(16,.L iF v1),(17,.I (v1.length:Int)),(18,.I q.1)] [(15,⟨List.map e6.Pv q.2.1,0,true,3,true⟩),(910008,⟨List.map iF q.2.2,(List.map iF q.2.2).length,true,1,true⟩)]) (Wk.trans (Y0 (t:=8) (l:=920008) (z:=1) J J) (WP (λl=>if l=910008 then 920008 else l))) λq30 x29 h hx18=>?_
  obtain⟨s26,s27,s28⟩:=q30;refine S4 1 J<|k8 ?_;refine cN h (λhc h=>?_) λhc h=>?_
  ·refine g5 ?_;refine jq h (λq=>St.of [(7,.sl 15),(8,.sl 35),(16,.L iF v1),(17,.I (v1.length:Int)),(18,.I s26)] [(35,⟨List.map iF q.1,(List.map iF q.1).length,true,1,true⟩),(15,⟨List.map e6.Pv q.2,0,true,3,true⟩)]) (λq38 h=>?_) λκ35 h=>?_
   ·obtain⟨j36,j37⟩:=q38;refine S6 2 J ?_;exact eL h (Wk.trans (s6 _ [35]) (WP (λl=>if l=910008 then 35 else l)))
   ·refine l5 ?_;refine sR<|iL h J J n0 u4 λv39 _ h=>S2 2 J<|S3 2 J<|z6 h λv40 hv25 h=>y0 J (a89 (f:=e6.Pv) hv25 J J J J W6 Y1 J)<|S1 1 J<|b4n (f:=e6.Pv) (v:=(⟨v40.Target,false,v40.Call⟩:e6)) hv25 J J (.inl J) d0E<|yN<|S3 2 J<|z6 h λv41 hv26 h=>y0 J (a89 (f:=e6.Pv) hv26 J J J J W6 Y1 J)<|S1 1 J<|y0 J (c4p (f:=e6.Pv) hv26 J J J I6 J)<|S2 1 J ?_;refine cN h (λhc h=>?_) λhc h=>?_
    ·refine S5 2 J ?_;refine y0 J (X7 (f:=iF) (l:=[v39]) J n0 u4 F1 J J nl J J)<|z6 h λv42 hv27 h=>a16 J (a1H (f:=iF) hv27 J J J J J J (.inl ⟨_,J,J⟩) n0 u4 Y9 F1 J (λ_=>J)) J J J<|S2 1 J ?_;exact eJ h (Wk.trans (s6 _ [35]) W)
    ·refine g5 ?_;exact eJ h (Wk.trans (s6 _ [910008]) (WP (λl=>if l=35 then 910008 else l)))
  ·refine w8 ?_;refine j5<|j5<|n8 ?_;have h:=xL hx18 h;exact eJ h (Wk.trans (s6 _ [910008]) W)

theorem b0Q{a0 a1}:PO Tryz.prog 85 [b6.Pv a0,.L iF a1] (a1P a0 a1) λr=>b6.Pv r:=by
 refine pO Tryz.func85 λr h _ _=>?_;refine S4 2 J<|S3 3 J<|cF h b4S J J λv1 _ h=>S2 5 J<|S4 3 J ?_;refine jq h (λj11=>St.of [(2,.ptr 2 0 0),(4,.ptr 4 0 0)] [(4,vR (.agg [.nl,.I 0,.I 0,.nl,.nl,.nl,.nl,.I 0]) 8),(2,vR (.agg [.L b7.Pv a0.S.S.a8,.I a0.S.S.Last,.I a0.S.Serial,.L iF a0.Roots,.L e6.Pv v1.1,.L b8.Pv a0.T,.L k9.Pv j11.L,.I j11.Cap]) 8)]) (λj11 h=>?_) λκ10 h=>?_
 ·refine S4 2 J ?_;refine b9 ?_;cases h;exact⟨J,[_],⟨oL J J J p8 o0 nl J,tr⟩,J,io⟩
 ·refine S3 1 J ?_;refine nL J n0<|S2 1 J<|l5<|lq h (λq=>St.of [(2,.ptr 2 0 0),(4,.ptr 4 0 0),(5,.L e6.Pv v1.1),(18,.L iF v1.2),(19,.I (v1.2.length:Int)),(20,.I q.1)] [(4,vR (.agg [.nl,.I 0,.I 0,.nl,.nl,.nl,.nl,.I 0]) 8),(2,vR (.agg [.L b7.Pv a0.S.S.a8,.I a0.S.S.Last,.I a0.S.Serial,.L iF a0.Roots,.L e6.Pv v1.1,.L b8.Pv a0.T,.L k9.Pv q.2.L,.I q.2.Cap]) 8)]) W λq16 x15 h hx11=>?_;obtain⟨s13,s14⟩:=q16;refine S4 1 J<|k8 ?_;refine cN h (λhc h=>?_) λhc h=>?_
  ·refine g5 ?_;refine k8<|l5<|sR<|iL h J J n0 u4 λv17 _ h=>S2 2 J<|a6k [] u5 (by kernel_rfl) (by kernel_rfl)<|S7 5 J<|z6 h λv18 hv13 h=>d0 J (P0 (f:=e6.Pv) (cs:=e6.Pc v18) hv13 J J W6 Y1 J J) J<|S7 2 J<|d7 J (λ_ hN=>u7 (cs:=[.I 2,.I v17,.I v18.Call]) J b5H a9U J J J) J<|z6 h λv19 hv14 h=>X5 J (p6 J b2d J hv14) J<|S7 4 J<|A8 (x':=.agg [.L b7.Pv a0.S.S.a8,.I a0.S.S.Last,.I a0.S.Serial,.L iF a0.Roots,.L e6.Pv v1.1,.L b8.Pv a0.T,.L k9.Pv v19.1.L,.I v19.1.Cap]) (cl':=true) J J (.inr J) a1u<|M5<|S6 2 J ?_
   exact eL h W
  ·refine w8 ?_;refine j5<|j5<|n8 ?_;have h:=xL hx11 h;exact eJ h W

theorem b7c{a0}:PO Tryz.prog 135 [.L iF a0] (a8G a0) λr=>.fn (.func 184) [.rptr [.L iF r]]:=by
 refine pO Tryz.func135 λr h _ _=>?_;unfold a8G at h;refine S4 2 J<|S4 2 J<|b9 ?_;cases h;exact f1

theorem b0Z{a0}:PO Tryz.prog 87 [.L iF a0] (a3J a0) λr=>.L iF r:=by
 refine pO Tryz.func87 λr h _ _=>?_;refine S4 1 J<|S4 1 J ?_;refine jq h (λj10=>St.of [(3,.ptr 2001 0 0)] [(2001,vS (.sl 912501) 1),(912501,⟨List.map iF j10,(List.map iF j10).length,true,1,true⟩)]) (λj10 h=>?_) λκ9 h=>?_
 ·refine S4 2 J ?_;refine b9 ?_;cases h;exact f1
 ·refine S3 1 J ?_;refine cF h b7c J J λv11 _ h=>yN<|l5<|a2O (WPE (λl=>if l=2011 then 3 else l) [(3,.ptr 2011 0 0),(6,.fn (.func 184) [.rptr [.L iF v11]])] [(2011,vR (.nl) 1)]) ?_
  refine a1K (fn:=Tryz.f184) (N1:=20) J Tryz.func184 J J nl J c5O J J (λl17 e18 o19 hR20=>?_);refine S3 1 J<|nL J n0<|S2 1 J<|l5<|lq h (λq=>St.of [(1000003,.ptr 2011 0 0),(1000006,.fn (.func 184) [.rptr [.L iF v11]]),(0,.fn (.yield l17) []),(5,.L iF v11),(6,.I (v11.length:Int)),(7,.I q.1)] [(2011,vS (.sl 912511) 1),(912511,⟨List.map iF q.2,(List.map iF q.2).length,true,1,true⟩)]) (Wk.trans (b2Y (l0:=2011) (j:=0) (l:=922511) (z:=1) J J J J J) (WP (λl=>if l=912511 then 922511 else l))) λq16 x15 h hx23=>?_
  obtain⟨s13,s14⟩:=q16;refine S4 1 J<|k8 ?_;refine cN h (λhc h=>?_) λhc h=>?_
  ·refine g5 ?_;refine k8<|l5<|sR<|iL h J J n0 u4 λv17 _ h=>S2 2 J<|S3 3 J<|n9 J (λhg=>om (d:=.fn (.yield l17) []) J)<|n9 J (λhg=>mI J) ?_;rcases Bool.eq_false_or_eq_true ((v17 != 0)==true) with hg25 | hg25
   ·have h:=ifT h hg25;refine Q7 (WPE (λl=>if l=2019 then 912511 else l) [(1000003,.ptr 2011 0 0),(1000006,.fn (.func 184) [.rptr [.L iF v11]]),(0,.fn (.yield l17) []),(5,.L iF v11),(6,.I (v11.length:Int)),(7,.I s13),(13,.bool (v17 != 0)),(14,.fn (.yield l17) []),(15,.I v17)] [(2011,vS (.sl 2019) 1),(2019,⟨List.map iF s14,(List.map iF s14).length,true,1,true⟩)]) ?_
    refine a6J hR20 (congrArg some hg25) J J J J J (λe26 o27 o28=>?_);refine S6 1 J ?_;refine⟨J,?_⟩;refine l5<|S5 2 J<|y0 J (X7 (f:=iF) (l:=[v17]) J n0 u4 F1 J J nl J J)<|z6 h λv18 hv29 h=>a16 J (a1H (f:=iF) hv29 J J J J J J (.inl ⟨_,J,J⟩) n0 u4 Y9 F1 J (λ_=>J)) J J J<|S2 1 J ?_;refine⟨J,?_⟩;refine Q7 (WPE (λl=>if l=2020 then 11 else l) [(1000003,.ptr 2011 0 0),(1000006,.fn (.func 184) [.rptr [.L iF v11]]),(0,.fn (.yield l17) []),(5,.L iF v11),(6,.I (v11.length:Int)),(7,.I s13),(13,.bool (v17 != 0)),(16,.bool true)] [(2011,vS (.sl 2020) 1),(2020,⟨List.map iF v18,s14.length,true,1,true⟩)])<|y0 (congrArg some hg25) (a6R J J)<|y0 J (a6h J J hg25)<|yN ?_
    refine G7 false J (λq=>nomatch q) (λ_=>?_);refine g5<|S6 2 J ?_;exact eL h (Wk.trans (s6 _ [2020]) (WP (λl=>if l=912511 then 2020 else l)))
   ·have h:=ifF h hg25;refine a1V (congrArg some hg25)<|a1V (congrArg some hg25)<|y0 J (a8i J J hg25)<|yN ?_;refine G7 false J (λq=>nomatch q) (λ_=>?_);refine g5<|S6 2 J ?_;exact eL h (Wk.trans (s6 _ [912511]) W)
  ·refine w8 ?_;refine j5<|j5<|n8 ?_;refine .inl ⟨J,?_⟩;have h:=xL hx23 h;exact eJ h (Wk.trans (s6 _ [912511]) (WP (λl=>if l=2001 then 2011 else if l=912501 then 912511 else l)))

theorem b1e{a0 a1}:PO Tryz.prog 88 [.L b8.Pv a0,.L iF a1] (V7 a0 a1) λr=>.tup [.L b8.Pv r.1,.L iF r.2]:=by
 refine pO Tryz.func88 λr h _ _=>?_;refine S4 2 J<|S4 1 J ?_;refine jq h (λq=>St.of [(0,.L b8.Pv q.1),(6,.sl 910006)] [(910006,⟨List.map iF q.2,(List.map iF q.2).length,true,1,true⟩)]) (λq20 h=>?_) λκ17 h=>?_
 ·obtain⟨j18,j19⟩:=q20;refine S4 4 J<|b9 ?_;cases h;exact f2
 ·refine S3 1 J ?_;refine nL J n0<|S2 1 J<|l5<|lq h (λq=>St.of [(0,.L b8.Pv q.1),(6,.sl 910006),(12,.L iF a1),(13,.I (a1.length:Int)),(14,.I q.2.1)] [(910006,⟨List.map iF q.2.2,(List.map iF q.2.2).length,true,1,true⟩)]) (Wk.trans (Y0 (t:=6) (l:=920006) (z:=1) J J) (WP (λl=>if l=910006 then 920006 else l))) λq26 x25 h hx14=>?_
  obtain⟨s22,s23,s24⟩:=q26;refine S4 1 J<|k8 ?_;refine cN h (λhc h=>?_) λhc h=>?_
  ·refine g5 ?_;refine jq h (λq=>St.of [(0,.L b8.Pv q.1),(6,.sl 31),(12,.L iF a1),(13,.I (a1.length:Int)),(14,.I s23)] [(31,⟨List.map iF q.2,(List.map iF q.2).length,true,1,true⟩)]) (λq33 h=>?_) λκ30 h=>?_
   ·obtain⟨j31,j32⟩:=q33;refine S6 2 J ?_;exact eL h (Wk.trans (s6 _ [31]) (WP (λl=>if l=910006 then 31 else l)))
   ·refine l5 ?_;refine sR<|iL h J J n0 u4 λv34 _ h=>S2 2 J<|S3 2 J<|cF h b0e J J λv35 _ h=>S2 7 J<|S4 2 J ?_;refine cN h (λhc h=>?_) λhc h=>?_
    ·refine S5 3 J ?_;refine y0 J (X7 (f:=iF) (l:=[v35.2.1]) J n0 u4 F1 J J nl J J)<|z6 h λv36 hv21 h=>a16 J (a1H (f:=iF) hv21 J J J J J J (.inl ⟨_,J,J⟩) n0 u4 Y9 F1 J (λ_=>J)) J J J<|S2 2 J ?_;exact eJ h (Wk.trans (s6 _ [31]) W)
    ·refine g5 ?_;exact eJ h (Wk.trans (s6 _ [910006]) (WP (λl=>if l=31 then 910006 else l)))
  ·refine w8 ?_;refine j5<|j5<|n8 ?_;have h:=xL hx14 h;exact eJ h (Wk.trans (s6 _ [910006]) W)

theorem a6w{a0 a1}:PO Tryz.prog 137 [c8.Pv a0,.I a1] (R1 a0 a1) λr=>.tup [c8.Pv r.1,.I r.2]:=by
 refine pO Tryz.func137 λr h _ _=>?_;refine S4 3 J<|S3 2 J<|cF h a13 J J λv1 _ h=>S2 6 J<|k8<|S4 2 J ?_;refine cN h (λhc h=>?_) λhc h=>?_
 ·refine S4 4 J ?_;refine b9 ?_;cases h;exact⟨J,[_,_],⟨oL J J J a2V a1t nl J,⟨J,tr⟩⟩,J,io⟩
 ·refine g5 ?_;refine dr [] u5 (by kernel_rfl) (by kernel_rfl)<|S7 2 J<|z6 h λv2 hv2 h=>d2 J (U6 J a7o J hv2) J<|S7 1 J<|z6 h λv3 hv3 h=>d2 J (U6 J a86 J hv3) J<|S7 1 J<|d7 J (λ_ hN=>u7 (cs:=[.I 2,.I v3,.I v1.1.Serial,.I v1.1.Strong,.I v1.1.Weak,.I v1.1.Prog,.bool v1.1.Started,.L iF v1.1.Fields]) J b5I b06 J J J) J<|z6 h λv4 hv4 h=>X5 J (p6 J H0 J hv4) J<|A8 (x':=c8.Pv v4) (cl':=true) J J (.inr J) a1t<|S8 1 J<|b9 ?_
  cases h;exact⟨J,[_,_],⟨oL J J J a2V a1t nl J,⟨J,tr⟩⟩,J,io⟩

theorem b1O{a0 a1}:PO Tryz.prog 89 [b6.Pv a0,.I a1] (W3 a0 a1) λr=>b6.Pv r:=by
 refine pO Tryz.func89 λr h _ _=>?_;refine S4 2 J<|S3 3 J<|cF h A6 J J λv1 _ h=>S2 6 J<|S3 1 J<|a71 (x':=.agg [.I v1.1.Serial,.I v1.1.Strong,.I v1.1.Weak,.I v1.1.Prog,.bool v1.1.Started,.nl]) (cl':=true) J J (.inl J) a5O<|S1 1 J<|a71 (x':=.agg [.I v1.1.Serial,.I 0,.I v1.1.Weak,.I v1.1.Prog,.bool v1.1.Started,.nl]) (cl':=true) J J (.inl J) u4<|yN<|S3 4 J<|cF h a0r J J λv2 _ h=>S2 5 J<|S3 4 J<|cF h a6w J J λv3 _ h=>S2 6 J<|k8<|S4 3 J ?_;refine cN h (λhc h=>?_) λhc h=>?_
 ·refine S5 4 J ?_;refine cF h a1Q J J λv4 _ h=>S2 6 J<|S4 2 J<|b9 ?_;cases h;exact⟨J,[_],⟨oL J J J p8 o0 nl J,tr⟩,J,io⟩
 ·refine g5 ?_;refine S4 2 J<|b9 ?_;cases h;exact⟨J,[_],⟨oL J J J p8 o0 nl J,tr⟩,J,io⟩

end Go.Proofs.YtjpgbnlcefhaiaaGreat.Ok
