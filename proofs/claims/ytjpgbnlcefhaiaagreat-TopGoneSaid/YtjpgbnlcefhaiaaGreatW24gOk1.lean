/-
 The functions of the program do as the plain functions do.
-/
import Derived.Test.YtjpgbnlcefhaiaaGreatW24gPwC
import Derived.Test.YtjpgbnlcefhaiaaGreatW24gPwD
import Derived.Test.YtjpgbnlcefhaiaaGreatSrt
import Derived.Test.YtjpgbnlcefhaiaaGreatSrtI
import Derived.Test.YtjpgbnlcefhaiaaGreatW24gSh
import Derived.Test.YtjpgbnlcefhaiaaGreatProg
set_option linter.unusedVariables false
set_option linter.unusedSimpArgs false
set_option linter.unusedSectionVars false
namespace Go.Proofs.YtjpgbnlcefhaiaaGreat.Ok
open Go Go.Pw Go.Sh Go.Proofs
set_option maxRecDepth 100000
set_option maxHeartbeats 4000000
abbrev _root_.Go.Sh.c9.Pc(x:c9):List PV:=[.I x.Kind,.I x.A,.I x.B,.I x.C]
abbrev _root_.Go.Sh.c9.Pv(x:c9):PV:=.agg x.Pc
abbrev _root_.Go.Sh.l4.Pc(x:l4):List PV:=[.I x.Serial,.I x.Strong,.I x.Weak,.I x.Prog,.bool x.Started,.L iF x.Fields]
abbrev _root_.Go.Sh.l4.Pv(x:l4):PV:=.agg x.Pc
abbrev _root_.Go.Sh.b7.Pc(x:b7):List PV:=[.I x.State,.I x.Gen,.I x.Val.Serial,.I x.Val.Strong,.I x.Val.Weak,.I x.Val.Prog,.bool x.Val.Started,.L iF x.Val.Fields]
abbrev _root_.Go.Sh.b7.Pv(x:b7):PV:=.agg x.Pc
abbrev _root_.Go.Sh.c5.Pc(x:c5):List PV:=[.I x.Target,.bool x.Intact,.I x.Call]
abbrev _root_.Go.Sh.c5.Pv(x:c5):PV:=.agg x.Pc
abbrev _root_.Go.Sh.b8.Pc(x:b8):List PV:=[.I x.State,.I x.Key,.I x.Val]
abbrev _root_.Go.Sh.b8.Pv(x:b8):PV:=.agg x.Pc
abbrev _root_.Go.Sh.g8.Pc(x:g8):List PV:=[.I x.Kind,.I x.At,.I x.Prog]
abbrev _root_.Go.Sh.g8.Pv(x:g8):PV:=.agg x.Pc
abbrev _root_.Go.Sh.e6.Pc(x:e6):List PV:=[fvE x.part,.I x.least,.I x.most,.I x.e]
abbrev _root_.Go.Sh.e6.Pv(x:e6):PV:=.agg x.Pc
abbrev _root_.Go.Sh.c4.Pc(x:c4):List PV:=[.L b7.Pv x.a8,.I x.Last]
abbrev _root_.Go.Sh.c4.Pv(x:c4):PV:=.agg x.Pc
abbrev _root_.Go.Sh.a7.Pc(x:a7):List PV:=[.L b7.Pv x.S.a8,.I x.S.Last,.I x.Serial]
abbrev _root_.Go.Sh.a7.Pv(x:a7):PV:=.agg x.Pc
abbrev _root_.Go.Sh.c7.Pc(x:c7):List PV:=[.L g8.Pv x.L,.I x.Cap]
abbrev _root_.Go.Sh.c7.Pv(x:c7):PV:=.agg x.Pc
abbrev _root_.Go.Sh.b6.Pc(x:b6):List PV:=[.L b7.Pv x.S.S.a8,.I x.S.S.Last,.I x.S.Serial,.L iF x.Roots,.L c5.Pv x.a8,.L b8.Pv x.T,.L g8.Pv x.Q.L,.I x.Q.Cap]
abbrev _root_.Go.Sh.b6.Pv(x:b6):PV:=.agg x.Pc
abbrev _root_.Go.Sh.g5.Pc(x:g5):List PV:=[.L b7.Pv x.X.S.S.a8,.I x.X.S.S.Last,.I x.X.S.Serial,.L iF x.X.Roots,.L c5.Pv x.X.a8,.L b8.Pv x.X.T,.L g8.Pv x.X.Q.L,.I x.X.Q.Cap,.L (Ls c9.Pv) x.Progs]
abbrev _root_.Go.Sh.g5.Pv(x:g5):PV:=.agg x.Pc
abbrev _root_.Go.Sh.m7.Pc(x:m7):List PV:=[.I x.V,.I x.E]
abbrev _root_.Go.Sh.m7.Pv(x:m7):PV:=.agg x.Pc
abbrev _root_.Go.Sh.o5.Pc(x:o5):List PV:=[.L b7.Pv x.x.S.S.a8,.I x.x.S.S.Last,.I x.x.S.Serial,.L iF x.x.Roots,.L c5.Pv x.x.a8,.L b8.Pv x.x.T,.L g8.Pv x.x.Q.L,.I x.x.Q.Cap,.I x.o.Kind,.I x.o.A,.I x.o.B,.I x.o.C]
abbrev _root_.Go.Sh.o5.Pv(x:o5):PV:=.agg x.Pc
abbrev _root_.Go.Sh.F4.Pc(x:F4):List PV:=[.I x.r,.I x.h]
abbrev _root_.Go.Sh.F4.Pv(x:F4):PV:=.agg x.Pc
abbrev _root_.Go.Sh.D9.Pc(x:D9):List PV:=[.I x.h,.I x.k,.I x.v]
abbrev _root_.Go.Sh.D9.Pv(x:D9):PV:=.agg x.Pc
abbrev _root_.Go.Sh.F3.Pc(x:F3):List PV:=[.L b8.Pv x.t]
abbrev _root_.Go.Sh.F3.Pv(x:F3):PV:=.agg x.Pc
abbrev _root_.Go.Sh.l6.Pc(x:l6):List PV:=[.I x.Key,.I x.Val]
abbrev _root_.Go.Sh.l6.Pv(x:l6):PV:=.agg x.Pc
abbrev _root_.Go.Sh.g9.Pc(x:g9):List PV:=[.L iF x.L,.I x.Cap]
abbrev _root_.Go.Sh.g9.Pv(x:g9):PV:=.agg x.Pc
def a8S(t:Nat):Nat:=if t=85 then 4 else if t=89 then 0 else if t=93 then 1 else 0
theorem I7:J6 Tryz.prog 3=some false:=by kernel_rfl
theorem b7c:J6 Tryz.prog 4=some false:=by kernel_rfl
theorem c8a:J6 Tryz.prog 25=some false:=by kernel_rfl
theorem a2K:J6 Tryz.prog 27=some true:=by kernel_rfl
theorem a5q:J6 Tryz.prog 29=some true:=by kernel_rfl
theorem b8M:J6 Tryz.prog 30=some false:=by kernel_rfl
theorem c8b:J6 Tryz.prog 31=some false:=by kernel_rfl
theorem b5w:J6 Tryz.prog 32=some false:=by kernel_rfl
theorem a4z:J6 Tryz.prog 35=some true:=by kernel_rfl
theorem o7:J6 Tryz.prog 37=some true:=by kernel_rfl
theorem a1b:J6 Tryz.prog 40=some true:=by kernel_rfl
theorem a8P:J6 Tryz.prog 45=some false:=by kernel_rfl
theorem a5r:J6 Tryz.prog 47=some true:=by kernel_rfl
theorem b2H:J6 Tryz.prog 54=some true:=by kernel_rfl
theorem c2p:J6 Tryz.prog 57=some true:=by kernel_rfl
theorem b5x:J6 Tryz.prog 65=some true:=by kernel_rfl
theorem a21:J6 Tryz.prog 144=some true:=by kernel_rfl
theorem a1a:J6 Tryz.prog 154=some true:=by kernel_rfl
theorem b99:J6 Tryz.prog 201=some false:=by kernel_rfl
theorem a7G:J6 Tryz.prog 292=some true:=by kernel_rfl
theorem X0:M7 Tryz.prog 3=some 8:=by kernel_rfl
theorem c8c:M7 Tryz.prog 47=some 16:=by kernel_rfl
theorem c2q:M7 Tryz.prog 56=some 80:=by kernel_rfl
theorem c5k:M7 Tryz.prog 154=some 24:=by kernel_rfl
theorem c0a:M7 Tryz.prog 183=some 24:=by kernel_rfl
theorem c0b:M7 Tryz.prog 256=some 24:=by kernel_rfl
theorem c0c:M7 Tryz.prog 308=some 16:=by kernel_rfl
theorem b0I:y6 Tryz.prog 22=some 30:=by kernel_rfl
theorem N2:y6 Tryz.prog 25=some 56:=by kernel_rfl
theorem l7:y6 Tryz.prog 30=some 3:=by kernel_rfl
theorem V1:y6 Tryz.prog 31=some 183:=by kernel_rfl
theorem a0I:y6 Tryz.prog 32=some 256:=by kernel_rfl
theorem a6N:y6 Tryz.prog 33=some 154:=by kernel_rfl
theorem a6O:y6 Tryz.prog 38=some 63:=by kernel_rfl
theorem a8Q:y6 Tryz.prog 41=some 47:=by kernel_rfl
theorem a8R:y6 Tryz.prog 63=some 65:=by kernel_rfl
theorem Z1:y6 Tryz.prog 138=some 144:=by kernel_rfl
theorem a5s:y6 Tryz.prog 305=some 308:=by kernel_rfl
theorem c2r:a0L Tryz.prog 27 0=some (0,25):=by kernel_rfl
theorem b7d:a0L Tryz.prog 37 1=some (3,30):=by kernel_rfl
theorem c2s:a0L Tryz.prog 37 2=some (4,31):=by kernel_rfl
theorem c2t:a0L Tryz.prog 37 4=some (6,35):=by kernel_rfl
theorem a9u:a0L Tryz.prog 47 0=some (0,3):=by kernel_rfl
theorem b7e:a0L Tryz.prog 47 1=some (1,45):=by kernel_rfl
theorem b7f:a0L Tryz.prog 54 1=some (1,3):=by kernel_rfl
theorem b7g:a0L Tryz.prog 54 2=some (2,3):=by kernel_rfl
theorem b7h:a0L Tryz.prog 54 4=some (4,4):=by kernel_rfl
theorem b7i:a0L Tryz.prog 56 0=some (0,3):=by kernel_rfl
theorem b2I:a0L Tryz.prog 56 2=some (2,54):=by kernel_rfl
theorem c2u:a0L Tryz.prog 65 0=some (0,3):=by kernel_rfl
theorem c1s:a0L Tryz.prog 144 2=some (2,3):=by kernel_rfl
theorem b4D:a0L Tryz.prog 183 0=some (0,3):=by kernel_rfl
theorem c1t:a0L Tryz.prog 183 1=some (1,4):=by kernel_rfl
theorem c1u:a0L Tryz.prog 256 1=some (1,3):=by kernel_rfl
theorem c1v:a0L Tryz.prog 308 0=some (0,3):=by kernel_rfl
theorem b4E:a0L Tryz.prog 308 1=some (1,3):=by kernel_rfl
theorem d0A:c4W Tryz.prog 3=some .i64:=by kernel_rfl
theorem c8d:y9 Tryz.prog 35:=kC Tryz.func35 J
theorem c8e:y9 Tryz.prog 48:=kC Tryz.func48 J
theorem c8f:y9 Tryz.prog 51:=kC Tryz.func51 J
theorem c8g:y9 Tryz.prog 52:=kC Tryz.func52 J
theorem c2v:y9 Tryz.prog 86:=kC Tryz.func86 J
theorem c8h:y9 Tryz.prog 92:=kC Tryz.func92 J
theorem c5l:y9 Tryz.prog 167:=kC Tryz.func167 J
theorem c5m:y9 Tryz.prog 174:=kC Tryz.func174 J
theorem c5n:y9 Tryz.prog 184:=kC Tryz.func184 J
theorem c5o:y9 Tryz.prog 195:=kC Tryz.func195 J
theorem c5p:y9 Tryz.prog 197:=kC Tryz.func197 J
theorem c5q:y9 Tryz.prog 221:=kC Tryz.func221 J
theorem c5r:y9 Tryz.prog 223:=kC Tryz.func223 J
theorem c0d:y9 Tryz.prog 224:=kC Tryz.func224 J
theorem c0e:y9 Tryz.prog 227:=kC Tryz.func227 J
theorem c5s:y9 Tryz.prog 247:=kC Tryz.func247 J
theorem c0f:y9 Tryz.prog 248:=kC Tryz.func248 J
theorem X4:b0y Tryz.prog 109=some (3,107):=by kernel_rfl
theorem b2J:b0y Tryz.prog 123=some (3,3):=by kernel_rfl
theorem Q0:b0y Tryz.prog 140=some (3,138):=by kernel_rfl
theorem a2p:b0y Tryz.prog 201=some (3,4):=by kernel_rfl
theorem c2w:C7 Tryz.prog 27=some (λi=>(#[(0,1),(1,1)]:Array (Nat × Nat))[i]?):=by kernel_rfl
theorem c2x:C7 Tryz.prog 29=some (λi=>(#[(0,2),(2,1)]:Array (Nat × Nat))[i]?):=by kernel_rfl
theorem c8i:C7 Tryz.prog 35=some (λi=>(#[(0,1),(1,1)]:Array (Nat × Nat))[i]?):=by kernel_rfl
theorem c2y:C7 Tryz.prog 37=some (λi=>(#[(0,3),(3,1),(4,1),(5,1),(6,2)]:Array (Nat × Nat))[i]?):=by kernel_rfl
theorem b8N:C7 Tryz.prog 40=some (λi=>(#[(0,8),(8,1)]:Array (Nat × Nat))[i]?):=by kernel_rfl
theorem c8j:C7 Tryz.prog 47=some (λi=>(#[(0,1),(1,1)]:Array (Nat × Nat))[i]?):=by kernel_rfl
theorem c8k:C7 Tryz.prog 54=some (λi=>(#[(0,1),(1,1),(2,1),(3,1),(4,1),(5,1)]:Array (Nat × Nat))[i]?):=by kernel_rfl
theorem b5z:C7 Tryz.prog 56=some (λi=>(#[(0,1),(1,1),(2,6)]:Array (Nat × Nat))[i]?):=by kernel_rfl
theorem c8l:C7 Tryz.prog 57=some (λi=>some (i*1,1)):=by kernel_rfl
theorem b8O:C7 Tryz.prog 65=some (λi=>(#[(0,1),(1,1),(2,1),(3,1)]:Array (Nat × Nat))[i]?):=by kernel_rfl
theorem c8m:C7 Tryz.prog 85=some (λi=>(#[(0,4)]:Array (Nat × Nat))[i]?):=by kernel_rfl
theorem c8n:C7 Tryz.prog 89=some (λi=>(#[]:Array (Nat × Nat))[i]?):=by kernel_rfl
theorem c8o:C7 Tryz.prog 93=some (λi=>(#[(0,1)]:Array (Nat × Nat))[i]?):=by kernel_rfl
theorem c5t:C7 Tryz.prog 113=some (λi=>(#[(0,8),(8,4)]:Array (Nat × Nat))[i]?):=by kernel_rfl
theorem a1c:C7 Tryz.prog 144=some (λi=>(#[(0,1),(1,1),(2,1),(3,1)]:Array (Nat × Nat))[i]?):=by kernel_rfl
theorem b5y:C7 Tryz.prog 154=some (λi=>(#[(0,1),(1,1),(2,1)]:Array (Nat × Nat))[i]?):=by kernel_rfl
theorem c5u:C7 Tryz.prog 183=some (λi=>(#[(0,1),(1,1),(2,1)]:Array (Nat × Nat))[i]?):=by kernel_rfl
theorem c5v:C7 Tryz.prog 234=some (λi=>(#[(0,1),(1,1),(2,1)]:Array (Nat × Nat))[i]?):=by kernel_rfl
theorem c5w:C7 Tryz.prog 242=some (λi=>(#[(0,1)]:Array (Nat × Nat))[i]?):=by kernel_rfl
theorem c0g:C7 Tryz.prog 256=some (λi=>(#[(0,1),(1,1),(2,1)]:Array (Nat × Nat))[i]?):=by kernel_rfl
theorem c5x:C7 Tryz.prog 261=some (λi=>(#[(0,1)]:Array (Nat × Nat))[i]?):=by kernel_rfl
theorem c5y:C7 Tryz.prog 265=some (λi=>(#[(0,1),(1,1)]:Array (Nat × Nat))[i]?):=by kernel_rfl
theorem c5z:C7 Tryz.prog 292=some (λi=>(#[(0,1),(1,1)]:Array (Nat × Nat))[i]?):=by kernel_rfl
theorem c0h:C7 Tryz.prog 308=some (λi=>(#[(0,1),(1,1)]:Array (Nat × Nat))[i]?):=by kernel_rfl
theorem c8p:b0W Tryz.prog 57=some [1,1,1,1]:=by kernel_rfl
theorem c2z:a88 Tryz.prog 85=true:=by kernel_rfl
theorem c2A:a88 Tryz.prog 89=true:=by kernel_rfl
theorem c2B:a88 Tryz.prog 93=true:=by kernel_rfl
theorem b5A:b8q Tryz.prog 57=some (4,3):=by kernel_rfl
theorem p9:o6 Tryz.prog 3=some 1:=by kernel_rfl
theorem d0B:o6 Tryz.prog 4=some 1:=by kernel_rfl
theorem a1d:o6 Tryz.prog 27=some 2:=by kernel_rfl
theorem a5t:o6 Tryz.prog 29=some 3:=by kernel_rfl
theorem b0J:o6 Tryz.prog 30=some 1:=by kernel_rfl
theorem c2C:o6 Tryz.prog 33=some 1:=by kernel_rfl
theorem a1e:o6 Tryz.prog 35=some 2:=by kernel_rfl
theorem n7:o6 Tryz.prog 37=some 8:=by kernel_rfl
theorem K7:o6 Tryz.prog 40=some 9:=by kernel_rfl
theorem O5:o6 Tryz.prog 47=some 2:=by kernel_rfl
theorem a6P:o6 Tryz.prog 54=some 6:=by kernel_rfl
theorem X5:o6 Tryz.prog 56=some 8:=by kernel_rfl
theorem c2D:o6 Tryz.prog 57=some 4:=by kernel_rfl
theorem b8P:o6 Tryz.prog 63=some 1:=by kernel_rfl
theorem a8T:o6 Tryz.prog 65=some 4:=by kernel_rfl
theorem c8q:o6 Tryz.prog 89=some 0:=by kernel_rfl
theorem H8:o6 Tryz.prog 144=some 4:=by kernel_rfl
theorem J7:o6 Tryz.prog 154=some 3:=by kernel_rfl
theorem W2:o6 Tryz.prog 183=some 3:=by kernel_rfl
theorem a0D:o6 Tryz.prog 256=some 3:=by kernel_rfl
theorem a36:o6 Tryz.prog 292=some 2:=by kernel_rfl
theorem a9v:o6 Tryz.prog 308=some 2:=by kernel_rfl
theorem I8:Tryz.prog.underlying 3=some (.int .i64):=by kernel_rfl
theorem d0C:Tryz.prog.underlying 5=some (.int .u8):=by kernel_rfl
theorem E1:y4 Tryz.prog 3=some ((.I 0)):=by kernel_rfl
theorem b7j:y4 Tryz.prog 4=some ((.bool false)):=by kernel_rfl
theorem c2E:y4 Tryz.prog 27=some ((.agg #[(.slice none 0 0),(.I 0)])):=by kernel_rfl
theorem c2F:y4 Tryz.prog 29=some ((.agg #[(.slice none 0 0),(.I 0),(.I 0)])):=by kernel_rfl
theorem c8r:y4 Tryz.prog 30=some ((.slice none 0 0)):=by kernel_rfl
theorem c8s:y4 Tryz.prog 35=some ((.agg #[(.slice none 0 0),(.I 0)])):=by kernel_rfl
theorem c2G:y4 Tryz.prog 37=some ((.agg #[(.slice none 0 0),(.I 0),(.I 0),(.slice none 0 0),(.slice none 0 0),(.slice none 0 0),(.slice none 0 0),(.I 0)])):=by kernel_rfl
theorem b8Q:y4 Tryz.prog 40=some ((.agg #[(.slice none 0 0),(.I 0),(.I 0),(.slice none 0 0),(.slice none 0 0),(.slice none 0 0),(.slice none 0 0),(.I 0),(.slice none 0 0)])):=by kernel_rfl
theorem b8R:y4 Tryz.prog 47=some ((.agg #[(.I 0),(.I 0)])):=by kernel_rfl
theorem c8t:y4 Tryz.prog 54=some ((.agg #[(.I 0),(.I 0),(.I 0),(.I 0),(.bool false),(.slice none 0 0)])):=by kernel_rfl
theorem b0K:y4 Tryz.prog 56=some ((.agg #[(.I 0),(.I 0),(.I 0),(.I 0),(.I 0),(.I 0),(.bool false),(.slice none 0 0)])):=by kernel_rfl
theorem c8u:y4 Tryz.prog 57=some ((.agg #[(.I 0),(.I 0),(.I 0),(.I 0)])):=by kernel_rfl
theorem b8S:y4 Tryz.prog 65=some ((.agg #[(.I 0),(.I 0),(.I 0),(.I 0)])):=by kernel_rfl
theorem c2H:y4 Tryz.prog 85=some ((.agg #[(.I 0),(.I 0),(.I 0),(.I 0)])):=by kernel_rfl
theorem c2I:y4 Tryz.prog 89=some ((.agg #[])):=by kernel_rfl
theorem c2J:y4 Tryz.prog 93=some ((.agg #[(.I 0)])):=by kernel_rfl
theorem c5A:y4 Tryz.prog 107=some (.nilFunc):=by kernel_rfl
theorem c5B:y4 Tryz.prog 113=some ((.agg #[(.slice none 0 0),(.I 0),(.I 0),(.slice none 0 0),(.slice none 0 0),(.slice none 0 0),(.slice none 0 0),(.I 0),(.I 0),(.I 0),(.I 0),(.I 0)])):=by kernel_rfl
theorem c5C:y4 Tryz.prog 138=some ((.slice none 0 0)):=by kernel_rfl
theorem G7:y4 Tryz.prog 144=some ((.agg #[.nilFunc,(.I 0),(.I 0),(.I 0)])):=by kernel_rfl
theorem a9w:y4 Tryz.prog 154=some ((.agg #[(.I 0),(.I 0),(.I 0)])):=by kernel_rfl
theorem b5B:y4 Tryz.prog 183=some ((.agg #[(.I 0),(.bool false),(.I 0)])):=by kernel_rfl
theorem c5D:y4 Tryz.prog 234=some ((.agg #[(.I 0),(.I 0),(.I 0)])):=by kernel_rfl
theorem c5E:y4 Tryz.prog 242=some ((.agg #[(.slice none 0 0)])):=by kernel_rfl
theorem b15:y4 Tryz.prog 256=some ((.agg #[(.I 0),(.I 0),(.I 0)])):=by kernel_rfl
theorem c5F:y4 Tryz.prog 261=some ((.agg #[.nilFunc])):=by kernel_rfl
theorem c5G:y4 Tryz.prog 265=some ((.agg #[(.I 0),(.I 0)])):=by kernel_rfl
theorem c5H:y4 Tryz.prog 292=some ((.agg #[(.slice none 0 0),(.I 0)])):=by kernel_rfl
theorem a7H:y4 Tryz.prog 308=some ((.agg #[(.I 0),(.I 0)])):=by kernel_rfl
theorem w7:Tryz.prog.follows .mixedOrders=true:=by kernel_rfl
def tb:TB:=⟨[((27,0),(0,25)),((27,1),(1,3)),((29,0),(0,27)),((29,1),(2,3)),((35,0),(0,33)),((35,1),(1,3)),((37,0),(0,29)),((37,1),(3,30)),((37,2),(4,31)),((37,3),(5,32)),((37,4),(6,35)),((40,0),(0,37)),((40,1),(8,38)),((47,0),(0,3)),((47,1),(1,45)),((54,0),(0,3)),((54,1),(1,3)),((54,2),(2,3)),((54,3),(3,3)),((54,4),(4,4)),((54,5),(5,30)),((56,0),(0,3)),((56,1),(1,3)),((56,2),(2,54)),((65,0),(0,3)),((65,1),(1,3)),((65,2),(2,3)),((65,3),(3,3)),((85,0),(0,65)),((93,0),(0,3)),((113,0),(0,37)),((113,1),(8,65)),((144,0),(0,142)),((144,1),(1,3)),((144,3),(3,45)),((154,0),(0,3)),((154,1),(1,3)),((154,2),(2,3)),((183,0),(0,3)),((183,1),(1,4)),((183,2),(2,3)),((234,0),(0,3)),((234,1),(1,3)),((234,2),(2,3)),((242,0),(0,32)),((256,0),(0,3)),((256,1),(1,3)),((256,2),(2,3)),((261,0),(0,259)),((265,0),(0,3)),((265,1),(1,3)),((292,0),(0,30)),((292,1),(1,3)),((308,0),(0,3)),((308,1),(1,3))],[(3,false),(4,false),(25,false),(27,true),(29,true),(30,false),(31,false),(32,false),(33,false),(35,true),(37,true),(38,false),(40,true),(45,false),(47,true),(54,true),(56,true),(57,true),(63,false),(65,true),(113,true),(123,false),(142,false),(144,true),(154,true),(183,true),(201,false),(256,true),(259,false),(261,true),(292,true),(305,false),(308,true),(316,false)],[(3,1),(4,1),(25,1),(27,2),(29,3),(30,1),(31,1),(32,1),(35,2),(37,8),(40,9),(45,1),(47,2),(54,6),(56,8),(57,4),(65,4),(85,4),(93,1),(113,12),(123,1),(144,4),(154,3),(183,3),(201,1),(256,3),(261,1),(292,2),(305,1),(308,2)],[(3,.I 0),(4,.bool false),(27,.agg [.lst true (List.map b7.Pv []),.I 0]),(29,.agg [.lst true (List.map b7.Pv []),.I 0,.I 0]),(30,.lst true (List.map iF [])),(32,.lst true (List.map b8.Pv [])),(35,.agg [.lst true (List.map g8.Pv []),.I 0]),(37,.agg [.lst true (List.map b7.Pv []),.I 0,.I 0,.lst true (List.map iF []),.lst true (List.map c5.Pv []),.lst true (List.map b8.Pv []),.lst true (List.map g8.Pv []),.I 0]),(40,.agg [.lst true (List.map b7.Pv []),.I 0,.I 0,.lst true (List.map iF []),.lst true (List.map c5.Pv []),.lst true (List.map b8.Pv []),.lst true (List.map g8.Pv []),.I 0,.lst true (List.map (Ls c9.Pv) [])]),(45,.I 0),(47,.agg [.I 0,.I 0]),(54,.agg [.I 0,.I 0,.I 0,.I 0,.bool false,.lst true (List.map iF [])]),(56,.agg [.I 0,.I 0,.I 0,.I 0,.I 0,.I 0,.bool false,.lst true (List.map iF [])]),(57,.agg [.I 0,.I 0,.I 0,.I 0]),(65,.agg [.I 0,.I 0,.I 0,.I 0]),(85,.agg [.I 0,.I 0,.I 0,.I 0]),(89,.agg []),(93,.agg [.I 0]),(123,.abs b8K),(144,.agg [.nilfn,.I 0,.I 0,.I 0]),(154,.agg [.I 0,.I 0,.I 0]),(183,.agg [.I 0,.bool false,.I 0]),(201,.abs b8K),(256,.agg [.I 0,.I 0,.I 0]),(261,.agg [.nilfn]),(292,.agg [.lst true (List.map iF []),.I 0]),(305,.lst true (List.map l6.Pv [])),(308,.agg [.I 0,.I 0])]⟩
theorem Tb:TB.Ok Tryz.prog tb:=⟨by kernel_rfl,by kernel_rfl,by kernel_rfl,by kernel_rfl⟩
section
variable{X:Ctx}{ops:Array Oper}{K:Ctx→St→Prop}{i n:Nat}{l l':List Oper}{env env':Nat→PV}{σ σ':Nat→Option Row}{Q:PX→Ctx→St→Prop}{y:Code}{KD:St→Prop}{bar:List Nat}
theorem S1(n:Nat)(h:run tb n l env σ=some (l',env',σ'))(k:Sq X ops (i+n) l' K ⟨env',σ'⟩)(hb:TB.Ok X.P tb:=by exact Tb):Sq X ops i l K ⟨env,σ⟩:=seg hb n h k
theorem S2(n:Nat)(h:run tb n l env σ=some ([],env',σ'))(k:K X ⟨env',σ'⟩)(hb:TB.Ok X.P tb:=by exact Tb):Sq X ops i l K ⟨env,σ⟩:=seg hb n h (yN k)
theorem S3{id:Nat}(n:Nat)(h:run tb n l env σ=some (l',env',σ'))(k:Sq X l.toArray (0+n) l' (λX' s=>R8 X' y Q s) ⟨env',σ'⟩)(hd:a2u X.N l.toArray=true:=by kernel_rfl)(hb:TB.Ok X.P tb:=by exact Tb):R8 X (.seq (.region id l.toArray false) y) Q ⟨env,σ⟩:=sr hd (seg hb n h k)
theorem S4{id:Nat}(n:Nat)(h:run tb n l env σ=some ([],env',σ'))(k:R8 X y Q ⟨env',σ'⟩)(hd:a2u X.N l.toArray=true:=by kernel_rfl)(hb:TB.Ok X.P tb:=by exact Tb):R8 X (.seq (.region id l.toArray false) y) Q ⟨env,σ⟩:=sr hd (seg hb n h (yN k))
theorem S5{id:Nat}(n:Nat)(h:run tb n l env σ=some (l',env',σ'))(k:Sq X l.toArray (0+n) l' (Q .normal) ⟨env',σ'⟩)(hd:a2u X.N l.toArray=true:=by kernel_rfl)(hb:TB.Ok X.P tb:=by exact Tb):R8 X (.region id l.toArray false) Q ⟨env,σ⟩:=sr1 hd (seg hb n h k)
theorem S6{id:Nat}(n:Nat)(h:run tb n l env σ=some ([],env',σ'))(k:Q .normal X ⟨env',σ'⟩)(hd:a2u X.N l.toArray=true:=by kernel_rfl)(hb:TB.Ok X.P tb:=by exact Tb):R8 X (.region id l.toArray false) Q ⟨env,σ⟩:=sr1 hd (seg hb n h (yN k))
theorem S7(n:Nat)(h:c62 tb bar n i l env σ=some (l',env',σ'))(k:Ex X.P ops bar true (i+n) l' ⟨env',σ'⟩ KD)(hb:TB.Ok X.P tb:=by exact Tb):Ex X.P ops bar true i l ⟨env,σ⟩ KD:=dG hb n h k
theorem S8(n:Nat)(h:c62 tb bar n i l env σ=some ([],env',σ'))(k:KD ⟨env',σ'⟩)(hb:TB.Ok X.P tb:=by exact Tb):Ex X.P ops bar true i l ⟨env,σ⟩ KD:=dG hb n h k
end
theorem c99:b5v Tryz.prog (Tryz.sortF_ren.f 6):=c2b Tryz.sortF
theorem c69:b14 Tryz.prog (Tryz.sortI_ren.f 5):=b9R Tryz.sortI
theorem b93{a0 a1 a2}:PO Tryz.prog 13 [.L (Ls c9.Pv) a0,.L (Ls iF) a1,.I a2] (b0F a0 a1 a2) λr=>.bool r:=by
 refine pO Tryz.func13 λr h _ _=>?_;refine S4 1 J ?_;refine jq h (λ_=>St.of [(0,.L (Ls c9.Pv) a0),(1,.L (Ls iF) a1),(2,.I a2)] []) (λq6 h=>?_) λκ5 h=>?_
 ·refine jq h (λ_=>St.of [(0,.L (Ls c9.Pv) a0),(1,.L (Ls iF) a1),(2,.I a2)] []) (λq12 h=>?_) λκ11 h=>?_
  ·refine S3 1 J ?_;refine nL J a6O<|S1 2 J<|n0 J (λhg=>om (d:=.L (Ls iF) a1) J)<|n0 J (λhg=>a6v (f:=(Ls iF)) (ct hg) b0I)<|n0 J (λhg=>mI J)<|n0 J (λhg=>C8 (ct hg) (ct hg) J)<|y0 J (E7 J J J (λq=>eqT q))<|S2 1 J<|b9 ?_;cases h;exact f1
  ·refine S4 1 J ?_;refine k7<|lq h (λs14=>St.of [(0,.L (Ls c9.Pv) a0),(1,.L (Ls iF) a1),(2,.I a2),(8,.I s14)] []) W λs14 x15 h hx13=>j5<|S3 2 J<|nL J b0I<|S1 2 J<|n0 J (λhg=>mI J)<|n0 J (λhg=>C8 (ct hg) J J)<|y0 J (E7 J J J (λq=>eqT q))<|yN ?_;refine cN h (λhc h=>?_) λhc h=>?_
   ·refine c8 ?_;refine j5<|k7<|S3 2 J<|iL h J J b0I b0J λv16 _ h=>S1 1 J<|nL J l7<|S2 1 J ?_;refine cN h (λhc h=>?_) λhc h=>?_
    ·refine S4 1 J ?_;refine b9 ?_;have h:=xL hx13 h;cases h;exact f1
    ·refine c8 ?_;refine S6 3 J ?_;exact eL h W
   ·refine s7 ?_;refine g6<|g6<|m9 ?_;have h:=xL hx13 h;exact eJ h W
 ·refine S4 1 J ?_;refine k7<|lq h (λs18=>St.of [(0,.L (Ls c9.Pv) a0),(1,.L (Ls iF) a1),(2,.I a2),(7,.I s18)] []) W λs18 x19 h hx17=>j5<|S3 2 J<|nL J a6O<|S1 2 J<|n0 J (λhg=>mI J)<|n0 J (λhg=>C8 (ct hg) J J)<|y0 J (E7 J J J (λq=>eqT q))<|yN ?_;refine cN h (λhc h=>?_) λhc h=>?_
  ·refine c8 ?_;refine j5<|k7<|S3 2 J<|iL h J J a6O b8P λv20 _ h=>S1 1 J<|nL J a8R<|S2 1 J ?_;refine cN h (λhc h=>?_) λhc h=>?_
   ·refine S4 1 J ?_;refine b9 ?_;have h:=xL hx17 h;cases h;exact f1
   ·refine c8 ?_;refine S6 3 J ?_;exact eL h W
  ·refine s7 ?_;refine g6<|g6<|m9 ?_;have h:=xL hx17 h;exact eJ h W

theorem b4j{a0}:PO Tryz.prog 59 [c9.Pv a0] (a1U a0) λr=>.bool r:=by
 refine pO Tryz.func59 λr h _ _=>?_;unfold a1U at h;refine S4 2 J<|S3 4 J<|n0 J (λhg=>oF J c2u J)<|n0 J (λhg=>oS (ct hg) J J I7 J)<|n0 J (λhg=>C8 (ct hg) J J)<|y0 J (E7 J J J (λq=>eqT q))<|S2 1 J<|b9 ?_;cases h;exact f1

theorem u9:PO Tryz.prog 113 [.fn (.func 114) []] (V5) λr=>e6.Pv r:=by
 refine pO Tryz.func113 λr h _ _=>?_;unfold V5 at h;refine S4 1 J<|S3 1 J<|y0 J (s6 (cs:=[.fn (.func 114) [],.I 0,.I 5,.I 6]) J a1c G7 J J J)<|P5 (a6B 4 (d':=.agg [fvE (some 114),.I 0,.I 5,.I 6]) J)<|S2 1 J<|b9 ?_;cases h;exact⟨J,[_],⟨oL J J J a21 H8 nl J,tr⟩,J,io⟩

theorem W3:PO Tryz.prog 116 [.fn (.func 117) []] (O7) λr=>e6.Pv r:=by
 refine pO Tryz.func116 λr h _ _=>?_;unfold O7 at h;refine S4 1 J<|S3 1 J<|y0 J (s6 (cs:=[.fn (.func 117) [],.I (-1),.I 5,.I 13]) J a1c G7 J J J)<|P5 (a6B 4 (d':=.agg [fvE (some 117),.I (-1),.I 5,.I 13]) J)<|S2 1 J<|b9 ?_;cases h;exact⟨J,[_],⟨oL J J J a21 H8 nl J,tr⟩,J,io⟩

theorem C2{a0}:PO Tryz.prog 112 [.L e6.Pv a0] (G3 a0) λr=>.L e6.Pv r:=by
 refine pO Tryz.func112 λr h _ _=>?_;unfold G3 at h;refine S4 1 J<|S4 2 J<|b9 ?_;cases h;exact f1

theorem I0:PO Tryz.prog 113 [.fn (.func 115) []] (V6) λr=>e6.Pv r:=by
 refine pO Tryz.func113 λr h _ _=>?_;unfold V6 at h;refine S4 1 J<|S3 1 J<|y0 J (s6 (cs:=[.fn (.func 115) [],.I 0,.I 5,.I 6]) J a1c G7 J J J)<|P5 (a6B 4 (d':=.agg [fvE (some 115),.I 0,.I 5,.I 6]) J)<|S2 1 J<|b9 ?_;cases h;exact⟨J,[_],⟨oL J J J a21 H8 nl J,tr⟩,J,io⟩

theorem a32:PO Tryz.prog 118 [.fn (.func 117) []] (T0) λr=>e6.Pv r:=by
 refine pO Tryz.func118 λr h _ _=>?_;unfold T0 at h;refine S4 1 J<|S3 1 J<|y0 J (s6 (cs:=[.fn (.func 117) [],.I 0,.I 3,.I 5]) J a1c G7 J J J)<|P5 (a6B 4 (d':=.agg [fvE (some 117),.I 0,.I 3,.I 5]) J)<|S2 1 J<|b9 ?_;cases h;exact⟨J,[_],⟨oL J J J a21 H8 nl J,tr⟩,J,io⟩

theorem a31:PO Tryz.prog 118 [.fn (.func 115) []] (S9) λr=>e6.Pv r:=by
 refine pO Tryz.func118 λr h _ _=>?_;unfold S9 at h;refine S4 1 J<|S3 1 J<|y0 J (s6 (cs:=[.fn (.func 115) [],.I 0,.I 3,.I 5]) J a1c G7 J J J)<|P5 (a6B 4 (d':=.agg [fvE (some 115),.I 0,.I 3,.I 5]) J)<|S2 1 J<|b9 ?_;cases h;exact⟨J,[_],⟨oL J J J a21 H8 nl J,tr⟩,J,io⟩

theorem a1W:PO Tryz.prog 119 [.fn (.func 117) []] (K9) λr=>e6.Pv r:=by
 refine pO Tryz.func119 λr h _ _=>?_;unfold K9 at h;refine S4 1 J<|S3 1 J<|y0 J (s6 (cs:=[.fn (.func 117) [],.I (-1),.I 5,.I 6]) J a1c G7 J J J)<|P5 (a6B 4 (d':=.agg [fvE (some 117),.I (-1),.I 5,.I 6]) J)<|S2 1 J<|b9 ?_;cases h;exact⟨J,[_],⟨oL J J J a21 H8 nl J,tr⟩,J,io⟩

theorem a4C:PO Tryz.prog 120 [.fn (.func 114) []] (V3) λr=>e6.Pv r:=by
 refine pO Tryz.func120 λr h _ _=>?_;unfold V3 at h;refine S4 1 J<|S3 1 J<|y0 J (s6 (cs:=[.fn (.func 114) [],.I 0,.I 5,.I 7]) J a1c G7 J J J)<|P5 (a6B 4 (d':=.agg [fvE (some 114),.I 0,.I 5,.I 7]) J)<|S2 1 J<|b9 ?_;cases h;exact⟨J,[_],⟨oL J J J a21 H8 nl J,tr⟩,J,io⟩

theorem Q1:PO Tryz.prog 119 [.fn (.func 115) []] (K8) λr=>e6.Pv r:=by
 refine pO Tryz.func119 λr h _ _=>?_;unfold K8 at h;refine S4 1 J<|S3 1 J<|y0 J (s6 (cs:=[.fn (.func 115) [],.I (-1),.I 5,.I 6]) J a1c G7 J J J)<|P5 (a6B 4 (d':=.agg [fvE (some 115),.I (-1),.I 5,.I 6]) J)<|S2 1 J<|b9 ?_;cases h;exact⟨J,[_],⟨oL J J J a21 H8 nl J,tr⟩,J,io⟩

theorem a4D:PO Tryz.prog 120 [.fn (.func 115) []] (V4) λr=>e6.Pv r:=by
 refine pO Tryz.func120 λr h _ _=>?_;unfold V4 at h;refine S4 1 J<|S3 1 J<|y0 J (s6 (cs:=[.fn (.func 115) [],.I 0,.I 5,.I 7]) J a1c G7 J J J)<|P5 (a6B 4 (d':=.agg [fvE (some 115),.I 0,.I 5,.I 7]) J)<|S2 1 J<|b9 ?_;cases h;exact⟨J,[_],⟨oL J J J a21 H8 nl J,tr⟩,J,io⟩

theorem b1U:PO Tryz.prog 64 [] (a5y) λr=>.abs (T6 (List.map (ent iF (Ls e6.Pv)) r)):=by
 refine pO Tryz.func64 λr h _ _=>?_;refine S4 1 J<|sR<|b8H (KT:=Int) (VT:=List e6) (EK:=iF) (E:=(Ls e6.Pv)) 5000001 J J<|cF h u9 J J λv1 hv1 h=>y0 J (s6 (cs:=[.fn (.func 115) [],.I 0,.I 4,.I 1]) J a1c G7 J J J)<|P5 (a6B 3 (d':=.agg [fvE (some 115),.I 0,.I 4,.I 1]) J)<|cF h W3 J J λv2 hv2 h=>y0 J (a0m (f:=e6.Pv) (l:=[v1,(⟨(some 115),0,4,1⟩:e6),v2]) J Z1 H8 G7 J J nl J J)<|cF h C2 J J λv3 _ h=>a0r (es:=[]) (k:=1) (v:=v3) (E:=(Ls e6.Pv)) (EK:=iF) (.inr J) J J J J J J Q0 (w9 I8)<|yc J (z8 J u9 J hv1)<|cF h I0 J J λv4 hv4 h=>y0 J (a0m (f:=e6.Pv) (l:=[v1,v4]) J Z1 H8 G7 J J nl J J)<|cF h C2 J J λv5 hv5 h=>a0r (es:=(n9 [] 1 v3)) (k:=2) (v:=v5) (E:=(Ls e6.Pv)) (EK:=iF) (.inr J) J J J J J J Q0 (w9 I8)<|yc J (z8 J u9 J hv1)<|y0 J (a0m (f:=e6.Pv) (l:=[v1]) J Z1 H8 G7 J J nl J J)<|cF h C2 J J λv6 _ h=>a0r (es:=(n9 (n9 [] 1 v3) 2 v5)) (k:=3) (v:=v6) (E:=(Ls e6.Pv)) (EK:=iF) (.inr J) J J J J J J Q0 (w9 I8)<|yc J (z8 J u9 J hv1)<|yc J (z8 J I0 J hv4)<|cF h a32 J J λv7 _ h=>y0 J (a0m (f:=e6.Pv) (l:=[v1,v4,v7]) J Z1 H8 G7 J J nl J J)<|cF h C2 J J λv8 _ h=>a0r (es:=(n9 (n9 (n9 [] 1 v3) 2 v5) 3 v6)) (k:=4) (v:=v8) (E:=(Ls e6.Pv)) (EK:=iF) (.inr J) J J J J J J Q0 (w9 I8)<|yc J (z8 J u9 J hv1)<|cF h a31 J J λv9 _ h=>cF h a1W J J λv10 _ h=>y0 J (a0m (f:=e6.Pv) (l:=[v1,v9,v10]) J Z1 H8 G7 J J nl J J)<|cF h C2 J J λv11 _ h=>?_;refine a0r (es:=(n9 (n9 (n9 (n9 [] 1 v3) 2 v5) 3 v6) 4 v8)) (k:=5) (v:=v11) (E:=(Ls e6.Pv)) (EK:=iF) (.inr J) J J J J J J Q0 (w9 I8)<|cF h a4C J J λv12 _ h=>cF h Q1 J J λv13 hv13 h=>yc J (z8 J W3 J hv2)<|y0 J (a0m (f:=e6.Pv) (l:=[v12,v13,v2]) J Z1 H8 G7 J J nl J J)<|cF h C2 J J λv14 _ h=>a0r (es:=(n9 (n9 (n9 (n9 (n9 [] 1 v3) 2 v5) 3 v6) 4 v8) 5 v11)) (k:=6) (v:=v14) (E:=(Ls e6.Pv)) (EK:=iF) (.inr J) J J J J J J Q0 (w9 I8)<|yc J (z8 J u9 J hv1)<|cF h a4D J J λv15 _ h=>y0 J (a0m (f:=e6.Pv) (l:=[v1,v15]) J Z1 H8 G7 J J nl J J)<|cF h C2 J J λv16 _ h=>a0r (es:=(n9 (n9 (n9 (n9 (n9 (n9 [] 1 v3) 2 v5) 3 v6) 4 v8) 5 v11) 6 v14)) (k:=7) (v:=v16) (E:=(Ls e6.Pv)) (EK:=iF) (.inr J) J J J J J J Q0 (w9 I8)<|yc J (z8 J u9 J hv1)<|yc J (z8 J Q1 J hv13)<|y0 J (a0m (f:=e6.Pv) (l:=[v1,v13]) J Z1 H8 G7 J J nl J J)<|cF h C2 J J λv17 _ h=>a0r (es:=(n9 (n9 (n9 (n9 (n9 (n9 (n9 [] 1 v3) 2 v5) 3 v6) 4 v8) 5 v11) 6 v14) 7 v16)) (k:=8) (v:=v17) (E:=(Ls e6.Pv)) (EK:=iF) (.inr J) J J J J J J Q0 (w9 I8)<|yc J (z8 J u9 J hv1)<|yc J (z8 J I0 J hv4)<|y0 J (a0m (f:=e6.Pv) (l:=[v1,v4]) J Z1 H8 G7 J J nl J J)<|yc J (z8 J C2 J hv5)<|a0r (es:=(n9 (n9 (n9 (n9 (n9 (n9 (n9 (n9 [] 1 v3) 2 v5) 3 v6) 4 v8) 5 v11) 6 v14) 7 v16) 8 v17)) (k:=9) (v:=v5) (E:=(Ls e6.Pv)) (EK:=iF) (.inr J) J J J J J J Q0 (w9 I8)<|yc J (z8 J u9 J hv1)<|yc J (z8 J I0 J hv4)<|y0 J (a0m (f:=e6.Pv) (l:=[v1,v4]) J Z1 H8 G7 J J nl J J)<|yc J (z8 J C2 J hv5)<|a0r (es:=(n9 (n9 (n9 (n9 (n9 (n9 (n9 (n9 (n9 [] 1 v3) 2 v5) 3 v6) 4 v8) 5 v11) 6 v14) 7 v16) 8 v17) 9 v5)) (k:=10) (v:=v5) (E:=(Ls e6.Pv)) (EK:=iF) (.inr J) J J J J J J Q0 (w9 I8)<|cF h C2 J J λv18 _ h=>a0r (es:=(n9 (n9 (n9 (n9 (n9 (n9 (n9 (n9 (n9 (n9 [] 1 v3) 2 v5) 3 v6) 4 v8) 5 v11) 6 v14) 7 v16) 8 v17) 9 v5) 10 v5)) (k:=11) (v:=v18) (E:=(Ls e6.Pv)) (EK:=iF) (.inr J) J J J J J J Q0 (w9 I8)<|y0 J (s6 (cs:=[.fn (.func 114) [],.I 0,.I 200,.I 12]) J a1c G7 J J J) ?_;refine P5 (a6B 46 (d':=.agg [fvE (some 114),.I 0,.I 200,.I 12]) J)<|y0 J (a0m (f:=e6.Pv) (l:=[(⟨(some 114),0,200,12⟩:e6)]) J Z1 H8 G7 J J nl J J)<|cF h C2 J J λv19 _ h=>a0r (es:=(n9 (n9 (n9 (n9 (n9 (n9 (n9 (n9 (n9 (n9 (n9 [] 1 v3) 2 v5) 3 v6) 4 v8) 5 v11) 6 v14) 7 v16) 8 v17) 9 v5) 10 v5) 11 v18)) (k:=12) (v:=v19) (E:=(Ls e6.Pv)) (EK:=iF) (.inr J) J J J J J J Q0 (w9 I8)<|S2 2 J<|a2D (b90 0 5000001 J J)<|b9 ?_;cases h;exact f1

theorem a8x{a0}:PO Tryz.prog 114 [c9.Pv a0] (a8Y a0) λr=>.I r:=by
 refine pO Tryz.func114 λr h _ _=>?_;unfold a8Y at h;refine S4 2 J<|S4 3 J<|b9 ?_;cases h;exact f1

theorem a8y{a0}:PO Tryz.prog 115 [c9.Pv a0] (a8Z a0) λr=>.I r:=by
 refine pO Tryz.func115 λr h _ _=>?_;unfold a8Z at h;refine S4 2 J<|S4 3 J<|b9 ?_;cases h;exact f1

theorem a8z{a0}:PO Tryz.prog 117 [c9.Pv a0] (a80 a0) λr=>.I r:=by
 refine pO Tryz.func117 λr h _ _=>?_;unfold a80 at h;refine S4 2 J<|S4 3 J<|b9 ?_;cases h;exact f1

theorem b9a{f:Fv}{a0:c9}{r:Int}(h:a9O f a0=some r):∃n,f=some n∧y9 Tryz.prog n∧V0 Tryz.prog n [c9.Pv a0] (.I r):=by
 unfold a9O at h;by_cases e114:f=some 114
 ·rw[if_pos e114] at h;exact⟨114,e114,(@a8x a0).1,(@a8x a0).2 _ h⟩
 rw[if_neg e114] at h;by_cases e115:f=some 115
 ·rw[if_pos e115] at h;exact⟨115,e115,(@a8y a0).1,(@a8y a0).2 _ h⟩
 rw[if_neg e115] at h;by_cases e117:f=some 117
 ·rw[if_pos e117] at h;exact⟨117,e117,(@a8z a0).1,(@a8z a0).2 _ h⟩
 rw[if_neg e117] at h;cases h

theorem a4B{a0}:PO Tryz.prog 40 [c9.Pv a0] (O6 a0) λr=>.I r:=by
 refine pO Tryz.func40 λr h _ _=>?_;unfold O6 at h;refine S4 2 J<|dr [] w7 (by kernel_rfl) (by kernel_rfl)<|C1 h λv1 hv1 h=>d2f J (z8 J b1U J hv1) J<|S7 2 J<|d4 J (b7U (es:=v1) (k:=a0.Kind) (E:=(Ls e6.Pv)) (EK:=iF) (d:=.tup [.L e6.Pv ((y8 v1 a0.Kind).getD ([]:List e6)),.bool ((y8 v1 a0.Kind).isSome)]) J J Q0 (w9 I8) c5C J (lk2 _ _ ([]:List e6))) J<|S8 5 J<|j5<|S4 2 J ?_;refine cN h (λhc h=>?_) λhc h=>?_
 ·refine S4 1 J ?_;refine b9 ?_;cases h;exact f1
 ·refine c8 ?_;refine jq h (λ_=>St.of [] []) (λq9 h=>?_) λκ8 h=>?_
  ·refine S4 1 J ?_;refine b9 ?_;cases h;exact f1
  ·refine S3 1 J ?_;refine nL J Z1<|S2 1 J<|k7<|lq h (λs11=>St.of [(1,.ptr 1 0 0),(17,.L e6.Pv ((y8 v1 a0.Kind).getD ([]:List e6))),(18,.I (((y8 v1 a0.Kind).getD ([]:List e6)).length:Int)),(19,.I s11)] [(1,vR (c9.Pv a0) 4)]) W λs11 x12 h hx13=>S4 1 J<|j5 ?_;refine cN h (λhc h=>?_) λhc h=>?_
   ·refine c8 ?_;refine j5<|k7<|sR<|iL h J J Z1 H8 λv13 _ h=>S2 3 J<|S3 3 J ?_;obtain⟨v14,hv15,h⟩:=a9y h;obtain⟨n15,he16,hk17,hp18⟩:=b9a hv15;refine P5 (c76 24 J he16)<|y0 J (b9p J hk17 J hp18)<|S2 1 J<|S3 5 J<|n0 J (λhg=>mI J)<|n0 J (λhg=>oF J c1s J)<|n0 J (λhg=>oS (ct hg) J J I7 J)<|n0 J (λhg=>C8 (ct hg) (ct hg) J)<|y0 J (M1 J J J (λq=>eqF q))<|yN ?_;refine cN h (λhc h=>?_) λhc h=>?_
    ·refine S4 3 J ?_;refine b9 ?_;have h:=xL hx13 h;cases h;exact f1
    ·refine c8 ?_;refine S6 2 J ?_;exact eL h W
   ·refine s7 ?_;refine g6<|g6<|m9 ?_;have h:=xL hx13 h;exact eJ h W

theorem b4k{a0}:PO Tryz.prog 38 [.L (Ls c9.Pv) a0] (a1V a0) λr=>.bool r:=by
 refine pO Tryz.func38 λr h _ _=>?_;refine S4 1 J<|j5<|S3 1 J<|nL J a6O<|S2 1 J ?_;refine cN h (λhc h=>?_) λhc h=>?_
 ·refine S4 1 J ?_;refine b9 ?_;cases h;exact f1
 ·refine c8 ?_;refine jq h (λ_=>St.of [] []) (λq21 h=>?_) λκ20 h=>?_
  ·refine S4 1 J ?_;refine b9 ?_;cases h;exact f1
  ·refine S3 1 J ?_;refine nL J a6O<|S2 1 J<|k7<|lq h (λs23=>St.of [(10,.L (Ls c9.Pv) a0),(11,.I (a0.length:Int)),(12,.I s23)] []) W λs23 x24 h hx22=>S4 1 J<|j5 ?_;refine cN h (λhc h=>?_) λhc h=>?_
   ·refine c8 ?_;refine jq h (λ_=>St.of [(10,.L (Ls c9.Pv) a0),(11,.I (a0.length:Int)),(12,.I s23)] []) (λq33 h=>?_) λκ32 h=>?_
    ·refine S6 2 J ?_;exact eL h W
    ·refine k7 ?_;refine sR<|iL h J J a6O b8P λv34 _ h=>S2 2 J<|j5<|S3 1 J<|nL J a8R<|S2 1 J ?_;refine cN h (λhc h=>?_) λhc h=>?_
     ·refine S4 1 J ?_;refine b9 ?_;have h:=xL hx22 h;cases h;exact f1
     ·refine c8 ?_;refine S3 1 J<|nL J a8R<|S2 1 J<|k7<|lq h (λs36=>St.of [(10,.L (Ls c9.Pv) a0),(11,.I (a0.length:Int)),(12,.I s23),(19,.L c9.Pv v34),(20,.I (v34.length:Int)),(21,.I s36)] []) W λs36 x37 h hx34=>S4 1 J<|j5 ?_;refine cN h (λhc h=>?_) λhc h=>?_
      ·refine c8 ?_;refine j5<|k7<|sR<|iL h J J a8R a8T λv38 _ h=>S2 3 J<|S3 1 J<|cA h b4j J J λv39 _ h=>S1 2 J<|n0 J (λhg=>oL J J J b5x a8T nl J)<|C1 h λv40 hv37 h=>n0 J (λhg=>Z8 J a4B (a3x (ct hg) J) (a2Z hv37 hg))<|n0 J (λhg=>C8 (ct hg) J J)<|y0 J (M1 J J J (λq=>eqF q))<|yN ?_;refine cN h (λhc h=>?_) λhc h=>?_
       ·refine S4 1 J ?_;refine b9 ?_;have h:=xL hx34 h;have h:=xL hx22 h;cases h;exact f1
       ·refine c8 ?_;refine S6 2 J ?_;exact eL h W
      ·refine s7 ?_;refine g6<|g6<|m9 ?_;have h:=xL hx34 h;exact eJ h W
   ·refine s7 ?_;refine g6<|g6<|m9 ?_;have h:=xL hx22 h;exact eJ h W

theorem a6I{a0 a1}:PO Tryz.prog 110 [.I a0,.I a1] (T4 a0 a1) λr=>c4.Pv r:=by
 refine pO Tryz.func110 λr h _ _=>?_;refine S4 1 J<|j5<|S3 3 J<|n0 J (λhg=>mI J)<|n0 J (λhg=>C8 (ct hg) J J)<|y0 J (M1 J J J (λq=>eqF q))<|S1 1 J<|n0 J (λhg=>mI J)<|n0 J (λhg=>C8 (ct hg) J J)<|y0 J (M1 J J J (λq=>eqF q))<|S1 1 J<|n0 J (λhg=>mI J)<|n0 J (λhg=>C8 (ct hg) J J)<|y0 J (M1 J J J (λq=>eqF q))<|yN ?_;refine cN h (λhc h=>?_) λhc h=>?_
 ·refine sR ?_;refine y0 J (s6 (cs:=[.nl,.I 0]) J c2w c2E J J J)<|a7F (x':=.agg [.nl,.I 0]) (cl':=true) J J (.inl J) a1d<|yN<|b9 ?_;cases h;exact⟨J,[_],⟨oL J J J a2K a1d nl J,tr⟩,J,io⟩
 ·refine c8 ?_;refine S3 1 J<|C1 h λv1 hv1 h=>y1 J (b9q (f:=b7.Pv) hv1 J J J N2 X5 b0K c2q J J J) J<|S1 1 J<|y0 J (s6 (cs:=[.sl 21,.I a1]) J c2w c2E J J J)<|S2 1 J<|b9 ?_;cases h;exact⟨J,[_],⟨oL J J J a2K a1d nl J,tr⟩,J,io⟩

theorem b6Q{a0 a1}:PO Tryz.prog 60 [.I a0,.I a1] (a3s a0 a1) λr=>a7.Pv r:=by
 refine pO Tryz.func60 λr h _ _=>?_;refine S4 1 J<|S3 2 J<|cF h a6I J J λv1 _ h=>y0 J (s6 (cs:=[.L b7.Pv v1.a8,.I v1.Last,.I 0]) J c2x c2F J J J)<|S2 1 J<|b9 ?_;cases h;exact⟨J,[_],⟨oL J J J a5q a5t nl J,tr⟩,J,io⟩

theorem b8E{a0}:PO Tryz.prog 61 [.I a0] (b8D a0) λr=>.L c5.Pv r:=by
 refine pO Tryz.func61 λr h _ _=>?_;refine S4 1 J<|j5<|S3 3 J<|n0 J (λhg=>mI J)<|n0 J (λhg=>C8 (ct hg) J J)<|y0 J (M1 J J J (λq=>eqF q))<|yN ?_;refine cN h (λhc h=>?_) λhc h=>?_
 ·refine S4 1 J ?_;refine b9 ?_;cases h;exact f1
 ·refine c8 ?_;refine S3 1 J<|C1 h λv1 hv1 h=>y1 J (b9q (f:=c5.Pv) hv1 J J J V1 W2 b5B c0a J J J) J<|S2 1 J ?_;refine jq h (λj9=>St.of [(3,.sl 12)] [(12,⟨List.map c5.Pv j9,0,true,3,true⟩)]) (λj9 h=>?_) λκ8 h=>?_
  ·refine S4 2 J ?_;refine b9 ?_;cases h;exact f1
  ·refine S3 1 J ?_;refine y0 J (c3Z (f:=c5.Pv) J J J V1)<|S2 1 J<|k7<|lq h (λq=>St.of [(3,.sl 12),(14,.I (v1.length:Int)),(15,.I q.1)] [(12,⟨List.map c5.Pv q.2,0,true,3,true⟩)]) W λq14 x13 h hx9=>?_;obtain⟨s11,s12⟩:=q14;refine S4 1 J<|j5 ?_;refine cN h (λhc h=>?_) λhc h=>?_
   ·refine c8 ?_;refine j5<|k7<|S4 2 J<|S5 2 J<|C1 h λv15 hv10 h=>y0 J (a8H (f:=c5.Pv) hv10 J J J J V1 W2 J)<|S1 1 J<|b38 (f:=c5.Pv) (v:=(⟨v15.Target,v15.Intact,(-1)⟩:c5)) hv10 J J (.inl J) p9<|yN<|S6 2 J ?_;exact eL h W
   ·refine s7 ?_;refine g6<|g6<|m9 ?_;have h:=xL hx9 h;exact eJ h W

theorem b7B{a0}:PO Tryz.prog 62 [.I a0] (a9W a0) λr=>.L b8.Pv r:=by
 refine pO Tryz.func62 λr h _ _=>?_;refine S4 1 J<|j5<|S3 3 J<|n0 J (λhg=>mI J)<|n0 J (λhg=>C8 (ct hg) J J)<|y0 J (M1 J J J (λq=>eqF q))<|yN ?_;refine cN h (λhc h=>?_) λhc h=>?_
 ·refine S4 1 J ?_;refine b9 ?_;cases h;exact f1
 ·refine c8 ?_;refine S3 1 J<|C1 h λv1 hv1 h=>y1 J (b9q (f:=b8.Pv) hv1 J J J a0I a0D b15 c0b J J J) J<|S2 1 J<|b9 ?_;cases h;exact f1

theorem a5X{a0}:PO Tryz.prog 111 [.I a0] (a0o a0) λr=>c7.Pv r:=by
 refine pO Tryz.func111 λr h _ _=>?_;unfold a0o at h;refine S4 1 J<|S3 1 J<|y0 J (s6 (cs:=[.nl,.I a0]) J c8i c8s J J J)<|a7F (x':=.agg [.nl,.I a0]) (cl':=true) J J (.inl J) a1e<|yN<|b9 ?_;cases h;exact⟨J,[_],⟨oL J J J a4z a1e nl J,tr⟩,J,io⟩

theorem b8s:PO Tryz.prog 63 [] (b8r) λr=>c7.Pv r:=by
 refine pO Tryz.func63 λr h _ _=>?_;refine S4 1 J<|sR<|cF h a5X J J λv1 _ h=>S2 1 J<|b9 ?_;cases h;exact⟨J,[_],⟨oL J J J a4z a1e nl J,tr⟩,J,io⟩

theorem b7E{a0 a1 a2}:PO Tryz.prog 39 [.I a0,.I a1,.I a2] (a3F a0 a1 a2) λr=>b6.Pv r:=by
 refine pO Tryz.func39 λr h _ _=>?_;refine S4 1 J<|j5<|S3 3 J<|n0 J (λhg=>mI J)<|n0 J (λhg=>C8 (ct hg) J J)<|y0 J (M1 J J J (λq=>eqF q))<|S1 1 J<|n0 J (λhg=>mI J)<|n0 J (λhg=>C8 (ct hg) J J)<|y0 J (M1 J J J (λq=>eqF q))<|S1 1 J<|n0 J (λhg=>mI J)<|n0 J (λhg=>C8 (ct hg) J J)<|y0 J (M1 J J J (λq=>eqF q))<|S1 1 J<|n0 J (λhg=>mI J)<|n0 J (λhg=>C8 (ct hg) J J)<|y0 J (M1 J J J (λq=>eqF q))<|S1 1 J<|n0 J (λhg=>mI J)<|n0 J (λhg=>C8 (ct hg) J J)<|y0 J (M1 J J J (λq=>eqF q))<|yN ?_;refine cN h (λhc h=>?_) λhc h=>?_
 ·refine sR ?_;refine y0 J (s6 (cs:=[.nl,.I 0,.I 0,.nl,.nl,.nl,.nl,.I 0]) J c2y c2G J J J)<|a7F (x':=.agg [.nl,.I 0,.I 0,.nl,.nl,.nl,.nl,.I 0]) (cl':=true) J J (.inl J) n7<|yN<|b9 ?_;cases h;exact⟨J,[_],⟨oL J J J o7 n7 nl J,tr⟩,J,io⟩
 ·refine c8 ?_;refine dr [] w7 (by kernel_rfl) (by kernel_rfl)<|S7 2 J<|C1 h λv1 hv1 h=>d2f J (z8 J b6Q J hv1) J<|C1 h λv2 hv2 h=>d1 J (b9q (f:=iF) hv2 J J J l7 p9 E1 X0 J J J) J J J<|C1 h λv3 hv3 h=>d2f J (z8 J b8E J hv3) J<|S7 1 J<|C1 h λv4 hv4 h=>d2f J (z8 J b7B J hv4) J<|C1 h λv5 hv5 h=>d2f J (z8 J b8s J hv5) J<|d7 J (λ_ hN=>s6 (cs:=[.L b7.Pv v1.S.a8,.I v1.S.Last,.I v1.Serial,.sl 33,.L c5.Pv v3,.L b8.Pv v4,.L g8.Pv v5.L,.I v5.Cap]) J c2y c2G J J J) J<|D1 (x':=.agg [.L b7.Pv v1.S.a8,.I v1.S.Last,.I v1.Serial,.sl 33,.L c5.Pv v3,.L b8.Pv v4,.L g8.Pv v5.L,.I v5.Cap]) (cl':=false) J J (.inr J) n7<|X7<|b9 ?_;cases h;exact⟨J,[_],⟨oL J J J o7 n7 nl J,tr⟩,J,io⟩

theorem b4o{a0 a1 a2 a3}:PO Tryz.prog 24 [.I a0,.I a1,.I a2,.L (Ls c9.Pv) a3] (a1Y a0 a1 a2 a3) λr=>.tup [g5.Pv r.1,.I r.2]:=by
 refine pO Tryz.func24 λr h _ _=>?_;refine S4 2 J<|j5<|S3 1 J<|cA h b4k J J λv1 _ h=>S2 1 J ?_;refine cN h (λhc h=>?_) λhc h=>?_
 ·refine sR ?_;refine y0 J (s6 (cs:=[.nl,.I 0,.I 0,.nl,.nl,.nl,.nl,.I 0,.nl]) J b8N b8Q J J J)<|a7F (x':=.agg [.nl,.I 0,.I 0,.nl,.nl,.nl,.nl,.I 0,.nl]) (cl':=true) J J (.inl J) K7<|S2 1 J<|b9 ?_;cases h;exact⟨J,[_,_],⟨oL J J J a1b K7 nl J,⟨J,tr⟩⟩,J,io⟩
 ·refine c8 ?_;refine S3 3 J<|cF h b7E J J λv2 _ h=>S2 2 J<|j5<|S3 2 J<|nL J l7<|S2 1 J ?_;refine cN h (λhc h=>?_) λhc h=>?_
  ·refine sR ?_;refine y0 J (s6 (cs:=[.nl,.I 0,.I 0,.nl,.nl,.nl,.nl,.I 0,.nl]) J b8N b8Q J J J)<|a7F (x':=.agg [.nl,.I 0,.I 0,.nl,.nl,.nl,.nl,.I 0,.nl]) (cl':=true) J J (.inl J) K7<|S2 1 J<|b9 ?_;cases h;exact⟨J,[_,_],⟨oL J J J a1b K7 nl J,⟨J,tr⟩⟩,J,io⟩
  ·refine c8 ?_;refine S3 2 J<|y0 J (s6 (cs:=[.L b7.Pv v2.S.S.a8,.I v2.S.S.Last,.I v2.S.Serial,.L iF v2.Roots,.L c5.Pv v2.a8,.L b8.Pv v2.T,.L g8.Pv v2.Q.L,.I v2.Q.Cap,.L (Ls c9.Pv) a3]) J b8N b8Q J J J)<|S2 2 J<|b9 ?_;cases h;exact⟨J,[_,_],⟨oL J J J a1b K7 nl J,⟨J,tr⟩⟩,J,io⟩

theorem b1Q{a0 a1}:PO Tryz.prog 16 [.I a0,.I a1] (a5o a0 a1) λr=>g5.Pv r:=by
 refine pO Tryz.func16 λr h _ _=>?_;refine S4 1 J<|S3 2 J<|cF h b4o J J λv1 _ h=>S2 6 J<|S4 2 J<|b9 ?_;cases h;exact⟨J,[_],⟨oL J J J a1b K7 nl J,tr⟩,J,io⟩

theorem R6{a0 a1 a2 a3}:PO Tryz.prog 18 [.I a0,.I a1,.I a2,.I a3] (a0W a0 a1 a2 a3) λr=>.lst true (List.map iF r):=by
 refine pO Tryz.func18 λr h _ _=>?_;unfold a0W at h;refine S4 1 J<|S3 4 J<|y0 J (a0m (f:=iF) (l:=[a0,a1,a2,a3]) J l7 p9 E1 J J nl J J)<|S2 1 J<|b9 ?_;cases h;exact f1

theorem b2P{a0}:PO Tryz.prog 27 [.L iF a0] (R9 a0) λr=>.tup [c9.Pv r.1,.I r.2]:=by
 refine pO Tryz.func27 λr h _ _=>?_;refine S4 2 J<|j5<|S3 1 J<|nL J l7<|S2 1 J ?_;refine cN h (λhc h=>?_) λhc h=>?_
 ·refine sR ?_;refine y0 J (s6 (cs:=[.I 0,.I 0,.I 0,.I 0]) J b8O b8S J J J)<|S2 2 J<|b9 ?_;cases h;exact⟨J,[_,_],⟨oL J J J b5x a8T nl J,⟨J,tr⟩⟩,J,io⟩
 ·refine c8 ?_;refine dr [] w7 (by kernel_rfl) (by kernel_rfl)<|S7 1 J<|C1 h λv1 hv1 h=>d0 J (a0i (f:=iF) (cs:=[.I v1]) hv1 J J l7 p9 J J) J<|S7 2 J<|C1 h λv2 hv2 h=>d0 J (a0i (f:=iF) (cs:=[.I v2]) hv2 J J l7 p9 J J) J<|S7 2 J<|C1 h λv3 hv3 h=>d0 J (a0i (f:=iF) (cs:=[.I v3]) hv3 J J l7 p9 J J) J<|S7 2 J<|C1 h λv4 hv4 h=>d0 J (a0i (f:=iF) (cs:=[.I v4]) hv4 J J l7 p9 J J) J<|S7 1 J<|d7 J (λ_ hN=>s6 (cs:=[.I v1,.I v2,.I v3,.I v4]) J b8O b8S J J J) J<|S7 1 J<|D1 (x':=.agg [.I v1,.I v2,.I v3,.I v4]) (cl':=true) J J (.inl J) a8T<|X7<|j5<|S3 1 J<|cA h a4B J J λv5 _ h=>S2 1 J<|S4 2 J ?_;refine cN h (λhc h=>?_) λhc h=>?_
  ·refine sR ?_;refine y0 J (s6 (cs:=[.I 0,.I 0,.I 0,.I 0]) J b8O b8S J J J)<|S2 3 J<|b9 ?_;cases h;exact⟨J,[_,_],⟨oL J J J b5x a8T nl J,⟨J,tr⟩⟩,J,io⟩
  ·refine c8 ?_;refine S4 3 J<|b9 ?_;cases h;exact⟨J,[_,_],⟨oL J J J b5x a8T nl J,⟨J,tr⟩⟩,J,io⟩

theorem b1W{a0}:PO Tryz.prog 28 [c9.Pv a0] (a5B a0) λr=>ifE a8S r:=by
 refine pO Tryz.func28 λr h _ _=>?_;refine S4 2 J<|j5<|S4 2 J<|k7<|S4 2 J ?_;refine cN h (λhc h=>?_) λhc h=>?_
 ·refine sR ?_;refine y0 J (s6 (cs:=[]) J c8n c2I J J J)<|y0 J (b9r (n:=a8S) (T:=89) (xs:=[]) J c2A J)<|S2 1 J<|b9 ?_;cases h;exact f1
 ·refine S4 2 J ?_;refine cN h (λhc h=>?_) λhc h=>?_
  ·refine S3 2 J ?_;refine y0 J (s6 (cs:=[.I a0.A]) J c8o c2J J J J)<|y0 J (b9r (n:=a8S) (T:=93) (xs:=[a0.A]) J c2B J)<|S2 1 J<|b9 ?_;cases h;exact f1
  ·refine c8 ?_;refine S3 1 J<|y0 J (s6 (cs:=[.I a0.Kind,.I a0.A,.I a0.B,.I a0.C]) J c8m c2H J J J)<|y0 J (b9r (n:=a8S) (T:=85) (xs:=[a0.Kind,a0.A,a0.B,a0.C]) J c2z J)<|S2 1 J<|b9 ?_;cases h;exact f1

theorem b01:PO Tryz.prog 41 [] (a2m) λr=>.abs (T6 (List.map (ent iF fvE) r)):=by
 refine pO Tryz.func41 λr h _ _=>?_;unfold a2m at h;refine S4 1 J<|sR<|b8H (KT:=Int) (VT:=Fv) (EK:=iF) (E:=fvE) 5000001 J J<|a4M (es:=[]) (k:=1) (v:=(some 65)) (E:=fvE) (EK:=iF) (.inr J) J J J J J J X4 (w9 I8)<|a4M (es:=(n9 [] 1 (some 65))) (k:=2) (v:=(some 66)) (E:=fvE) (EK:=iF) (.inr J) J J J J J J X4 (w9 I8)<|a4M (es:=(n9 (n9 [] 1 (some 65)) 2 (some 66))) (k:=3) (v:=(some 67)) (E:=fvE) (EK:=iF) (.inr J) J J J J J J X4 (w9 I8)<|a4M (es:=(n9 (n9 (n9 [] 1 (some 65)) 2 (some 66)) 3 (some 67))) (k:=4) (v:=(some 68)) (E:=fvE) (EK:=iF) (.inr J) J J J J J J X4 (w9 I8)<|a4M (es:=(n9 (n9 (n9 (n9 [] 1 (some 65)) 2 (some 66)) 3 (some 67)) 4 (some 68))) (k:=5) (v:=(some 69)) (E:=fvE) (EK:=iF) (.inr J) J J J J J J X4 (w9 I8)<|a4M (es:=(n9 (n9 (n9 (n9 (n9 [] 1 (some 65)) 2 (some 66)) 3 (some 67)) 4 (some 68)) 5 (some 69))) (k:=6) (v:=(some 70)) (E:=fvE) (EK:=iF) (.inr J) J J J J J J X4 (w9 I8)<|a4M (es:=(n9 (n9 (n9 (n9 (n9 (n9 [] 1 (some 65)) 2 (some 66)) 3 (some 67)) 4 (some 68)) 5 (some 69)) 6 (some 70))) (k:=7) (v:=(some 71)) (E:=fvE) (EK:=iF) (.inr J) J J J J J J X4 (w9 I8)<|a4M (es:=(n9 (n9 (n9 (n9 (n9 (n9 (n9 [] 1 (some 65)) 2 (some 66)) 3 (some 67)) 4 (some 68)) 5 (some 69)) 6 (some 70)) 7 (some 71))) (k:=8) (v:=(some 72)) (E:=fvE) (EK:=iF) (.inr J) J J J J J J X4 (w9 I8)<|a4M (es:=(n9 (n9 (n9 (n9 (n9 (n9 (n9 (n9 [] 1 (some 65)) 2 (some 66)) 3 (some 67)) 4 (some 68)) 5 (some 69)) 6 (some 70)) 7 (some 71)) 8 (some 72))) (k:=9) (v:=(some 73)) (E:=fvE) (EK:=iF) (.inr J) J J J J J J X4 (w9 I8)<|a4M (es:=(n9 (n9 (n9 (n9 (n9 (n9 (n9 (n9 (n9 [] 1 (some 65)) 2 (some 66)) 3 (some 67)) 4 (some 68)) 5 (some 69)) 6 (some 70)) 7 (some 71)) 8 (some 72)) 9 (some 73))) (k:=10) (v:=(some 74)) (E:=fvE) (EK:=iF) (.inr J) J J J J J J X4 (w9 I8)<|S2 2 J<|a2D (b90 0 5000001 J J)<|b9 ?_;cases h;exact f1

theorem b9Y{a0}:PO Tryz.prog 161 [.I a0] (b6Y a0) λr=>.tup [.L iF r.1,.I r.2]:=by
 refine pO Tryz.func161 λr h _ _=>?_;refine S4 2 J<|j5<|S3 3 J<|n0 J (λhg=>mI J)<|n0 J (λhg=>C8 (ct hg) J J)<|y0 J (M1 J J J (λq=>eqF q))<|yN ?_;refine cN h (λhc h=>?_) λhc h=>?_
 ·refine S4 2 J ?_;refine b9 ?_;cases h;exact f2
 ·refine c8 ?_;refine S3 1 J<|C1 h λv1 hv1 h=>y1 J (b9q (f:=iF) hv1 J J J l7 p9 E1 X0 J J J) J<|S2 2 J<|b9 ?_;cases h;exact f2

theorem a7A{a0}:PO Tryz.prog 162 [.I a0] (O3 a0) λr=>.bool r:=by
 refine pO Tryz.func162 λr h _ _=>?_;unfold O3 at h;refine S4 1 J<|S3 3 J<|n0 J (λhg=>mI J)<|n0 J (λhg=>C8 (ct hg) J J)<|y0 J (E7 J J J (λq=>eqT q))<|S2 1 J<|b9 ?_;cases h;exact f1

theorem a6c{a0}:PO Tryz.prog 202 [c4.Pv a0] (K6 a0) λr=>.fn (.func 221) [.rptr (c4.Pc r)]:=by
 refine pO Tryz.func202 λr h _ _=>?_;unfold K6 at h;refine S4 2 J<|S4 2 J<|b9 ?_;cases h;exact f1

theorem J5{a0}:PON Tryz.prog 208 [.L b7.Pv a0] (r9 a0) λr=>⟨List.map b7.Pv r,0,true,8,true⟩:=by
 refine pON Tryz.func208 λr h _ _=>?_;unfold r9 at h;refine S4 1 J<|j5<|S3 1 J<|b62 J N2 λb hb=>yN ?_;refine F7 b J (λhc=>?_) (λhc=>?_)
 ·obtain rfl:a0 = []:=by simpa using hb hc
  refine S4 1 J<|a2D (W1 (t:=2) (l:=920000) (z:=8) J J)<|b9 ?_;cases h;exact⟨J,_,_,J,J,J,J⟩
 ·refine c8 ?_;refine sR<|y0 J (b3q J N2 X5)<|S1 1 J<|y1 J (b7T (f:=b7.Pv) h J J (.inl ⟨_,J,J⟩) N2 X5 c2q b0K J (λ_=>J)) J<|S2 1 J<|b9 ?_;exact⟨J,_,_,J,J,J,J⟩

theorem G0{a0 a1 a2}:PO Tryz.prog 176 [c4.Pv a0,.I a1,b7.Pv a2] (A8 a0 a1 a2) λr=>c4.Pv r:=by
 refine pO Tryz.func176 λr h _ _=>?_;unfold A8 at h;refine S4 3 J<|S3 2 J<|C1 h λv1 hv1 h=>ycN J (b49 J J5 J hv1) J J<|S2 2 J<|S3 4 J<|C1 h λv2 hv2 h=>y0 J (a8H (f:=b7.Pv) hv2 J J J J N2 X5 J)<|b38 (f:=b7.Pv) (v:=a2) hv2 J J (.inr J) X5<|yN<|S4 2 J<|b9 ?_;cases h;exact⟨J,[_],⟨oL J J J a2K a1d nl J,tr⟩,J,io⟩

theorem a60{a0 a1}:PO Tryz.prog 50 [.I a0,.I a1] (a01 a0 a1) λr=>.I r:=by
 refine pO Tryz.func50 λr h _ _=>?_;refine S4 1 J<|j5<|S3 3 J<|n0 J (λhg=>mI J)<|n0 J (λhg=>C8 (ct hg) J J)<|y0 J (M1 J J J (λq=>eqF q))<|S1 1 J<|n0 J (λhg=>mI J)<|n0 J (λhg=>C8 (ct hg) J J)<|y0 J (M1 J J J (λq=>eqF q))<|S1 1 J<|n0 J (λhg=>mI J)<|n0 J (λhg=>C8 (ct hg) J J)<|y0 J (M1 J J J (λq=>eqF q))<|yN ?_;refine cN h (λhc h=>?_) λhc h=>?_
 ·refine S4 1 J ?_;refine b9 ?_;cases h;exact f1
 ·refine c8 ?_;refine S4 7 J<|b9 ?_;cases h;exact f1

theorem a6b{a0 a1}:PO Tryz.prog 163 [c4.Pv a0,l4.Pv a1] (G2 a0 a1) λr=>.tup [c4.Pv r.1,.I r.2.1,.I r.2.2]:=by
 refine pO Tryz.func163 λr h _ _=>?_;refine S4 5 J ?_;refine jq h (λ_=>St.of [(2,.ptr 2005 0 0),(4,.ptr 2003 0 0),(5,.ptr 2002 0 0),(6,.ptr 2001 0 0)] [(2001,vR (.I 0) 1),(2002,vR (.I 0) 1),(2003,vR (.agg [.nl,.I 0]) 2),(2005,vR (c4.Pv a0) 2)]) (λq10 h=>?_) λκ9 h=>?_
 ·refine S4 4 J ?_;refine b9 ?_;cases h;exact⟨J,[_,_,_],⟨oL J J J a2K a1d nl J,⟨oS J J J I7 J,⟨oS J J J a8P J,tr⟩⟩⟩,J,io⟩
 ·refine S3 1 J ?_;refine cF h a6c J J λv11 _ h=>yN<|k7<|a2D (WPE (λl=>if l=2006 then 6 else if l=2007 then 5 else if l=2008 then 4 else if l=2009 then 3 else if l=2010 then 2 else l) [(2,.ptr 2010 0 0),(3,.ptr 2009 0 0),(4,.ptr 2008 0 0),(5,.ptr 2007 0 0),(6,.ptr 2006 0 0),(10,.fn (.func 221) [.rptr (c4.Pc v11)])] [(2006,vR (.I 0) 1),(2007,vR (.I 0) 1),(2008,vR (.agg [.nl,.I 0]) 2),(2009,vR (l4.Pv a1) 6),(2010,vR (c4.Pv a0) 2)]) ?_;refine a1y (fn:=Tryz.f221) (N1:=23) J Tryz.func221 J J nl J c5q J J (λl19 e20 o21 hR22=>?_);refine S3 2 J<|nL J N2<|S2 1 J<|k7<|lq h (λs13=>St.of [(1000002,.ptr 2010 0 0),(1000003,.ptr 2009 0 0),(1000004,.ptr 2008 0 0),(1000005,.ptr 2007 0 0),(1000006,.ptr 2006 0 0),(1000010,.fn (.func 221) [.rptr (c4.Pc v11)]),(0,.fn (.yield l19) []),(6,.L b7.Pv v11.a8),(7,.I (v11.a8.length:Int)),(8,.I s13)] [(2006,vR (.I 0) 1),(2007,vR (.I 0) 1),(2008,vR (.agg [.nl,.I 0]) 2),(2009,vR (l4.Pv a1) 6),(2010,vR (c4.Pv a0) 2)]) W λs13 x14 h hx25=>S4 1 J<|j5 ?_;refine cN h (λhc h=>?_) λhc h=>?_
  ·refine c8 ?_;refine j5<|k7<|S3 1 J<|iL h J J N2 X5 λv15 _ h=>S2 4 J<|S3 4 J<|n0 J (λhg=>om (d:=.fn (.yield l19) []) J)<|n0 J (λhg=>mI J) ?_;rcases Bool.eq_false_or_eq_true ((v15.State==0)==true) with hg27 | hg27
   ·have h:=ifT h hg27;refine P5 (WE [(1000002,.ptr 2010 0 0),(1000003,.ptr 2009 0 0),(1000004,.ptr 2008 0 0),(1000005,.ptr 2007 0 0),(1000006,.ptr 2006 0 0),(1000010,.fn (.func 221) [.rptr (c4.Pc v11)]),(0,.fn (.yield l19) []),(6,.L b7.Pv v11.a8),(7,.I (v11.a8.length:Int)),(8,.I s13),(16,.bool (v15.State==0)),(17,.fn (.yield l19) []),(18,.I s13)] [(2006,vR (.I 0) 1),(2007,vR (.I 0) 1),(2008,vR (.agg [.nl,.I 0]) 2),(2009,vR (l4.Pv a1) 6),(2010,vR (c4.Pv a0) 2)]) ?_;refine a6l hR22 (congrArg some hg27) J J J J J (λe28 o29 o30=>?_);refine S6 1 J ?_;refine⟨J,?_⟩;refine k7<|S3 3 J<|iL h J J N2 X5 λv16 _ h=>S2 3 J<|S3 4 J<|y0 J (s6 (cs:=[.I 1,.I v16.Gen,.I a1.Serial,.I a1.Strong,.I a1.Weak,.I a1.Prog,.bool a1.Started,.L iF a1.Fields]) J b5z b0K J J J)<|cF h G0 J J λv17 _ h=>S1 2 J<|cA h a60 J J λv18 _ h=>S2 3 J<|b9 ?_;refine⟨J,?_⟩;refine P5 (WE [(1000002,.ptr 2010 0 0),(1000003,.ptr 2009 0 0),(1000004,.ptr 2008 0 0),(1000005,.ptr 2007 0 0),(1000006,.ptr 2006 0 0),(1000010,.fn (.func 221) [.rptr (c4.Pc v11)]),(0,.fn (.yield l19) []),(6,.L b7.Pv v11.a8),(7,.I (v11.a8.length:Int)),(8,.I s13),(16,.bool (v15.State==0)),(19,.bool false)] [(2006,vR (.I 0) 1),(2007,vR (.I v18) 1),(2008,vR (c4.Pv v17) 2),(2009,vR (l4.Pv a1) 6),(2010,vR (c4.Pv a0) 2)])<|y0 (congrArg some hg27) (a4Y J J)<|y0 J (a5U J J hg27)<|yN ?_;refine F7 true J (λ_=>?_) (λq=>nomatch q);refine b9 ?_;refine .inr ⟨.ret,J,c6h ?_⟩;have h:=xL hx25 h;cases h;exact⟨J,[_,_,_],⟨oL J J J a2K a1d nl J,⟨oS J J J I7 J,⟨oS J J J a8P J,tr⟩⟩⟩,J,io⟩
   ·have h:=ifF h hg27;refine a1J (congrArg some hg27)<|a1J (congrArg some hg27)<|y0 J (a7U J J hg27)<|yN ?_;refine F7 false J (λq=>nomatch q) (λ_=>?_);refine c8<|S6 2 J ?_;exact eL h W
  ·refine s7 ?_;refine g6<|g6<|m9 ?_;refine .inl ⟨J,?_⟩;have h:=xL hx25 h;exact eJ h (WP (λl=>if l=2005 then 2010 else if l=2003 then 2008 else if l=2002 then 2007 else if l=2001 then 2006 else l))

theorem b4y{a0 a1 a2}:PO Tryz.prog 121 [a7.Pv a0,.I a1,.I a2] (P4 a0 a1 a2) λr=>.tup [a7.Pv r.1,.I r.2.1,.I r.2.2]:=by
 refine pO Tryz.func121 λr h _ _=>?_;refine S4 4 J<|S3 1 J<|cF h b9Y J J λv1 _ h=>S2 5 J<|j5<|S4 2 J ?_;refine cN h (λhc h=>?_) λhc h=>?_
 ·refine S4 5 J ?_;refine b9 ?_;cases h;exact⟨J,[_,_,_],⟨oL J J J a5q a5t nl J,⟨J,⟨J,tr⟩⟩⟩,J,io⟩
 ·refine c8 ?_;refine j5<|S3 1 J<|cA h a7A J J λv2 _ h=>S2 1 J ?_;refine cN h (λhc h=>?_) λhc h=>?_
  ·refine S4 4 J ?_;refine b9 ?_;cases h;exact⟨J,[_,_,_],⟨oL J J J a5q a5t nl J,⟨J,⟨J,tr⟩⟩⟩,J,io⟩
  ·refine c8 ?_;refine S3 7 J<|y0 J (s6 (cs:=[.I (r8 (a0.Serial+1)),.I 0,.I 0,.I a2,.bool false,.L iF v1.1]) J c8k c8t J J J)<|cF h a6b J J λv3 _ h=>S2 8 J<|j5<|S4 2 J ?_;refine cN h (λhc h=>?_) λhc h=>?_
   ·refine S4 5 J ?_;refine b9 ?_;cases h;exact⟨J,[_,_,_],⟨oL J J J a5q a5t nl J,⟨J,⟨J,tr⟩⟩⟩,J,io⟩
   ·refine c8 ?_;refine S3 4 J<|y0 J (s6 (cs:=[.L b7.Pv v3.1.a8,.I v3.1.Last,.I (r8 (a0.Serial+1))]) J c2x c2F J J J)<|S2 4 J<|b9 ?_;cases h;exact⟨J,[_,_,_],⟨oL J J J a5q a5t nl J,⟨J,⟨J,tr⟩⟩⟩,J,io⟩

theorem a6q{a0}:PO Tryz.prog 213 [.I a0] (a1m a0) λr=>.tup [.I r.1,.I r.2.1,.bool r.2.2]:=by
 refine pO Tryz.func213 λr h _ _=>?_;refine S4 3 J<|j5<|S4 2 J ?_;refine cN h (λhc h=>?_) λhc h=>?_
 ·refine S4 3 J ?_;refine b9 ?_;cases h;exact f3
 ·refine c8 ?_;refine S3 2 J<|C1 h λv1 hv1 h=>y0 J (b3p J J hv1)<|C1 h λv2 hv2 h=>y0 J (b3p J J hv2)<|S1 2 J<|C1 h λv3 hv3 h=>y0 J (b3p J J hv3)<|S2 2 J<|j5<|S3 3 J<|n0 J (λhg=>mI J)<|n0 J (λhg=>C8 (ct hg) J J)<|y0 J (M1 J J J (λq=>eqF q))<|yN ?_;refine cN h (λhc h=>?_) λhc h=>?_
  ·refine S4 3 J ?_;refine b9 ?_;cases h;exact f3
  ·refine c8 ?_;refine S4 5 J<|b9 ?_;cases h;exact f3

theorem a61{a0}:PO Tryz.prog 187 [.I a0] (a2x a0) λr=>.I r:=by
 refine pO Tryz.func187 λr h _ _=>?_;refine S4 1 J<|S3 1 J<|cA h a6q J J λv1 _ h=>S2 7 J<|S4 2 J<|b9 ?_;cases h;exact f1

theorem a8E{a0}:PO Tryz.prog 188 [.I a0] (a3D a0) λr=>.I r:=by
 refine pO Tryz.func188 λr h _ _=>?_;refine S4 1 J<|S3 1 J<|cA h a6q J J λv1 _ h=>S2 7 J<|S4 2 J<|b9 ?_;cases h;exact f1

theorem F9{a0 a1}:PO Tryz.prog 155 [c4.Pv a0,.I a1] (p7 a0 a1) λr=>.tup [.I r.1,.I r.2]:=by
 refine pO Tryz.func155 λr h _ _=>?_;refine S4 3 J<|j5<|S4 2 J ?_;refine cN h (λhc h=>?_) λhc h=>?_
 ·refine S4 2 J ?_;refine b9 ?_;cases h;exact f2
 ·refine c8 ?_;refine S3 1 J<|cA h a61 J J λv1 _ h=>S2 1 J<|j5<|S3 3 J<|n0 J (λhg=>mI J)<|n0 J (λhg=>oF J c2r J)<|n0 J (λhg=>oS (ct hg) J J c8a J)<|n0 J (λhg=>a6v (f:=b7.Pv) (ct hg) N2)<|n0 J (λhg=>C8 (ct hg) (ct hg) J)<|y0 J (M1 J J J (λq=>eqF q))<|yN ?_;refine cN h (λhc h=>?_) λhc h=>?_
  ·refine S4 2 J ?_;refine b9 ?_;cases h;exact f2
  ·refine c8 ?_;refine S3 3 J<|iL h J J N2 X5 λv2 _ h=>S2 3 J<|j5<|dr [] w7 (by kernel_rfl) (by kernel_rfl)<|S7 3 J<|C1 h λv3 hv3 h=>d2 J (Z8 J a8E J hv3) J<|S7 2 J<|a9F J (λhg _ hN=>oF J b7i J) J<|b4L J (λhg=>oS (ct hg) J J I7 J) J<|a9F J (λhg _ hN=>C8 (ct hg) J J) J<|a9F J (λhg _ hN=>om (d:=.bool (v2.State != 1)) (ct hg)) J<|a9F (a6z J J J) (λhg _ hN=>oF J b7i J) J<|b4L (a6z J J J) (λhg=>oS (ct hg) J J I7 J) J<|a9F (a6z J J J) (λhg _ hN=>C8 (ct hg) J J) J<|a9F J (λhg _ hN=>E7 (ct hg) J J (λq=>c8x hg (eqT q))) J<|d7 J (λ_ hN=>M1 J J J (λq=>eqF q)) J<|X7 ?_;refine cN h (λhc h=>?_) λhc h=>?_
   ·refine S4 2 J ?_;refine b9 ?_;cases h;exact f2
   ·refine c8 ?_;refine S4 3 J<|b9 ?_;cases h;exact f2

theorem a1P{a0 a1}:PO Tryz.prog 98 [c4.Pv a0,.I a1] (B5 a0 a1) λr=>.tup [l4.Pv r.1,.I r.2]:=by
 refine pO Tryz.func98 λr h _ _=>?_;refine S4 3 J<|S4 1 J<|S3 2 J<|cA h F9 J J λv1 _ h=>S2 5 J<|j5<|S4 2 J ?_;refine cN h (λhc h=>?_) λhc h=>?_
 ·refine S3 2 J ?_;refine a7F (x':=.agg [.I 0,.I 0,.I 0,.I 0,.bool false,.nl]) (cl':=true) J J (.inl J) a6P<|S2 1 J<|b9 ?_;cases h;exact⟨J,[_,_],⟨oL J J J b2H a6P nl J,⟨J,tr⟩⟩,J,io⟩
 ·refine c8 ?_;refine j5<|S3 3 J<|iL h J J N2 X5 λv2 hv2 h=>S2 3 J ?_;refine cN h (λhc h=>?_) λhc h=>?_
  ·refine S3 1 J ?_;refine a7F (x':=.agg [.I 0,.I 0,.I 0,.I 0,.bool false,.nl]) (cl':=true) J J (.inl J) a6P<|S2 1 J<|b9 ?_;cases h;exact⟨J,[_,_],⟨oL J J J b2H a6P nl J,⟨J,tr⟩⟩,J,io⟩
  ·refine c8 ?_;refine S3 3 J<|y0 J (a0i (f:=b7.Pv) (cs:=b7.Pc v2) hv2 J J N2 X5 J J)<|S2 4 J<|b9 ?_;cases h;exact⟨J,[_,_],⟨oL J J J b2H a6P nl J,⟨J,tr⟩⟩,J,io⟩

theorem A1{a0 a1}:PO Tryz.prog 54 [a7.Pv a0,.I a1] (r7 a0 a1) λr=>.tup [l4.Pv r.1,.I r.2]:=by
 refine pO Tryz.func54 λr h _ _=>?_;refine S4 3 J<|S3 3 J<|cF h a1P J J λv1 _ h=>S2 4 J<|b9 ?_;cases h;exact⟨J,[_,_],⟨oL J J J b2H a6P nl J,⟨J,tr⟩⟩,J,io⟩

theorem b3e{a0 a1}:PO Tryz.prog 204 [b6.Pv a0,.I a1] (a4f a0 a1) λr=>.bool r:=by
 refine pO Tryz.func204 λr h _ _=>?_;refine S4 2 J<|S3 3 J<|cF h A1 J J λv1 _ h=>S2 6 J<|S4 3 J<|b9 ?_;cases h;exact f1

theorem Q6{a0 a1}:PO Tryz.prog 165 [b6.Pv a0,.I a1] (I1 a0 a1) λr=>.bool r:=by
 refine pO Tryz.func165 λr h _ _=>?_;unfold I1 at h;refine S4 2 J<|S3 3 J<|n0 J (λhg=>oL J J J o7 n7 nl J)<|n0 J (λhg=>mI J)<|C1 h λv1 hv1 h=>n0 J (λhg=>Z8 J b3e (a3x (ct hg) (a3x (ct hg) J)) (a2Z hv1 hg))<|y0 J (M1 J J J (λq=>eqF q))<|S2 1 J<|b9 ?_;cases h;exact f1

theorem X6{a0}:PO Tryz.prog 209 [.I a0] (D6 a0) λr=>.bool r:=by
 refine pO Tryz.func209 λr h _ _=>?_;unfold D6 at h;refine S4 1 J<|S4 3 J<|b9 ?_;cases h;exact f1

theorem a9D{a0}:PO Tryz.prog 179 [.I a0] (a3y a0) λr=>.tup [.I r.1,.I r.2]:=by
 refine pO Tryz.func179 λr h _ _=>?_;refine S4 2 J<|j5<|S3 1 J<|cA h X6 J J λv1 _ h=>yN ?_;refine cN h (λhc h=>?_) λhc h=>?_
 ·refine S4 2 J ?_;refine b9 ?_;cases h;exact f2
 ·refine c8 ?_;refine S3 1 J<|y0 J (c31 J J J)<|S2 3 J<|b9 ?_;cases h;exact f2

theorem b5L{a0}:PO Tryz.prog 133 [.I a0] (a7I a0) λr=>.I r:=by
 refine pO Tryz.func133 λr h _ _=>?_;refine S4 1 J<|S3 1 J<|cA h a9D J J λv1 _ h=>S2 5 J<|S4 2 J<|b9 ?_;cases h;exact f1

theorem a6J{a0 a1 a2}:PO Tryz.prog 130 [c4.Pv a0,.I a1,l4.Pv a2] (H4 a0 a1 a2) λr=>.tup [c4.Pv r.1,.I r.2]:=by
 refine pO Tryz.func130 λr h _ _=>?_;refine S4 4 J<|S3 2 J<|cA h F9 J J λv1 _ h=>S2 5 J<|j5<|S4 2 J ?_;refine cN h (λhc h=>?_) λhc h=>?_
 ·refine S4 4 J ?_;refine b9 ?_;cases h;exact⟨J,[_,_],⟨oL J J J a2K a1d nl J,⟨J,tr⟩⟩,J,io⟩
 ·refine c8 ?_;refine S3 3 J<|iL h J J N2 X5 λv2 _ h=>S2 3 J<|S4 3 J<|S3 3 J<|cF h G0 J J λv3 _ h=>S2 2 J<|b9 ?_;cases h;exact⟨J,[_,_],⟨oL J J J a2K a1d nl J,⟨J,tr⟩⟩,J,io⟩

theorem a0e{a0 a1 a2}:PO Tryz.prog 81 [a7.Pv a0,.I a1,l4.Pv a2] (H5 a0 a1 a2) λr=>.tup [a7.Pv r.1,.I r.2]:=by
 refine pO Tryz.func81 λr h _ _=>?_;refine S4 4 J<|S4 1 J<|S3 4 J<|cF h a6J J J λv1 _ h=>S2 6 J<|S4 4 J<|b9 ?_;cases h;exact⟨J,[_,_],⟨oL J J J a5q a5t nl J,⟨J,tr⟩⟩,J,io⟩

theorem a3G{a0 a1}:PO Tryz.prog 132 [b6.Pv a0,.I a1,.fn (.func 133) []] (Q5 a0 a1) λr=>b6.Pv r:=by
 refine pO Tryz.func132 λr h _ _=>?_;refine S4 2 J<|S3 3 J<|cF h A1 J J λv1 _ h=>S2 6 J<|j5<|S4 2 J ?_;refine cN h (λhc h=>?_) λhc h=>?_
 ·refine S3 3 J ?_;refine cA h b5L J J λv2 _ h=>S2 2 J<|S5 4 J<|cF h a0e J J λv3 _ h=>S2 5 J<|S4 2 J<|b9 ?_;cases h;exact⟨J,[_],⟨oL J J J o7 n7 nl J,tr⟩,J,io⟩
 ·refine c8 ?_;refine S4 2 J<|b9 ?_;cases h;exact⟨J,[_],⟨oL J J J o7 n7 nl J,tr⟩,J,io⟩

theorem a1p{a0 a1}:PO Tryz.prog 83 [b6.Pv a0,.I a1] (Y1 a0 a1) λr=>b6.Pv r:=by
 refine pO Tryz.func83 λr h _ _=>?_;refine S4 2 J<|S3 2 J<|cF h a3G J J λv1 _ h=>S2 1 J<|b9 ?_;cases h;exact⟨J,[_],⟨oL J J J o7 n7 nl J,tr⟩,J,io⟩

theorem a4K{a0}:PON Tryz.prog 219 [.L iF a0] (J4 a0) λr=>⟨List.map iF r,0,true,1,true⟩:=by
 refine pON Tryz.func219 λr h _ _=>?_;unfold J4 at h;refine S4 1 J<|j5<|S3 1 J<|b62 J l7 λb hb=>yN ?_;refine F7 b J (λhc=>?_) (λhc=>?_)
 ·obtain rfl:a0 = []:=by simpa using hb hc
  refine S4 1 J<|a2D (W1 (t:=2) (l:=920000) (z:=1) J J)<|b9 ?_;cases h;exact⟨J,_,_,J,J,J,J⟩
 ·refine c8 ?_;refine sR<|y0 J (b3q J l7 p9)<|S1 1 J<|y1 J (b7T (f:=iF) h J J (.inl ⟨_,J,J⟩) l7 p9 X0 E1 J (λ_=>J)) J<|S2 1 J<|b9 ?_;exact⟨J,_,_,J,J,J,J⟩

theorem a6G{a0 a1}:PO Tryz.prog 197 [F4.Pv a0,b6.Pv a1] (L9 a0 a1) λr=>b6.Pv r:=by
 refine pO Tryz.func197 λr h _ _=>?_;unfold L9 at h;refine S4 3 J<|S3 2 J<|C1 h λv1 hv1 h=>ycN J (b49 J a4K J hv1) J J<|S2 2 J<|S3 6 J<|C1 h λv2 hv2 h=>y0 J (a8H (f:=iF) hv2 J J J J l7 p9 J)<|b38 (f:=iF) (v:=a0.h) hv2 J J (.inl J) p9<|yN<|S4 2 J<|b9 ?_;cases h;exact⟨J,[_],⟨oL J J J o7 n7 nl J,tr⟩,J,io⟩

theorem a8m{a0}:PO Tryz.prog 189 [.I a0] (a1X a0) λr=>.tup [.I r.1,.I r.2]:=by
 refine pO Tryz.func189 λr h _ _=>?_;refine S4 2 J<|j5<|S3 1 J<|cA h X6 J J λv1 _ h=>yN ?_;refine cN h (λhc h=>?_) λhc h=>?_
 ·refine S4 2 J ?_;refine b9 ?_;cases h;exact f2
 ·refine c8 ?_;refine j5<|S4 2 J ?_;refine cN h (λhc h=>?_) λhc h=>?_
  ·refine S4 2 J ?_;refine b9 ?_;cases h;exact f2
  ·refine c8 ?_;refine S4 4 J<|b9 ?_;cases h;exact f2

theorem b5K{a0}:PO Tryz.prog 140 [.I a0] (b0N a0) λr=>.tup [.I r.1,.I r.2]:=by
 refine pO Tryz.func140 λr h _ _=>?_;refine S4 2 J<|S3 1 J<|cA h a8m J J λv1 _ h=>S2 5 J<|S4 4 J<|b9 ?_;cases h;exact f2

theorem a9Z{a0}:PO Tryz.prog 139 [.I a0] (a1o a0) λr=>.I r:=by
 refine pO Tryz.func139 λr h _ _=>?_;refine S4 1 J<|S3 1 J<|cA h b5K J J λv1 _ h=>S2 5 J<|j5<|S4 2 J ?_;refine cN h (λhc h=>?_) λhc h=>?_
 ·refine S4 2 J ?_;refine b9 ?_;cases h;exact f1
 ·refine c8 ?_;refine S4 2 J<|b9 ?_;cases h;exact f1

theorem a1K{a0 a1}:PO Tryz.prog 132 [b6.Pv a0,.I a1,.fn (.func 139) []] (K2 a0 a1) λr=>b6.Pv r:=by
 refine pO Tryz.func132 λr h _ _=>?_;refine S4 2 J<|S3 3 J<|cF h A1 J J λv1 _ h=>S2 6 J<|j5<|S4 2 J ?_;refine cN h (λhc h=>?_) λhc h=>?_
 ·refine S3 3 J ?_;refine cA h a9Z J J λv2 _ h=>S2 2 J<|S5 4 J<|cF h a0e J J λv3 _ h=>S2 5 J<|S4 2 J<|b9 ?_;cases h;exact⟨J,[_],⟨oL J J J o7 n7 nl J,tr⟩,J,io⟩
 ·refine c8 ?_;refine S4 2 J<|b9 ?_;cases h;exact⟨J,[_],⟨oL J J J o7 n7 nl J,tr⟩,J,io⟩

theorem T8{a0 a1}:PO Tryz.prog 90 [b6.Pv a0,.I a1] (A7 a0 a1) λr=>b6.Pv r:=by
 refine pO Tryz.func90 λr h _ _=>?_;refine S4 2 J<|S3 2 J<|cF h a1K J J λv1 _ h=>S2 1 J<|b9 ?_;cases h;exact⟨J,[_],⟨oL J J J o7 n7 nl J,tr⟩,J,io⟩

theorem a0O{a0 a1 a2 a3}:PO Tryz.prog 166 [b6.Pv a0,.I a1,.I a2,.abs (BFn 197 [F4.Pv a3])] (D0 a0 a1 a2 a3) λr=>b6.Pv r:=by
 refine pO Tryz.func166 λr h _ _=>?_;refine S4 2 J<|S3 3 J<|cF h a1p J J λv1 _ h=>C1 h λv2 hv2 h=>b61 (xs:=[b6.Pv v1]) J J c5p J (a6G.2 _ hv2)<|S1 1 J<|cF h T8 J J λv3 _ h=>S2 1 J<|b9 ?_;cases h;exact⟨J,[_],⟨oL J J J o7 n7 nl J,tr⟩,J,io⟩

theorem a5K{a0 a1 a2}:PO Tryz.prog 145 [b6.Pv a0,.I a1,.I a2] (Z5 a0 a1 a2) λr=>.tup [b6.Pv r.1,.I r.2]:=by
 refine pO Tryz.func145 λr h _ _=>?_;refine S4 3 J<|j5<|S3 3 J<|n0 J (λhg=>mI J)<|n0 J (λhg=>oF J b7d J)<|n0 J (λhg=>oS (ct hg) J J b8M J)<|n0 J (λhg=>a6v (f:=iF) (ct hg) l7)<|n0 J (λhg=>C8 (ct hg) (ct hg) J)<|y0 J (M1 J J J (λq=>eqF q))<|yN ?_;refine cN h (λhc h=>?_) λhc h=>?_
 ·refine S4 3 J ?_;refine b9 ?_;cases h;exact⟨J,[_,_],⟨oL J J J o7 n7 nl J,⟨J,tr⟩⟩,J,io⟩
 ·refine c8 ?_;refine j5<|S3 2 J<|cA h Q6 J J λv1 _ h=>S2 1 J ?_;refine cN h (λhc h=>?_) λhc h=>?_
  ·refine S4 3 J ?_;refine b9 ?_;cases h;exact⟨J,[_,_],⟨oL J J J o7 n7 nl J,⟨J,tr⟩⟩,J,io⟩
  ·refine c8 ?_;refine dr [] w7 (by kernel_rfl) (by kernel_rfl)<|S7 4 J<|C1 h λv2 hv2 h=>d0 J (a0i (f:=iF) (cs:=[.I v2]) hv2 J J l7 p9 J J) J<|S7 4 J<|d7 J (λ_ hN=>s6 (cs:=[.I a1,.I a2]) J c5y c5G J J J) J<|d7 J (λ_ hN=>b06 (d:=.agg [.I a1,.I a2]) J) J<|C1 h λv3 hv3 h=>d2f J (z8 J a0O J hv3) J<|D1 (x':=b6.Pv v3) (cl':=true) J J (.inr J) n7<|S8 1 J<|b9 ?_;cases h;exact⟨J,[_,_],⟨oL J J J o7 n7 nl J,⟨J,tr⟩⟩,J,io⟩

theorem E3{a0 a1 a2}:PO Tryz.prog 122 [o5.Pv a0,.I a1,.I a2] (z7 a0 a1 a2) λr=>.tup [b6.Pv r.1,.I r.2]:=by
 refine pO Tryz.func122 λr h _ _=>?_;refine S4 3 J<|j5<|S4 2 J ?_;refine cN h (λhc h=>?_) λhc h=>?_
 ·refine S4 5 J ?_;refine b9 ?_;cases h;exact⟨J,[_,_],⟨oL J J J o7 n7 nl J,⟨J,tr⟩⟩,J,io⟩
 ·refine c8 ?_;refine S3 6 J<|cF h a5K J J λv1 _ h=>S2 4 J<|b9 ?_;cases h;exact⟨J,[_,_],⟨oL J J J o7 n7 nl J,⟨J,tr⟩⟩,J,io⟩

theorem a1t{a0}:PO Tryz.prog 65 [o5.Pv a0] (P6 a0) λr=>.tup [b6.Pv r.1,.I r.2]:=by
 refine pO Tryz.func65 λr h _ _=>?_;refine S4 3 J<|S3 9 J<|cF h b4y J J λv1 _ h=>S2 8 J<|j5<|S4 2 J ?_;refine cN h (λhc h=>?_) λhc h=>?_
 ·refine S4 5 J ?_;refine b9 ?_;cases h;exact⟨J,[_,_],⟨oL J J J o7 n7 nl J,⟨J,tr⟩⟩,J,io⟩
 ·refine c8 ?_;refine S4 4 J<|S3 2 J<|cF h E3 J J λv2 _ h=>S2 4 J<|b9 ?_;cases h;exact⟨J,[_,_],⟨oL J J J o7 n7 nl J,⟨J,tr⟩⟩,J,io⟩

theorem K3{a0 a1}:PO Tryz.prog 78 [b6.Pv a0,.I a1] (I4 a0 a1) λr=>.I r:=by
 refine pO Tryz.func78 λr h _ _=>?_;refine S4 2 J<|j5<|S3 3 J<|n0 J (λhg=>mI J)<|n0 J (λhg=>oF J b7d J)<|n0 J (λhg=>oS (ct hg) J J b8M J)<|n0 J (λhg=>a6v (f:=iF) (ct hg) l7)<|n0 J (λhg=>C8 (ct hg) (ct hg) J)<|y0 J (M1 J J J (λq=>eqF q))<|yN ?_;refine cN h (λhc h=>?_) λhc h=>?_
 ·refine S4 1 J ?_;refine b9 ?_;cases h;exact f1
 ·refine c8 ?_;refine S3 3 J<|iL h J J l7 p9 λv1 _ h=>S2 2 J<|b9 ?_;cases h;exact f1

theorem a0h{a0}:PO Tryz.prog 66 [o5.Pv a0] (F6 a0) λr=>.tup [b6.Pv r.1,.I r.2]:=by
 refine pO Tryz.func66 λr h _ _=>?_;unfold F6 at h;refine S4 3 J<|dr [] w7 (by kernel_rfl) (by kernel_rfl)<|S7 6 J<|C1 h λv1 hv1 h=>d2 J (Z8 J K3 J hv1) J<|C1 h λv2 hv2 h=>d2f J (z8 J E3 J hv2) J<|S7 2 J<|D1 (x':=b6.Pv v2.1) (cl':=true) J J (.inr J) n7<|S8 1 J<|b9 ?_;cases h;exact⟨J,[_,_],⟨oL J J J o7 n7 nl J,⟨J,tr⟩⟩,J,io⟩

theorem a2z{a0}:PO Tryz.prog 67 [o5.Pv a0] (W5 a0) λr=>.tup [b6.Pv r.1,.I r.2]:=by
 refine pO Tryz.func67 λr h _ _=>?_;refine S4 3 J<|S3 1 J<|cF h E3 J J λv1 _ h=>S2 4 J<|b9 ?_;cases h;exact⟨J,[_,_],⟨oL J J J o7 n7 nl J,⟨J,tr⟩⟩,J,io⟩

theorem N7{a0 a1}:PO Tryz.prog 123 [b6.Pv a0,.I a1] (J1 a0 a1) λr=>.tup [.I r.1,.I r.2]:=by
 refine pO Tryz.func123 λr h _ _=>?_;refine S4 3 J<|S3 2 J<|cA h K3 J J λv1 _ h=>S2 1 J<|j5<|S4 2 J ?_;refine cN h (λhc h=>?_) λhc h=>?_
 ·refine S4 2 J ?_;refine b9 ?_;cases h;exact f2
 ·refine c8 ?_;refine S4 3 J<|b9 ?_;cases h;exact f2

theorem b33{a0 a1}:PO Tryz.prog 203 [.L iF a0,.I a1] (a6k a0 a1) λr=>.bool r:=by
 refine pO Tryz.func203 λr h _ _=>?_;unfold a6k at h;refine S4 1 J<|S3 3 J<|n0 J (λhg=>mI J)<|n0 J (λhg=>om (d:=.L iF a0) J)<|n0 J (λhg=>a6v (f:=iF) (ct hg) l7)<|n0 J (λhg=>C8 (ct hg) (ct hg) J)<|y0 J (E7 J J J (λq=>eqT q))<|S2 1 J<|b9 ?_;cases h;exact f1

theorem c2j{a0 a1}:PO Tryz.prog 164 [.L iF a0,.I a1] (b1x a0 a1) λr=>.tup [.I r.1,.I r.2]:=by
 refine pO Tryz.func164 λr h _ _=>?_;refine S4 2 J<|j5<|S3 2 J<|cA h b33 J J λv1 _ h=>S2 1 J ?_;refine cN h (λhc h=>?_) λhc h=>?_
 ·refine S4 2 J ?_;refine b9 ?_;cases h;exact f2
 ·refine c8 ?_;refine S3 2 J<|iL h J J l7 p9 λv2 _ h=>S2 3 J<|b9 ?_;cases h;exact f2

theorem a7z{a0 a1 a2}:PO Tryz.prog 124 [a7.Pv a0,.I a1,.I a2] (Y7 a0 a1 a2) λr=>.tup [.I r.1,.I r.2]:=by
 refine pO Tryz.func124 λr h _ _=>?_;refine S4 3 J<|S3 2 J<|cF h A1 J J λv1 _ h=>S2 6 J<|j5<|S4 2 J ?_;refine cN h (λhc h=>?_) λhc h=>?_
 ·refine S4 3 J ?_;refine b9 ?_;cases h;exact f2
 ·refine c8 ?_;refine S3 3 J<|cA h c2j J J λv2 _ h=>S2 4 J<|b9 ?_;cases h;exact f2

theorem a2A{a0}:PO Tryz.prog 68 [o5.Pv a0] (W6 a0) λr=>.tup [b6.Pv r.1,.I r.2]:=by
 refine pO Tryz.func68 λr h _ _=>?_;refine S4 3 J<|S3 5 J<|cA h N7 J J λv1 _ h=>S2 5 J<|j5<|S4 2 J ?_;refine cN h (λhc h=>?_) λhc h=>?_
 ·refine S4 5 J ?_;refine b9 ?_;cases h;exact⟨J,[_,_],⟨oL J J J o7 n7 nl J,⟨J,tr⟩⟩,J,io⟩
 ·refine c8 ?_;refine dr [] w7 (by kernel_rfl) (by kernel_rfl)<|S7 8 J<|C1 h λv2 hv2 h=>d2 J (Z8 J a7z J hv2) J<|S7 2 J<|C1 h λv3 hv3 h=>d2f J (z8 J E3 J hv3) J<|S7 2 J<|D1 (x':=b6.Pv v3.1) (cl':=true) J J (.inr J) n7<|S8 1 J<|b9 ?_;cases h;exact⟨J,[_,_],⟨oL J J J o7 n7 nl J,⟨J,tr⟩⟩,J,io⟩

theorem b8A{a0 a1 a2}:PO Tryz.prog 222 [.L iF a0,.I a1,.I a2] (b32 a0 a1 a2) λr=>.tup [.L iF r.1,.I r.2]:=by
 refine pO Tryz.func222 λr h _ _=>?_;refine S4 2 J<|j5<|S3 2 J<|cA h b33 J J λv1 _ h=>S2 1 J ?_;refine cN h (λhc h=>?_) λhc h=>?_
 ·refine S4 3 J ?_;refine b9 ?_;cases h;exact f2
 ·refine c8 ?_;refine S3 1 J<|nL J l7<|C1 h λv2 hv2 h=>y1 J (b9q (f:=iF) hv2 J J J l7 p9 E1 X0 J J J) J<|S2 1 J<|S3 2 J<|C1 h λv3 hv3 h=>d1D (f:=iF) hv3 J J J (.inl ⟨_,J,J⟩) l7 p9 (λ_=>J) (by decide)<|yN<|S3 3 J<|C1 h λv4 hv4 h=>y0 J (a8H (f:=iF) hv4 J J J J l7 p9 J)<|b38 (f:=iF) (v:=a2) hv4 J J (.inl J) p9<|yN<|S4 3 J<|b9 ?_;cases h;exact f2

theorem b6R{a0 a1 a2 a3}:PO Tryz.prog 205 [a7.Pv a0,.I a1,.I a2,.I a3] (a8f a0 a1 a2 a3) λr=>.tup [a7.Pv r.1,.I r.2]:=by
 refine pO Tryz.func205 λr h _ _=>?_;refine S4 3 J<|S3 2 J<|cF h A1 J J λv1 _ h=>S2 6 J<|j5<|S4 2 J ?_;refine cN h (λhc h=>?_) λhc h=>?_
 ·refine S4 4 J ?_;refine b9 ?_;cases h;exact⟨J,[_,_],⟨oL J J J a5q a5t nl J,⟨J,tr⟩⟩,J,io⟩
 ·refine c8 ?_;refine j5<|S3 4 J<|cF h b8A J J λv2 _ h=>S2 6 J<|S4 2 J ?_;refine cN h (λhc h=>?_) λhc h=>?_
  ·refine S4 4 J ?_;refine b9 ?_;cases h;exact⟨J,[_,_],⟨oL J J J a5q a5t nl J,⟨J,tr⟩⟩,J,io⟩
  ·refine c8 ?_;refine S3 3 J<|cF h a0e J J λv3 _ h=>S2 4 J<|b9 ?_;cases h;exact⟨J,[_,_],⟨oL J J J a5q a5t nl J,⟨J,tr⟩⟩,J,io⟩

theorem a5L{a0 a1}:PO Tryz.prog 167 [D9.Pv a0,b6.Pv a1] (a0l a0 a1) λr=>b6.Pv r:=by
 refine pO Tryz.func167 λr h _ _=>?_;refine S4 3 J<|S3 8 J<|cF h b6R J J λv1 _ h=>S2 5 J<|S4 2 J<|b9 ?_;cases h;exact⟨J,[_],⟨oL J J J o7 n7 nl J,tr⟩,J,io⟩

theorem a0v{a0 a1 a2 a3}:PO Tryz.prog 166 [b6.Pv a0,.I a1,.I a2,.abs (BFn 167 [D9.Pv a3])] (F5 a0 a1 a2 a3) λr=>b6.Pv r:=by
 refine pO Tryz.func166 λr h _ _=>?_;refine S4 2 J<|S3 3 J<|cF h a1p J J λv1 _ h=>C1 h λv2 hv2 h=>b61 (xs:=[b6.Pv v1]) J J c5l J (a5L.2 _ hv2)<|S1 1 J<|cF h T8 J J λv3 _ h=>S2 1 J<|b9 ?_;cases h;exact⟨J,[_],⟨oL J J J o7 n7 nl J,tr⟩,J,io⟩

theorem b4q{a0 a1 a2 a3}:PO Tryz.prog 125 [b6.Pv a0,.I a1,.I a2,.I a3] (a11 a0 a1 a2 a3) λr=>.tup [b6.Pv r.1,.I r.2]:=by
 refine pO Tryz.func125 λr h _ _=>?_;refine S4 3 J<|S3 4 J<|cA h a7z J J λv1 _ h=>S2 5 J<|j5<|S4 2 J ?_;refine cN h (λhc h=>?_) λhc h=>?_
 ·refine S4 4 J ?_;refine b9 ?_;cases h;exact⟨J,[_,_],⟨oL J J J o7 n7 nl J,⟨J,tr⟩⟩,J,io⟩
 ·refine c8 ?_;refine j5<|S3 2 J<|cA h Q6 J J λv2 _ h=>S2 1 J ?_;refine cN h (λhc h=>?_) λhc h=>?_
  ·refine S4 3 J ?_;refine b9 ?_;cases h;exact⟨J,[_,_],⟨oL J J J o7 n7 nl J,⟨J,tr⟩⟩,J,io⟩
  ·refine c8 ?_;refine S3 6 J<|y0 J (s6 (cs:=[.I a1,.I a2,.I a3]) J c5v c5D J J J)<|y0 J (b06 (d:=.agg [.I a1,.I a2,.I a3]) J)<|cF h a0v J J λv3 _ h=>S2 2 J<|b9 ?_;cases h;exact⟨J,[_,_],⟨oL J J J o7 n7 nl J,⟨J,tr⟩⟩,J,io⟩

theorem a1O{a0}:PO Tryz.prog 69 [o5.Pv a0] (T2 a0) λr=>.tup [b6.Pv r.1,.I r.2]:=by
 refine pO Tryz.func69 λr h _ _=>?_;refine S4 3 J<|S3 5 J<|cA h N7 J J λv1 _ h=>S2 5 J<|j5<|S4 2 J ?_;refine cN h (λhc h=>?_) λhc h=>?_
 ·refine S4 5 J ?_;refine b9 ?_;cases h;exact⟨J,[_,_],⟨oL J J J o7 n7 nl J,⟨J,tr⟩⟩,J,io⟩
 ·refine c8 ?_;refine dr [] w7 (by kernel_rfl) (by kernel_rfl)<|S7 11 J<|C1 h λv2 hv2 h=>d2 J (Z8 J K3 J hv2) J<|C1 h λv3 hv3 h=>d2f J (z8 J b4q J hv3) J<|S7 2 J<|D1 (x':=b6.Pv v3.1) (cl':=true) J J (.inr J) n7<|S8 1 J<|b9 ?_;cases h;exact⟨J,[_,_],⟨oL J J J o7 n7 nl J,⟨J,tr⟩⟩,J,io⟩

theorem b9U{a0 a1}:PO Tryz.prog 206 [c7.Pv a0,.I a1] (b2A a0 a1) λr=>.fn (.func 223) [.rptr (c7.Pc r.1),.rptr [.I r.2]]:=by
 refine pO Tryz.func206 λr h _ _=>?_;unfold b2A at h;refine S4 3 J<|S4 2 J<|b9 ?_;cases h;exact f1

theorem b4z{a0 a1}:PO Tryz.prog 168 [c7.Pv a0,.I a1] (a3W a0 a1) λr=>.bool r:=by
 refine pO Tryz.func168 λr h _ _=>?_;refine S4 3 J ?_;refine jq h (λ_=>St.of [(4,.ptr 2001 0 0)] [(2001,vR (.bool false) 1)]) (λq7 h=>?_) λκ6 h=>?_
 ·refine S4 1 J ?_;refine b9 ?_;cases h;exact⟨J,[_],⟨oS J J J b7c J,tr⟩,J,io⟩
 ·refine S3 1 J ?_;refine cF h b9U J J λv8 _ h=>yN<|k7<|a2D (WPE (λl=>if l=2003 then 4 else if l=2004 then 3 else l) [(3,.ptr 2004 0 0),(4,.ptr 2003 0 0),(7,.fn (.func 223) [.rptr (c7.Pc v8.1),.rptr [.I v8.2]])] [(2003,vR (.bool false) 1),(2004,vR (.I a1) 1)]) ?_;refine a1y (fn:=Tryz.f223) (N1:=24) J Tryz.func223 J J nl J c5r J J (λl16 e17 o18 hR19=>?_);refine S3 2 J<|nL J a6N<|S2 1 J<|k7<|lq h (λs10=>St.of [(1000003,.ptr 2004 0 0),(1000004,.ptr 2003 0 0),(1000007,.fn (.func 223) [.rptr (c7.Pc v8.1),.rptr [.I v8.2]]),(0,.fn (.yield l16) []),(2,.rptr [.I v8.2]),(7,.L g8.Pv v8.1.L),(8,.I (v8.1.L.length:Int)),(9,.I s10)] [(2003,vR (.bool false) 1),(2004,vR (.I a1) 1)]) W λs10 x11 h hx22=>S4 1 J<|j5 ?_;refine cN h (λhc h=>?_) λhc h=>?_
  ·refine c8 ?_;refine j5<|k7<|sR<|iL h J J a6N J7 λv12 _ h=>S2 3 J<|S3 5 J<|n0 J (λhg=>om (d:=.fn (.yield l16) []) J)<|n0 J (λhg=>oL J J J a1a J7 nl J) ?_;rcases Bool.eq_false_or_eq_true ((v12.Kind==v8.2)==true) with hg24 | hg24
   ·have h:=ifT h hg24;refine P5 (WE [(1000003,.ptr 2004 0 0),(1000004,.ptr 2003 0 0),(1000007,.fn (.func 223) [.rptr (c7.Pc v8.1),.rptr [.I v8.2]]),(0,.fn (.yield l16) []),(2,.rptr [.I v8.2]),(7,.L g8.Pv v8.1.L),(8,.I (v8.1.L.length:Int)),(9,.I s10),(17,.bool (v12.Kind==v8.2)),(18,.fn (.yield l16) []),(19,g8.Pv v12)] [(2003,vR (.bool false) 1),(2004,vR (.I a1) 1)]) ?_;refine a6l hR19 (congrArg some hg24) J J J J J (λe25 o26 o27=>?_);refine S6 2 J ?_;refine⟨J,?_⟩;refine k7<|S4 4 J ?_;refine cN h (λhc h=>?_) λhc h=>?_
    ·refine S4 1 J ?_;refine b9 ?_;refine⟨J,?_⟩;refine P5 (WE [(1000003,.ptr 2004 0 0),(1000004,.ptr 2003 0 0),(1000007,.fn (.func 223) [.rptr (c7.Pc v8.1),.rptr [.I v8.2]]),(0,.fn (.yield l16) []),(2,.rptr [.I v8.2]),(7,.L g8.Pv v8.1.L),(8,.I (v8.1.L.length:Int)),(9,.I s10),(17,.bool (v12.Kind==v8.2)),(20,.bool false)] [(2003,vR (.bool true) 1),(2004,vR (.I a1) 1)])<|y0 (congrArg some hg24) (a4Y J J)<|y0 J (a5U J J hg24)<|yN ?_;refine F7 true J (λ_=>?_) (λq=>nomatch q);refine b9 ?_;refine .inr ⟨.ret,J,c6h ?_⟩;have h:=xL hx22 h;cases h;exact⟨J,[_],⟨oS J J J b7c J,tr⟩,J,io⟩
    ·refine c8 ?_;refine⟨J,?_⟩;refine P5 (WE [(1000003,.ptr 2004 0 0),(1000004,.ptr 2003 0 0),(1000007,.fn (.func 223) [.rptr (c7.Pc v8.1),.rptr [.I v8.2]]),(0,.fn (.yield l16) []),(2,.rptr [.I v8.2]),(7,.L g8.Pv v8.1.L),(8,.I (v8.1.L.length:Int)),(9,.I s10),(17,.bool (v12.Kind==v8.2)),(20,.bool true)] [(2003,vR (.bool false) 1),(2004,vR (.I a1) 1)])<|y0 (congrArg some hg24) (a4Y J J)<|y0 J (a5U J J hg24)<|yN ?_;refine F7 false J (λq=>nomatch q) (λ_=>?_);refine c8<|S6 2 J ?_;exact eL h W
   ·have h:=ifF h hg24;refine a1J (congrArg some hg24)<|a1J (congrArg some hg24)<|y0 J (a7U J J hg24)<|yN ?_;refine F7 false J (λq=>nomatch q) (λ_=>?_);refine c8<|S6 2 J ?_;exact eL h W
  ·refine s7 ?_;refine g6<|g6<|m9 ?_;refine .inl ⟨J,?_⟩;have h:=xL hx22 h;exact eJ h (WP (λl=>if l=2001 then 2003 else l))

theorem b1P{a0 a1}:PO Tryz.prog 172 [.L c5.Pv a0,.I a1] (a5l a0 a1) λr=>.bool r:=by
 refine pO Tryz.func172 λr h _ _=>?_;unfold a5l at h;refine S4 1 J<|S3 3 J<|n0 J (λhg=>mI J)<|n0 J (λhg=>om (d:=.L c5.Pv a0) J)<|n0 J (λhg=>a6v (f:=c5.Pv) (ct hg) V1)<|n0 J (λhg=>C8 (ct hg) (ct hg) J)<|y0 J (E7 J J J (λq=>eqT q))<|S2 1 J<|b9 ?_;cases h;exact f1

theorem a6A{a0}:PON Tryz.prog 183 [.L c5.Pv a0] (Y8 a0) λr=>⟨List.map c5.Pv r,0,true,3,true⟩:=by
 refine pON Tryz.func183 λr h _ _=>?_;unfold Y8 at h;refine S4 1 J<|S3 1 J<|nL J V1<|C1 h λv1 hv1 h=>y1 J (b9q (f:=c5.Pv) hv1 J J J V1 W2 b5B c0a J J J) J<|S2 1 J<|S3 2 J<|C1 h λv2 hv2 h=>d1D (f:=c5.Pv) hv2 J J J (.inl ⟨_,J,J⟩) V1 W2 (λ_=>J) (by decide)<|yN<|S4 2 J<|b9 ?_;cases h;exact⟨J,_,_,J,J,J,J⟩

theorem b8F{a0 a1 a2 a3}:PO Tryz.prog 169 [.L c5.Pv a0,.I a1,.I a2,.I a3] (b0E a0 a1 a2 a3) λr=>.tup [.L c5.Pv r.1,.I r.2.1,.I r.2.2]:=by
 refine pO Tryz.func169 λr h _ _=>?_;refine S4 3 J<|j5<|S3 2 J<|cA h b1P J J λv1 _ h=>S2 1 J ?_;refine cN h (λhc h=>?_) λhc h=>?_
 ·refine S4 4 J ?_;refine b9 ?_;cases h;exact f3
 ·refine c8 ?_;refine S3 1 J<|C1 h λv2 hv2 h=>ycN J (b49 J a6A J hv2) J J<|S2 1 J<|S3 6 J<|y0 J (s6 (cs:=[.I a2,.bool (a2 != 0),.I a3]) J c5u b5B J J J)<|C1 h λv3 hv3 h=>y0 J (a8H (f:=c5.Pv) hv3 J J J J V1 W2 J)<|b38 (f:=c5.Pv) (v:=(⟨a2,(a2 != 0),a3⟩:c5)) hv3 J J (.inl J) W2<|yN<|dr [] w7 (by kernel_rfl) (by kernel_rfl)<|S7 3 J<|C1 h λv4 hv4 h=>d0 J (a0i (f:=c5.Pv) (cs:=c5.Pc v4) hv4 J J V1 W2 J J) J<|S8 5 J<|b9 ?_;cases h;exact f3

theorem a64{a0 a1 a2}:PO Tryz.prog 171 [b6.Pv a0,.I a1,.I a2] (a03 a0 a1 a2) λr=>b6.Pv r:=by
 refine pO Tryz.func171 λr h _ _=>?_;refine S4 2 J<|S3 4 J<|cA h F9 J J λv1 _ h=>S2 5 J<|j5<|S4 2 J ?_;refine cN h (λhc h=>?_) λhc h=>?_
 ·refine S3 5 J ?_;refine iL h J J N2 X5 λv2 _ h=>S2 4 J<|S4 6 J<|S5 4 J<|cF h a0e J J λv3 _ h=>S2 5 J<|S4 2 J<|b9 ?_;cases h;exact⟨J,[_],⟨oL J J J o7 n7 nl J,tr⟩,J,io⟩
 ·refine c8 ?_;refine S4 2 J<|b9 ?_;cases h;exact⟨J,[_],⟨oL J J J o7 n7 nl J,tr⟩,J,io⟩

theorem a1F{a0 a1}:PO Tryz.prog 138 [c4.Pv a0,.I a1] (K5 a0 a1) λr=>.tup [c4.Pv r.1,.I r.2]:=by
 refine pO Tryz.func138 λr h _ _=>?_;refine S4 3 J<|S3 2 J<|cA h F9 J J λv1 _ h=>S2 5 J<|j5<|S4 2 J ?_;refine cN h (λhc h=>?_) λhc h=>?_
 ·refine S4 4 J ?_;refine b9 ?_;cases h;exact⟨J,[_,_],⟨oL J J J a2K a1d nl J,⟨J,tr⟩⟩,J,io⟩
 ·refine c8 ?_;refine S3 3 J<|iL h J J N2 X5 λv2 _ h=>S2 3 J<|j5<|S4 4 J ?_;refine cN h (λhc h=>?_) λhc h=>?_
  ·refine S3 3 J ?_;refine y0 J (s6 (cs:=[.I 3,.I v2.Gen,.I 0,.I 0,.I 0,.I 0,.bool false,.nl]) J b5z b0K J J J)<|cF h G0 J J λv3 _ h=>S2 2 J<|b9 ?_;cases h;exact⟨J,[_,_],⟨oL J J J a2K a1d nl J,⟨J,tr⟩⟩,J,io⟩
  ·refine c8 ?_;refine S3 4 J<|y0 J (s6 (cs:=[.I 0,.I (r8 (v2.Gen+1)),.I 0,.I 0,.I 0,.I 0,.bool false,.nl]) J b5z b0K J J J)<|cF h G0 J J λv4 _ h=>S2 2 J<|b9 ?_;cases h;exact⟨J,[_,_],⟨oL J J J a2K a1d nl J,⟨J,tr⟩⟩,J,io⟩

theorem b0Z{a0 a1}:PO Tryz.prog 170 [b6.Pv a0,.I a1] (a2l a0 a1) λr=>b6.Pv r:=by
 refine pO Tryz.func170 λr h _ _=>?_;refine S4 2 J<|S3 2 J<|cF h a64 J J λv1 _ h=>S2 1 J<|S3 4 J<|cA h F9 J J λv2 _ h=>S2 5 J<|j5<|S4 2 J ?_;refine cN h (λhc h=>?_) λhc h=>?_
 ·refine S4 2 J ?_;refine b9 ?_;cases h;exact⟨J,[_],⟨oL J J J o7 n7 nl J,tr⟩,J,io⟩
 ·refine c8 ?_;refine j5<|S3 5 J<|iL h J J N2 X5 λv3 _ h=>S2 3 J<|S3 4 J<|n0 J (λhg=>oF J b2I J)<|n0 J (λhg=>oF (ct hg) b7g J)<|n0 J (λhg=>oS (ct hg) J J I7 J)<|n0 J (λhg=>C8 (ct hg) J J)<|y0 J (E7 J J J (λq=>eqT q))<|yN ?_;refine cN h (λhc h=>?_) λhc h=>?_
  ·refine S5 4 J ?_;refine cF h a1F J J λv4 _ h=>S2 6 J<|S4 2 J<|b9 ?_;cases h;exact⟨J,[_],⟨oL J J J o7 n7 nl J,tr⟩,J,io⟩
  ·refine c8 ?_;refine S4 2 J<|b9 ?_;cases h;exact⟨J,[_],⟨oL J J J o7 n7 nl J,tr⟩,J,io⟩

theorem a90{a0 a1 a2 a3}:PO Tryz.prog 126 [b6.Pv a0,.I a1,.I a2,.I a3] (Z6 a0 a1 a2 a3) λr=>.tup [b6.Pv r.1,.I r.2]:=by
 refine pO Tryz.func126 λr h _ _=>?_;unfold Z6 at h;refine S4 3 J<|j5<|S3 3 J<|n0 J (λhg=>mI J)<|n0 J (λhg=>oF J c2s J)<|n0 J (λhg=>oS (ct hg) J J c8b J)<|n0 J (λhg=>a6v (f:=c5.Pv) (ct hg) V1)<|n0 J (λhg=>C8 (ct hg) (ct hg) J)<|y0 J (M1 J J J (λq=>eqF q))<|S1 1 J<|n0 J (λhg=>oF J c2t J)<|n0 J (λhg=>oL (ct hg) J J a4z a1e nl J)<|n0 J (λhg=>mI J)<|C1 h λv1 hv1 h=>n0 J (λhg=>Z8 J b4z (a3x (ct hg) (a3x (ct hg) J)) (a2Z hv1 hg))<|y0 J (M1 J J J (λq=>eqF q))<|yN ?_;refine cN h (λhc h=>?_) λhc h=>?_
 ·refine S4 3 J ?_;refine b9 ?_;cases h;exact⟨J,[_,_],⟨oL J J J o7 n7 nl J,⟨J,tr⟩⟩,J,io⟩
 ·refine c8 ?_;refine j5<|S3 2 J<|cA h Q6 J J λv2 _ h=>S2 1 J ?_;refine cN h (λhc h=>?_) λhc h=>?_
  ·refine S4 3 J ?_;refine b9 ?_;cases h;exact⟨J,[_,_],⟨oL J J J o7 n7 nl J,⟨J,tr⟩⟩,J,io⟩
  ·refine c8 ?_;refine S3 5 J<|cF h b8F J J λv3 _ h=>S2 7 J<|S4 3 J<|S3 2 J<|cF h a64 J J λv4 _ h=>S1 1 J<|cF h b0Z J J λv5 _ h=>S2 2 J<|b9 ?_;cases h;exact⟨J,[_,_],⟨oL J J J o7 n7 nl J,⟨J,tr⟩⟩,J,io⟩

theorem a1u{a0}:PO Tryz.prog 70 [o5.Pv a0] (P7 a0) λr=>.tup [b6.Pv r.1,.I r.2]:=by
 refine pO Tryz.func70 λr h _ _=>?_;refine S4 3 J<|j5<|S4 4 J ?_;refine cN h (λhc h=>?_) λhc h=>?_
 ·refine S3 8 J ?_;refine cF h a90 J J λv1 _ h=>S2 4 J<|b9 ?_;cases h;exact⟨J,[_,_],⟨oL J J J o7 n7 nl J,⟨J,tr⟩⟩,J,io⟩
 ·refine c8 ?_;refine S3 5 J<|cA h N7 J J λv2 _ h=>S2 5 J<|j5<|S4 2 J ?_;refine cN h (λhc h=>?_) λhc h=>?_
  ·refine S4 5 J ?_;refine b9 ?_;cases h;exact⟨J,[_,_],⟨oL J J J o7 n7 nl J,⟨J,tr⟩⟩,J,io⟩
  ·refine c8 ?_;refine S3 9 J<|cF h a90 J J λv3 _ h=>S2 4 J<|b9 ?_;cases h;exact⟨J,[_,_],⟨oL J J J o7 n7 nl J,⟨J,tr⟩⟩,J,io⟩

theorem b60{a0 a1}:PO Tryz.prog 127 [.L c5.Pv a0,.I a1] (a5k a0 a1) λr=>.tup [.I r.1,.I r.2]:=by
 refine pO Tryz.func127 λr h _ _=>?_;refine S4 2 J<|j5<|S3 2 J<|cA h b1P J J λv1 _ h=>S2 1 J ?_;refine cN h (λhc h=>?_) λhc h=>?_
 ·refine S4 2 J ?_;refine b9 ?_;cases h;exact f2
 ·refine c8 ?_;refine j5<|S3 2 J<|iL h J J V1 W2 λv2 hv2 h=>S1 4 J<|n0 J (λhg=>om (d:=.L c5.Pv a0) J)<|n0 J (λhg=>mI J)<|n0 J (λhg=>a0i (f:=c5.Pv) (cs:=c5.Pc v2) hv2 (ct hg) (ct hg) V1 W2 J J)<|n0 J (λhg=>Z9 (ct hg) c1t J)<|n0 J (λhg=>a1w (ct hg) b7c J)<|n0 J (λhg=>a4Y (ct hg) J)<|y0 J (M1 J J J (λq=>eqF q))<|yN ?_;refine cN h (λhc h=>?_) λhc h=>?_
  ·refine S4 2 J ?_;refine b9 ?_;cases h;exact f2
  ·refine c8 ?_;refine S3 2 J<|y0 J (a0i (f:=c5.Pv) (cs:=c5.Pc v2) hv2 J J V1 W2 J J)<|S2 4 J<|b9 ?_;cases h;exact f2

theorem a3I{a0}:PO Tryz.prog 71 [o5.Pv a0] (T9 a0) λr=>.tup [b6.Pv r.1,.I r.2]:=by
 refine pO Tryz.func71 λr h _ _=>?_;unfold T9 at h;refine S4 3 J<|dr [] w7 (by kernel_rfl) (by kernel_rfl)<|S7 7 J<|C1 h λv1 hv1 h=>d2 J (Z8 J b60 J hv1) J<|S7 2 J<|C1 h λv2 hv2 h=>d2f J (z8 J E3 J hv2) J<|S7 2 J<|D1 (x':=b6.Pv v2.1) (cl':=true) J J (.inr J) n7<|S8 1 J<|b9 ?_;cases h;exact⟨J,[_,_],⟨oL J J J o7 n7 nl J,⟨J,tr⟩⟩,J,io⟩

theorem a9X{a0 a1}:PO Tryz.prog 211 [.I a0,.I a1] (a3i a0 a1) λr=>.fn (.func 224) [.rptr [.I r.1],.rptr [.I r.2]]:=by
 refine pO Tryz.func211 λr h _ _=>?_;unfold a3i at h;refine S4 3 J<|S4 2 J<|b9 ?_;cases h;exact f1

theorem a9U{a0 a1}:PO Tryz.prog 225 [.I a0,.I a1] (Z3 a0 a1) λr=>.I r:=by
 refine pO Tryz.func225 λr h _ _=>?_;refine S4 1 J<|j5<|S4 2 J ?_;refine cN h (λhc h=>?_) λhc h=>?_
 ·refine S4 1 J ?_;refine b9 ?_;cases h;exact f1
 ·refine c8 ?_;refine S3 4 J<|C1 h λv1 hv1 h=>y0 J (b3p J J hv1)<|S2 1 J<|j5<|S4 2 J ?_;refine cN h (λhc h=>?_) λhc h=>?_
  ·refine S6 4 J ?_;refine S4 2 J<|b9 ?_;cases h;exact f1
  ·refine c8 ?_;refine S4 2 J<|b9 ?_;cases h;exact f1

theorem a5H{a0 a1}:PO Tryz.prog 185 [.L b8.Pv a0,.I a1] (U5 a0 a1) λr=>.I r:=by
 refine pO Tryz.func185 λr h _ _=>?_;refine S4 3 J ?_;refine jq h (λ_=>St.of [(4,.ptr 2001 0 0)] [(2001,vR (.I 0) 1)]) (λq9 h=>?_) λκ8 h=>?_
 ·refine S4 1 J ?_;refine b9 ?_;cases h;exact⟨J,[_],⟨oS J J J I7 J,tr⟩,J,io⟩
 ·refine S3 1 J ?_;refine nL J a0I<|S1 1 J<|cF h a9X J J λv10 _ h=>yN<|k7<|a2D (WPE (λl=>if l=2004 then 4 else if l=2005 then 3 else if l=2006 then 2 else l) [(2,.ptr 2006 0 0),(3,.ptr 2005 0 0),(4,.ptr 2004 0 0),(9,.fn (.func 224) [.rptr [.I v10.1],.rptr [.I v10.2]])] [(2004,vR (.I 0) 1),(2005,vR (.I a1) 1),(2006,vR (.L b8.Pv a0) 1)]) ?_;refine a1y (fn:=Tryz.f224) (N1:=20) J Tryz.func224 J J nl J c0d J J (λl17 e18 o19 hR20=>?_);refine S4 2 J<|k7<|lq h (λs12=>St.of [(1000002,.ptr 2006 0 0),(1000003,.ptr 2005 0 0),(1000004,.ptr 2004 0 0),(1000009,.fn (.func 224) [.rptr [.I v10.1],.rptr [.I v10.2]]),(0,.fn (.yield l17) []),(1,.rptr [.I v10.1]),(2,.rptr [.I v10.2]),(5,.I v10.1),(6,.I s12)] [(2004,vR (.I 0) 1),(2005,vR (.I a1) 1),(2006,vR (.L b8.Pv a0) 1)]) W λs12 x13 h hx23=>S4 1 J<|j5 ?_;refine cN h (λhc h=>?_) λhc h=>?_
  ·refine c8 ?_;refine j5<|k7<|S4 2 J<|drY [] 8 w7 (by kernel_rfl) (by kernel_rfl) (by kernel_rfl) (by kernel_rfl) nl<|S7 3 J<|C1 h λv14 hv24 h=>d2 J (Z8 J a9U J hv24) J<|S7 3 J<|C1 h λv15 hv25 h=>d7 J (λ_ hN=>b3p J J hv25) J<|X7<|c4e (WE [(1000002,.ptr 2006 0 0),(1000003,.ptr 2005 0 0),(1000004,.ptr 2004 0 0),(1000009,.fn (.func 224) [.rptr [.I v10.1],.rptr [.I v10.2]]),(0,.fn (.yield l17) []),(1,.rptr [.I v10.1]),(2,.rptr [.I v10.2]),(5,.I v10.1),(6,.I s12),(9,.fn (.yield l17) []),(16,.I v15)] [(2004,vR (.I 0) 1),(2005,vR (.I a1) 1),(2006,vR (.L b8.Pv a0) 1)]) ?_;refine b39 J hR20 J J J J J J (λe26 o27 o28=>?_);refine S6 1 J ?_;refine⟨J,?_⟩;refine k7<|j5<|S3 2 J<|iL h J J a0I a0D λv16 hv29 h=>S2 3 J ?_;refine cN h (λhc h=>?_) λhc h=>?_
   ·refine s7 ?_;refine g6<|a5w (by decide) ?_;refine⟨J,?_⟩;refine⟨_,b36 [(1000002,.ptr 2006 0 0),(1000003,.ptr 2005 0 0),(1000004,.ptr 2004 0 0),(1000009,.fn (.func 224) [.rptr [.I v10.1],.rptr [.I v10.2]]),(0,.fn (.yield l17) []),(1,.rptr [.I v10.1]),(2,.rptr [.I v10.2]),(5,.I v10.1),(6,.I s12),(17,.bool false)] [(2004,vR (.I 0) 1),(2005,vR (.I a1) 1),(2006,vR (.L b8.Pv a0) 1)] ⟨J,J,J,J,J,J,J,J,J,J,J,J,J,J,J,J,J,J,J,J,J,J,J,J,J,J,J,J,J,J,tr⟩ ⟨rS,rS,rS,tr⟩,?_⟩;refine S8 1 J ?_;refine F7 true J (λ_=>?_) (λq=>nomatch q);refine b9 ?_;refine .inr ⟨.exit 0,J,d2j ?_⟩;refine m9 ?_;have h:=xL hx23 h;exact eJ h (WP (λl=>if l=2001 then 2004 else l))
   ·refine c8 ?_;refine dr [] w7 (by kernel_rfl) (by kernel_rfl)<|S7 2 J<|d0 J (a0i (f:=b8.Pv) (cs:=b8.Pc v16) hv29 J J a0I a0D J J) J<|S7 4 J<|b4L J (λhg=>oS J J J b5w J) J<|a9F J (λhg _ hN=>mI J) J<|b4L J (λhg=>a0i (f:=b8.Pv) (cs:=b8.Pc v16) hv29 (ct hg) (ct hg) a0I a0D J J) J<|a9F J (λhg _ hN=>Z9 (ct hg) c1u J) J<|b4L J (λhg=>a1w (ct hg) I7 J) J<|b4L J (λhg=>oS J J J I7 J) J<|a9F J (λhg _ hN=>C8 (ct hg) (ct hg) J) J<|d7 J (λ_ hN=>E7 J J J (λq=>eqT q)) J<|X7 ?_;refine cN h (λhc h=>?_) λhc h=>?_
    ·refine S4 2 J ?_;refine b9 ?_;refine⟨J,?_⟩;refine⟨_,b36 [(1000002,.ptr 2006 0 0),(1000003,.ptr 2005 0 0),(1000004,.ptr 2004 0 0),(1000009,.fn (.func 224) [.rptr [.I v10.1],.rptr [.I v10.2]]),(0,.fn (.yield l17) []),(1,.rptr [.I v10.1]),(2,.rptr [.I v10.2]),(5,.I v10.1),(6,.I s12),(17,.bool false)] [(2004,vR (.I v15) 1),(2005,vR (.I a1) 1),(2006,vR (.L b8.Pv a0) 1)] ⟨J,J,J,J,J,J,J,J,J,J,J,J,J,J,J,J,J,J,J,J,J,J,J,J,J,J,J,J,J,J,tr⟩ ⟨rS,rS,rS,tr⟩,?_⟩;refine S8 1 J ?_;refine F7 true J (λ_=>?_) (λq=>nomatch q);refine b9 ?_;refine .inr ⟨.ret,J,c6h ?_⟩;have h:=xL hx23 h;cases h;exact⟨J,[_],⟨oS J J J I7 J,tr⟩,J,io⟩
    ·refine c8 ?_;refine⟨J,?_⟩;refine⟨_,b36 [(1000002,.ptr 2006 0 0),(1000003,.ptr 2005 0 0),(1000004,.ptr 2004 0 0),(1000009,.fn (.func 224) [.rptr [.I v10.1],.rptr [.I v10.2]]),(0,.fn (.yield l17) []),(1,.rptr [.I v10.1]),(2,.rptr [.I v10.2]),(5,.I v10.1),(6,.I s12),(17,.bool true)] [(2004,vR (.I 0) 1),(2005,vR (.I a1) 1),(2006,vR (.L b8.Pv a0) 1)] ⟨J,J,J,J,J,J,J,J,J,J,J,J,J,J,J,J,J,J,J,J,J,J,J,J,J,J,J,J,J,J,tr⟩ ⟨rS,rS,rS,tr⟩,?_⟩;refine S8 1 J ?_;refine F7 false J (λq=>nomatch q) (λ_=>?_);refine c8<|S6 2 J ?_;exact eL h W
  ·refine s7 ?_;refine g6<|g6<|m9 ?_;refine .inl ⟨J,?_⟩;have h:=xL hx23 h;exact eJ h (WP (λl=>if l=2001 then 2004 else l))

theorem a4e{a0 a1}:PO Tryz.prog 175 [.L b8.Pv a0,.I a1] (J0 a0 a1) λr=>.tup [.I r.1,.I r.2]:=by
 refine pO Tryz.func175 λr h _ _=>?_;refine S4 2 J<|S3 2 J<|cA h a5H J J λv1 _ h=>S2 1 J<|j5<|S4 2 J ?_;refine cN h (λhc h=>?_) λhc h=>?_
 ·refine S4 2 J ?_;refine b9 ?_;cases h;exact f2
 ·refine c8 ?_;refine S3 2 J<|iL h J J a0I a0D λv2 _ h=>S2 4 J<|b9 ?_;cases h;exact f2

theorem Y5{a0}:PON Tryz.prog 212 [.L b8.Pv a0] (B6 a0) λr=>⟨List.map b8.Pv r,0,true,3,true⟩:=by
 refine pON Tryz.func212 λr h _ _=>?_;unfold B6 at h;refine S4 1 J<|j5<|S3 1 J<|b62 J a0I λb hb=>yN ?_;refine F7 b J (λhc=>?_) (λhc=>?_)
 ·obtain rfl:a0 = []:=by simpa using hb hc
  refine S4 1 J<|a2D (W1 (t:=2) (l:=920000) (z:=3) J J)<|b9 ?_;cases h;exact⟨J,_,_,J,J,J,J⟩
 ·refine c8 ?_;refine sR<|y0 J (b3q J a0I a0D)<|S1 1 J<|y1 J (b7T (f:=b8.Pv) h J J (.inl ⟨_,J,J⟩) a0I a0D c0b b15 J (λ_=>J)) J<|S2 1 J<|b9 ?_;exact⟨J,_,_,J,J,J,J⟩

theorem a5I{a0 a1 a2}:PO Tryz.prog 186 [.L b8.Pv a0,.I a1,b8.Pv a2] (a02 a0 a1 a2) λr=>.L b8.Pv r:=by
 refine pO Tryz.func186 λr h _ _=>?_;unfold a02 at h;refine S4 2 J<|S3 1 J<|C1 h λv1 hv1 h=>ycN J (b49 J Y5 J hv1) J J<|S2 1 J<|S3 3 J<|C1 h λv2 hv2 h=>y0 J (a8H (f:=b8.Pv) hv2 J J J J a0I a0D J)<|b38 (f:=b8.Pv) (v:=a2) hv2 J J (.inl J) a0D<|yN<|S4 2 J<|b9 ?_;cases h;exact f1

theorem a9T{a0 a1}:PO Tryz.prog 136 [.L b8.Pv a0,.I a1] (U4 a0 a1) λr=>.tup [.L b8.Pv r.1,.I r.2.1,.I r.2.2]:=by
 refine pO Tryz.func136 λr h _ _=>?_;refine S4 3 J<|S3 2 J<|cA h a5H J J λv1 _ h=>S2 1 J<|j5<|S4 2 J ?_;refine cN h (λhc h=>?_) λhc h=>?_
 ·refine S4 4 J ?_;refine b9 ?_;cases h;exact f3
 ·refine c8 ?_;refine dr [] w7 (by kernel_rfl) (by kernel_rfl)<|S7 2 J<|d7 J (λ_ hN=>s6 (cs:=[.I 2,.I 0,.I 0]) J c0g b15 J J J) J<|C1 h λv2 hv2 h=>d2f J (z8 J a5I J hv2) J<|S7 2 J<|C1 h λv3 hv3 h=>d0 J (a0i (f:=b8.Pv) (cs:=b8.Pc v3) hv3 J J a0I a0D J J) J<|S8 5 J<|b9 ?_;cases h;exact f3

theorem b7C{a0 a1 a2}:PO Tryz.prog 207 [.L b8.Pv a0,.I a1,.I a2] (a62 a0 a1 a2) λr=>.tup [.L b8.Pv r.1,.I r.2]:=by
 refine pO Tryz.func207 λr h _ _=>?_;refine S4 3 J<|S3 2 J<|y0 J (s6 (cs:=[.I 1,.I a1,.I a2]) J c0g b15 J J J)<|S2 2 J<|j5<|S3 2 J<|cA h a5H J J λv1 _ h=>S2 1 J<|S4 2 J ?_;refine cN h (λhc h=>?_) λhc h=>?_
 ·refine S3 3 J ?_;refine cF h a5I J J λv2 _ h=>S2 2 J<|b9 ?_;cases h;exact⟨J,[_,_],⟨oS J J J b5w J,⟨oS J J J a8P J,tr⟩⟩,J,io⟩
 ·refine c8 ?_;refine jq h (λ_=>St.of [(3,.ptr 2004 0 0),(6,.ptr 2003 0 0),(7,.ptr 2002 0 0)] [(2002,vR (.I 0) 1),(2003,vR (.nl) 1),(2004,vR (.L b8.Pv a0) 1)]) (λq12 h=>?_) λκ11 h=>?_
  ·refine S4 3 J ?_;refine b9 ?_;cases h;exact⟨J,[_,_],⟨oS J J J b5w J,⟨oS J J J a8P J,tr⟩⟩,J,io⟩
  ·refine S3 1 J ?_;refine nL J a0I<|S1 1 J<|cF h a9X J J λv13 _ h=>yN<|k7<|a2D (WPE (λl=>if l=2005 then 8 else if l=2006 then 7 else if l=2007 then 6 else if l=2008 then 3 else l) [(3,.ptr 2008 0 0),(6,.ptr 2007 0 0),(7,.ptr 2006 0 0),(8,.ptr 2005 0 0),(26,.fn (.func 224) [.rptr [.I v13.1],.rptr [.I v13.2]])] [(2005,vR (.agg [.I 1,.I a1,.I a2]) 3),(2006,vR (.I 0) 1),(2007,vR (.nl) 1),(2008,vR (.L b8.Pv a0) 1)]) ?_;refine a1y (fn:=Tryz.f224) (N1:=20) J Tryz.func224 J J nl J c0d J J (λl20 e21 o22 hR23=>?_);refine S4 2 J<|k7<|lq h (λs15=>St.of [(1000003,.ptr 2008 0 0),(1000006,.ptr 2007 0 0),(1000007,.ptr 2006 0 0),(1000008,.ptr 2005 0 0),(1000026,.fn (.func 224) [.rptr [.I v13.1],.rptr [.I v13.2]]),(0,.fn (.yield l20) []),(1,.rptr [.I v13.1]),(2,.rptr [.I v13.2]),(5,.I v13.1),(6,.I s15)] [(2005,vR (.agg [.I 1,.I a1,.I a2]) 3),(2006,vR (.I 0) 1),(2007,vR (.nl) 1),(2008,vR (.L b8.Pv a0) 1)]) W λs15 x16 h hx26=>S4 1 J<|j5 ?_;refine cN h (λhc h=>?_) λhc h=>?_
   ·refine c8 ?_;refine j5<|k7<|S4 2 J<|drY [] 8 w7 (by kernel_rfl) (by kernel_rfl) (by kernel_rfl) (by kernel_rfl) nl<|S7 3 J<|C1 h λv17 hv27 h=>d2 J (Z8 J a9U J hv27) J<|S7 3 J<|C1 h λv18 hv28 h=>d7 J (λ_ hN=>b3p J J hv28) J<|X7<|c4e (WE [(1000003,.ptr 2008 0 0),(1000006,.ptr 2007 0 0),(1000007,.ptr 2006 0 0),(1000008,.ptr 2005 0 0),(1000026,.fn (.func 224) [.rptr [.I v13.1],.rptr [.I v13.2]]),(0,.fn (.yield l20) []),(1,.rptr [.I v13.1]),(2,.rptr [.I v13.2]),(5,.I v13.1),(6,.I s15),(9,.fn (.yield l20) []),(16,.I v18)] [(2005,vR (.agg [.I 1,.I a1,.I a2]) 3),(2006,vR (.I 0) 1),(2007,vR (.nl) 1),(2008,vR (.L b8.Pv a0) 1)]) ?_;refine b39 J hR23 J J J J J J (λe29 o30 o31=>?_);refine S6 1 J ?_;refine⟨J,?_⟩;refine k7<|S3 2 J<|iL h J J a0I a0D λv19 _ h=>S2 3 J ?_;refine cN h (λhc h=>?_) λhc h=>?_
    ·refine S3 3 J ?_;refine cF h a5I J J λv20 _ h=>S2 2 J<|b9 ?_;refine⟨J,?_⟩;refine⟨_,b36 [(1000003,.ptr 2008 0 0),(1000006,.ptr 2007 0 0),(1000007,.ptr 2006 0 0),(1000008,.ptr 2005 0 0),(1000026,.fn (.func 224) [.rptr [.I v13.1],.rptr [.I v13.2]]),(0,.fn (.yield l20) []),(1,.rptr [.I v13.1]),(2,.rptr [.I v13.2]),(5,.I v13.1),(6,.I s15),(17,.bool false)] [(2005,vR (.agg [.I 1,.I a1,.I a2]) 3),(2006,vR (.I 0) 1),(2007,vR (.L b8.Pv v20) 1),(2008,vR (.L b8.Pv a0) 1)] ⟨J,J,J,J,J,J,J,J,J,J,J,J,J,J,J,J,J,J,J,J,J,J,J,J,J,J,J,J,J,J,J,J,J,tr⟩ ⟨rS,rS,rS,rS,tr⟩,?_⟩;refine S8 1 J ?_;refine F7 true J (λ_=>?_) (λq=>nomatch q);refine b9 ?_;refine .inr ⟨.ret,J,c6h ?_⟩;have h:=xL hx26 h;cases h;exact⟨J,[_,_],⟨oS J J J b5w J,⟨oS J J J a8P J,tr⟩⟩,J,io⟩
    ·refine c8 ?_;refine⟨J,?_⟩;refine⟨_,b36 [(1000003,.ptr 2008 0 0),(1000006,.ptr 2007 0 0),(1000007,.ptr 2006 0 0),(1000008,.ptr 2005 0 0),(1000026,.fn (.func 224) [.rptr [.I v13.1],.rptr [.I v13.2]]),(0,.fn (.yield l20) []),(1,.rptr [.I v13.1]),(2,.rptr [.I v13.2]),(5,.I v13.1),(6,.I s15),(17,.bool true)] [(2005,vR (.agg [.I 1,.I a1,.I a2]) 3),(2006,vR (.I 0) 1),(2007,vR (.nl) 1),(2008,vR (.L b8.Pv a0) 1)] ⟨J,J,J,J,J,J,J,J,J,J,J,J,J,J,J,J,J,J,J,J,J,J,J,J,J,J,J,J,J,J,J,J,J,tr⟩ ⟨rS,rS,rS,rS,tr⟩,?_⟩;refine S8 1 J ?_;refine F7 false J (λq=>nomatch q) (λ_=>?_);refine c8<|S6 2 J ?_;exact eL h W
   ·refine s7 ?_;refine g6<|g6<|m9 ?_;refine .inl ⟨J,?_⟩;have h:=xL hx26 h;exact eJ h (WP (λl=>if l=2004 then 2008 else if l=2003 then 2007 else if l=2002 then 2006 else l))

theorem b5P{a0 a1 a2}:PO Tryz.prog 173 [.L b8.Pv a0,.I a1,.I a2] (Q2 a0 a1 a2) λr=>.tup [.L b8.Pv r.1,.I r.2.1,.I r.2.2]:=by
 refine pO Tryz.func173 λr h _ _=>?_;refine S4 3 J<|j5<|S4 2 J ?_;refine cN h (λhc h=>?_) λhc h=>?_
 ·refine S4 4 J ?_;refine b9 ?_;cases h;exact f3
 ·refine c8 ?_;refine S3 2 J<|cA h a4e J J λv1 _ h=>S2 5 J<|j5<|S4 2 J ?_;refine cN h (λhc h=>?_) λhc h=>?_
  ·refine S3 2 J ?_;refine cF h a9T J J λv2 _ h=>S2 7 J<|S4 5 J<|b9 ?_;cases h;exact f3
  ·refine c8 ?_;refine S3 3 J<|cF h b7C J J λv3 _ h=>S2 5 J<|j5<|S4 2 J ?_;refine cN h (λhc h=>?_) λhc h=>?_
   ·refine S4 5 J ?_;refine b9 ?_;cases h;exact f3
   ·refine c8 ?_;refine S4 5 J<|b9 ?_;cases h;exact f3

theorem a6F{a0 a1}:PO Tryz.prog 174 [F3.Pv a0,b6.Pv a1] (T1 a0 a1) λr=>b6.Pv r:=by
 refine pO Tryz.func174 λr h _ _=>?_;unfold T1 at h;refine S4 3 J<|S4 4 J<|S4 2 J<|b9 ?_;cases h;exact⟨J,[_],⟨oL J J J o7 n7 nl J,tr⟩,J,io⟩

theorem a0N{a0 a1 a2 a3}:PO Tryz.prog 166 [b6.Pv a0,.I a1,.I a2,.abs (BFn 174 [F3.Pv a3])] (G6 a0 a1 a2 a3) λr=>b6.Pv r:=by
 refine pO Tryz.func166 λr h _ _=>?_;refine S4 2 J<|S3 3 J<|cF h a1p J J λv1 _ h=>C1 h λv2 hv2 h=>b61 (xs:=[b6.Pv v1]) J J c5m J (a6F.2 _ hv2)<|S1 1 J<|cF h T8 J J λv3 _ h=>S2 1 J<|b9 ?_;cases h;exact⟨J,[_],⟨oL J J J o7 n7 nl J,tr⟩,J,io⟩

theorem b54{a0 a1 a2}:PO Tryz.prog 128 [b6.Pv a0,.I a1,.I a2] (a3j a0 a1 a2) λr=>.tup [b6.Pv r.1,.I r.2]:=by
 refine pO Tryz.func128 λr h _ _=>?_;refine S4 3 J<|j5<|S4 2 J ?_;refine cN h (λhc h=>?_) λhc h=>?_
 ·refine S4 3 J ?_;refine b9 ?_;cases h;exact⟨J,[_,_],⟨oL J J J o7 n7 nl J,⟨J,tr⟩⟩,J,io⟩
 ·refine c8 ?_;refine j5<|S3 2 J<|cA h Q6 J J λv1 _ h=>S1 2 J<|n0 J (λhg=>oL J J J o7 n7 nl J)<|n0 J (λhg=>mI J)<|C1 h λv2 hv2 h=>n0 J (λhg=>Z8 J Q6 (a3x (ct hg) (a3x (ct hg) J)) (a2Z hv2 hg))<|n0 J (λhg=>a4Y (ct hg) J)<|y0 J (M1 J J J (λq=>eqF q))<|yN ?_;refine cN h (λhc h=>?_) λhc h=>?_
  ·refine S4 3 J ?_;refine b9 ?_;cases h;exact⟨J,[_,_],⟨oL J J J o7 n7 nl J,⟨J,tr⟩⟩,J,io⟩
  ·refine c8 ?_;refine S3 4 J<|cF h b5P J J λv3 _ h=>S2 7 J<|j5<|S4 2 J ?_;refine cN h (λhc h=>?_) λhc h=>?_
   ·refine S4 4 J ?_;refine b9 ?_;cases h;exact⟨J,[_,_],⟨oL J J J o7 n7 nl J,⟨J,tr⟩⟩,J,io⟩
   ·refine c8 ?_;refine S3 4 J<|y0 J (s6 (cs:=[.L b8.Pv v3.1]) J c5w c5E J J J)<|y0 J (b06 (d:=.agg [.L b8.Pv v3.1]) J)<|cF h a0N J J λv4 _ h=>S2 2 J<|b9 ?_;cases h;exact⟨J,[_,_],⟨oL J J J o7 n7 nl J,⟨J,tr⟩⟩,J,io⟩

theorem a2B{a0}:PO Tryz.prog 72 [o5.Pv a0] (W7 a0) λr=>.tup [b6.Pv r.1,.I r.2]:=by
 refine pO Tryz.func72 λr h _ _=>?_;refine S4 3 J<|S3 5 J<|cA h N7 J J λv1 _ h=>S2 5 J<|j5<|S4 2 J ?_;refine cN h (λhc h=>?_) λhc h=>?_
 ·refine S4 5 J ?_;refine b9 ?_;cases h;exact⟨J,[_,_],⟨oL J J J o7 n7 nl J,⟨J,tr⟩⟩,J,io⟩
 ·refine c8 ?_;refine dr [] w7 (by kernel_rfl) (by kernel_rfl)<|S7 8 J<|C1 h λv2 hv2 h=>d2 J (Z8 J K3 J hv2) J<|C1 h λv3 hv3 h=>d2f J (z8 J b54 J hv3) J<|S7 2 J<|D1 (x':=b6.Pv v3.1) (cl':=true) J J (.inr J) n7<|S8 1 J<|b9 ?_;cases h;exact⟨J,[_,_],⟨oL J J J o7 n7 nl J,⟨J,tr⟩⟩,J,io⟩

theorem b5O{a0 a1}:PO Tryz.prog 129 [.L b8.Pv a0,.I a1] (b0Q a0 a1) λr=>.tup [.I r.1,.I r.2]:=by
 refine pO Tryz.func129 λr h _ _=>?_;refine S4 2 J<|S3 2 J<|cA h a4e J J λv1 _ h=>S2 4 J<|b9 ?_;cases h;exact f2

theorem a2Y{a0}:PO Tryz.prog 73 [o5.Pv a0] (Z7 a0) λr=>.tup [b6.Pv r.1,.I r.2]:=by
 refine pO Tryz.func73 λr h _ _=>?_;refine S4 3 J<|S3 5 J<|cA h N7 J J λv1 _ h=>S2 5 J<|j5<|S4 2 J ?_;refine cN h (λhc h=>?_) λhc h=>?_
 ·refine S4 5 J ?_;refine b9 ?_;cases h;exact⟨J,[_,_],⟨oL J J J o7 n7 nl J,⟨J,tr⟩⟩,J,io⟩
 ·refine c8 ?_;refine dr [] w7 (by kernel_rfl) (by kernel_rfl)<|S7 5 J<|C1 h λv2 hv2 h=>d2 J (Z8 J b5O J hv2) J<|S7 2 J<|C1 h λv3 hv3 h=>d2f J (z8 J E3 J hv3) J<|S7 2 J<|D1 (x':=b6.Pv v3.1) (cl':=true) J J (.inr J) n7<|S8 1 J<|b9 ?_;cases h;exact⟨J,[_,_],⟨oL J J J o7 n7 nl J,⟨J,tr⟩⟩,J,io⟩

theorem a1N{a0}:PO Tryz.prog 74 [o5.Pv a0] (M0 a0) λr=>.tup [b6.Pv r.1,.I r.2]:=by
 refine pO Tryz.func74 λr h _ _=>?_;unfold M0 at h;refine S4 3 J<|S4 4 J<|b9 ?_;cases h;exact⟨J,[_,_],⟨oL J J J o7 n7 nl J,⟨J,tr⟩⟩,J,io⟩

theorem b9b{f:Fv}{a0:o5}{r:b6 × Int}(h:b2e f a0=some r):∃n,f=some n∧y9 Tryz.prog n∧V0 Tryz.prog n [o5.Pv a0] (.tup [b6.Pv r.1,.I r.2]):=by
 unfold b2e at h;by_cases e65:f=some 65
 ·rw[if_pos e65] at h;exact⟨65,e65,(@a1t a0).1,(@a1t a0).2 _ h⟩
 rw[if_neg e65] at h;by_cases e66:f=some 66
 ·rw[if_pos e66] at h;exact⟨66,e66,(@a0h a0).1,(@a0h a0).2 _ h⟩
 rw[if_neg e66] at h;by_cases e67:f=some 67
 ·rw[if_pos e67] at h;exact⟨67,e67,(@a2z a0).1,(@a2z a0).2 _ h⟩
 rw[if_neg e67] at h;by_cases e68:f=some 68
 ·rw[if_pos e68] at h;exact⟨68,e68,(@a2A a0).1,(@a2A a0).2 _ h⟩
 rw[if_neg e68] at h;by_cases e69:f=some 69
 ·rw[if_pos e69] at h;exact⟨69,e69,(@a1O a0).1,(@a1O a0).2 _ h⟩
 rw[if_neg e69] at h;by_cases e70:f=some 70
 ·rw[if_pos e70] at h;exact⟨70,e70,(@a1u a0).1,(@a1u a0).2 _ h⟩
 rw[if_neg e70] at h;by_cases e71:f=some 71
 ·rw[if_pos e71] at h;exact⟨71,e71,(@a3I a0).1,(@a3I a0).2 _ h⟩
 rw[if_neg e71] at h;by_cases e72:f=some 72
 ·rw[if_pos e72] at h;exact⟨72,e72,(@a2B a0).1,(@a2B a0).2 _ h⟩
 rw[if_neg e72] at h;by_cases e73:f=some 73
 ·rw[if_pos e73] at h;exact⟨73,e73,(@a2Y a0).1,(@a2Y a0).2 _ h⟩
 rw[if_neg e73] at h;by_cases e74:f=some 74
 ·rw[if_pos e74] at h;exact⟨74,e74,(@a1N a0).1,(@a1N a0).2 _ h⟩
 rw[if_neg e74] at h;cases h

theorem a4R{a0}:PO Tryz.prog 97 [.I a0] (a0t a0) λr=>.bool r:=by
 refine pO Tryz.func97 λr h _ _=>?_;unfold a0t at h;refine S4 1 J<|S4 4 J<|b9 ?_;cases h;exact f1

theorem a8X{a0 a1}:PO Tryz.prog 53 [.I a0,.I a1] (a2M a0 a1) λr=>.I r:=by
 refine pO Tryz.func53 λr h _ _=>?_;refine S4 1 J<|S3 1 J<|cA h a4R J J λv1 _ h=>S2 1 J<|S3 1 J<|cA h a4R J J λv2 _ h=>S2 1 J<|j5<|S4 1 J ?_;refine cN h (λhc h=>?_) λhc h=>?_
 ·refine j5 ?_;refine S4 1 J ?_;refine cN h (λhc h=>?_) λhc h=>?_
  ·refine S4 1 J ?_;refine b9 ?_;cases h;exact f1
  ·refine c8 ?_;refine S4 1 J<|b9 ?_;cases h;exact f1
 ·refine c8 ?_;refine j5<|S4 1 J ?_;refine cN h (λhc h=>?_) λhc h=>?_
  ·refine S4 1 J ?_;refine b9 ?_;cases h;exact f1
  ·refine c8 ?_;refine j5<|S4 3 J ?_;refine cN h (λhc h=>?_) λhc h=>?_
   ·refine S4 1 J ?_;refine b9 ?_;cases h;exact f1
   ·refine c8 ?_;refine j5<|S4 3 J ?_;refine cN h (λhc h=>?_) λhc h=>?_
    ·refine S4 1 J ?_;refine b9 ?_;cases h;exact f1
    ·refine c8 ?_;refine S4 1 J<|b9 ?_;cases h;exact f1

theorem b11{a0 a1 a2}:PO Tryz.prog 52 [.I a0,.I a1,.rptr [.abs (T6 (List.map (ent iF iF) a2))]] (a3e a0 a1 a2) λr=>.I r:=by
 refine pO Tryz.func52 λr h _ _=>?_;refine S4 1 J<|S3 2 J<|y0 J (b7U (es:=a2) (k:=a0) (E:=iF) (EK:=iF) (d:=.I ((y8 a2 a0).getD (0:Int))) J J b2J (w9 I8) E1 J (lk1 _ _ _))<|S1 2 J<|y0 J (b7U (es:=a2) (k:=a1) (E:=iF) (EK:=iF) (d:=.I ((y8 a2 a1).getD (0:Int))) J J b2J (w9 I8) E1 J (lk1 _ _ _))<|cA h a8X J J λv1 _ h=>S2 1 J<|b9 ?_;cases h;exact f1

theorem I6{a0}:PO Tryz.prog 33 [a7.Pv a0] (B8 a0) λr=>.L iF r:=by
 refine pO Tryz.func33 λr h _ _=>?_;refine S4 2 J<|S4 1 J<|sR<|b8H (KT:=Int) (VT:=Int) (EK:=iF) (E:=iF) 5000008 J J<|S2 2 J ?_;refine jq h (λq=>St.of [(3,.sl 910003),(4,.ptr 4 0 0)] [(4,vS (.mp 5000008) 1),(5000008,⟨[.mapc (List.map (ent iF iF) q.1)],0,false,0,false⟩),(910003,⟨List.map iF q.2,0,true,1,true⟩)]) (λq20 h=>?_) λκ17 h=>?_
 ·obtain⟨j18,j19⟩:=q20;refine S3 2 J<|P5 (Wk.trans (c7o 5000008 nl J) (d0n 4 0 5000008 J J J J))<|C1 h λv21 hv12 h=>d0q hv12 J J c8f c99 J J J c8g J J J J J (λp q r h=>b11.2 r h)<|yN<|S4 2 J<|b9 ?_;cases h;exact f1
 ·refine S3 3 J ?_;refine nL J N2<|S2 1 J<|k7<|lq h (λq=>St.of [(3,.sl 910003),(4,.ptr 4 0 0),(11,.L b7.Pv a0.S.a8),(12,.I (a0.S.a8.length:Int)),(13,.I q.1)] [(4,vS (.mp 5000008) 1),(5000008,⟨[.mapc (List.map (ent iF iF) q.2.1)],0,false,0,false⟩),(910003,⟨List.map iF q.2.2,0,true,1,true⟩)]) (Wk.trans (W1 (t:=3) (l:=920003) (z:=1) J J) (WP (λl=>if l=910003 then 920003 else l))) λq27 x26 h hx15=>?_;obtain⟨s23,s24,s25⟩:=q27;refine S4 1 J<|j5 ?_;refine cN h (λhc h=>?_) λhc h=>?_
  ·refine c8 ?_;refine jq h (λq=>St.of [(3,.sl 33),(4,.ptr 4 0 0),(11,.L b7.Pv a0.S.a8),(12,.I (a0.S.a8.length:Int)),(13,.I s23)] [(4,vS (.mp 5000008) 1),(5000008,⟨[.mapc (List.map (ent iF iF) q.1)],0,false,0,false⟩),(33,⟨List.map iF q.2,0,true,1,true⟩)]) (λq34 h=>?_) λκ31 h=>?_
   ·obtain⟨j32,j33⟩:=q34;refine S6 2 J ?_;exact eL h (WP (λl=>if l=910003 then 33 else l))
   ·refine k7 ?_;refine S3 1 J<|iL h J J N2 X5 λv35 _ h=>S2 4 J<|S4 3 J ?_;refine cN h (λhc h=>?_) λhc h=>?_
    ·refine S3 3 J ?_;refine cA h a60 J J λv36 _ h=>S2 1 J<|S3 5 J<|a0r (es:=s24) (k:=v36) (v:=v35.Val.Serial) (E:=iF) (EK:=iF) (.inl J) J J J J J J b2J (w9 I8)<|yN<|S5 2 J<|y0 J (a0m (f:=iF) (l:=[v36]) J l7 p9 E1 J J nl J J)<|C1 h λv37 hv22 h=>c77 (f:=iF) (b:=8) [(4,.ptr 4 0 0),(11,.L b7.Pv a0.S.a8),(12,.I (a0.S.a8.length:Int)),(13,.I s23),(14,.bool (decide (s23<(a0.S.a8.length:Int)))),(15,.I s23),(16,.rptr (b7.Pc v35)),(17,b7.Pv v35),(6,.ptr 6 0 0),(5,.I s23),(18,.ptr 6 0 0),(19,.I v35.State),(20,.bool (v35.State==1)),(21,.I s23),(22,.ptr 6 0 1),(23,.I v35.Gen),(24,.I v36),(7,.I v36),(25,.mp 5000008),(26,.I v36),(27,.ptr 6 0 2),(28,.ptr 6 0 2),(29,.I v35.Val.Serial),(31,.I v36),(32,.lst true (List.map iF [v36]))] [(6,vR (b7.Pv v35) 8),(5000008,⟨[.mapc (List.map (ent iF iF) (n9 s24 v36 v35.Val.Serial))],0,false,0,false⟩),(4,vS (.mp 5000008) 1)] J hv22 ⟨J,J,J,J,J,J,J,J,J,J,J,J,J,J,J,J,J,J,J,J,J,J,J,J,J,J,J,J,J,J,J,J,J,J,J,J,J,J,J,J,J,J,J,J,J,J,J,J,J,J,J,J,J,J,J,J,J,J,J,J,J,J,J,J,J,J,J,J,J,J,J,J,J,J,J,tr⟩ ⟨rS,a2c J J J (λq=>nomatch q) J J J J,a2c J J J (λq=>nomatch q) J J J J,tr⟩ J J J J (.inl ⟨_,J,J⟩) l7 p9 X0 E1 J (λ_=>J)<|S2 1 J ?_;exact eJ h W
    ·refine c8 ?_;exact eJ h (WP (λl=>if l=33 then 910003 else l))
  ·refine s7 ?_;refine g6<|g6<|m9 ?_;have h:=xL hx15 h;exact eJ h W

theorem b3U{a0}:PO Tryz.prog 75 [b6.Pv a0] (a07 a0) λr=>.L iF r:=by
 refine pO Tryz.func75 λr h _ _=>?_;refine S4 2 J<|S4 1 J ?_;refine jq h (λj16=>St.of [(3,.sl 910003)] [(910003,⟨List.map iF j16,(List.map iF j16).length,true,1,true⟩)]) (λj16 h=>?_) λκ15 h=>?_
 ·refine S4 2 J ?_;refine b9 ?_;cases h;exact f1
 ·refine S3 2 J ?_;refine cF h I6 J J λv17 _ h=>nL J l7<|S2 1 J<|k7<|lq h (λq=>St.of [(1,.ptr 1 0 0),(3,.sl 910003),(10,.L iF v17),(11,.I (v17.length:Int)),(12,.I q.1)] [(1,vR (b6.Pv a0) 8),(910003,⟨List.map iF q.2,(List.map iF q.2).length,true,1,true⟩)]) (Wk.trans (W1 (t:=3) (l:=920003) (z:=1) J J) (WP (λl=>if l=910003 then 920003 else l))) λq22 x21 h hx16=>?_;obtain⟨s19,s20⟩:=q22;refine S4 1 J<|j5 ?_;refine cN h (λhc h=>?_) λhc h=>?_
  ·refine c8 ?_;refine jq h (λj27=>St.of [(1,.ptr 1 0 0),(3,.sl 29),(10,.L iF v17),(11,.I (v17.length:Int)),(12,.I s19)] [(29,⟨List.map iF j27,(List.map iF j27).length,true,1,true⟩),(1,vR (b6.Pv a0) 8)]) (λj27 h=>?_) λκ26 h=>?_
   ·refine S6 2 J ?_;exact eL h (Wk.trans (p8 _ [29]) (WP (λl=>if l=910003 then 29 else l)))
   ·refine k7 ?_;refine sR<|iL h J J l7 p9 λv28 _ h=>S2 2 J<|S3 3 J<|cF h A1 J J λv29 _ h=>S2 6 J<|S4 3 J ?_;refine cN h (λhc h=>?_) λhc h=>?_
    ·refine S5 2 J ?_;refine y0 J (a0m (f:=iF) (l:=[v28]) J l7 p9 E1 J J nl J J)<|C1 h λv30 hv23 h=>a1S J (a1v (f:=iF) hv23 J J J J J J (.inl ⟨_,J,J⟩) l7 p9 X0 E1 J (λ_=>J)) J J J<|S2 1 J ?_;exact eJ h (Wk.trans (p8 _ [29]) W)
    ·refine c8 ?_;exact eJ h (Wk.trans (p8 _ [910003]) (WP (λl=>if l=29 then 910003 else l)))
  ·refine s7 ?_;refine g6<|g6<|m9 ?_;have h:=xL hx16 h;exact eJ h (Wk.trans (p8 _ [910003]) W)

theorem a4s{a0}:PO Tryz.prog 76 [l4.Pv a0] (J3 a0) λr=>.bool r:=by
 refine pO Tryz.func76 λr h _ _=>?_;unfold J3 at h;refine S4 2 J<|S3 4 J<|n0 J (λhg=>oF J b7h J)<|n0 J (λhg=>oS (ct hg) J J b7c J)<|n0 J (λhg=>a4Y (ct hg) J)<|y0 J (E7 J J J (λq=>eqT q))<|S2 1 J<|b9 ?_;cases h;exact f1

theorem L2{a0}:PO Tryz.prog 177 [c7.Pv a0] (G1 a0) λr=>.I r:=by
 refine pO Tryz.func177 λr h _ _=>?_;unfold G1 at h;refine S4 2 J<|S3 2 J<|nL J a6N<|S2 1 J<|b9 ?_;cases h;exact f1

theorem R1{a0 a1 a2}:PO Tryz.prog 178 [.L g8.Pv a0,.I a1,.I a2] (D2 a0 a1 a2) λr=>.lst true (List.map g8.Pv r):=by
 refine pO Tryz.func178 λr h _ _=>?_;unfold D2 at h;refine S4 1 J<|S3 4 J<|C1 h λv1 hv1 h=>y0 J (c3W (f:=g8.Pv) hv1 J ⟨_,J⟩ ⟨_,J⟩ ⟨_,J⟩ J J a6N J7 (λ_=>J))<|S2 1 J<|b9 ?_;cases h;exact f1

theorem a42{a0 a1}:PO Tryz.prog 131 [c7.Pv a0,g8.Pv a1] (N8 a0 a1) λr=>.tup [c7.Pv r.1,.I r.2]:=by
 refine pO Tryz.func131 λr h _ _=>?_;unfold N8 at h;refine S4 4 J<|j5<|dr [] w7 (by kernel_rfl) (by kernel_rfl)<|S7 1 J<|C1 h λv1 hv1 h=>d2 J (Z8 J L2 J hv1) J<|S8 3 J ?_;refine cN h (λhc h=>?_) λhc h=>?_
 ·refine S4 3 J ?_;refine b9 ?_;cases h;exact⟨J,[_,_],⟨oL J J J a4z a1e nl J,⟨J,tr⟩⟩,J,io⟩
 ·refine c8 ?_;refine dr [] w7 (by kernel_rfl) (by kernel_rfl)<|S7 3 J<|d2 J (Z8 J L2 J hv1) J<|C1 h λv2 hv2 h=>d2f J (z8 J R1 J hv2) J<|S7 1 J<|d1n J (a0m (f:=g8.Pv) (l:=[a1]) J a6N J7 a9w J J nl J J) J<|C1 h λv3 hv3 h=>d3 J (b7T (f:=g8.Pv) hv3 J J (.inl ⟨_,J,J⟩) a6N J7 c5k a9w J (λ_=>J)) J J J<|S7 1 J<|D1 (x':=.agg [.sl 19,.I a0.Cap]) (cl':=false) J J (.inl J) c2C<|X7<|S4 3 J<|b9 ?_;cases h;exact⟨J,[_,_],⟨oL J J J a4z a1e nl J,⟨J,tr⟩⟩,J,io⟩

theorem b1N{a0 a1}:PO Tryz.prog 82 [c7.Pv a0,g8.Pv a1] (a7B a0 a1) λr=>.tup [c7.Pv r.1,.I r.2]:=by
 refine pO Tryz.func82 λr h _ _=>?_;refine S4 4 J<|S3 2 J<|cF h a42 J J λv1 _ h=>S2 4 J<|b9 ?_;cases h;exact⟨J,[_,_],⟨oL J J J a4z a1e nl J,⟨J,tr⟩⟩,J,io⟩

theorem a5f{a0 a1}:PO Tryz.prog 45 [b6.Pv a0,.I a1] (P2 a0 a1) λr=>b6.Pv r:=by
 refine pO Tryz.func45 λr h _ _=>?_;refine S4 2 J<|S3 3 J<|cF h A1 J J λv1 _ h=>S2 6 J<|j5<|S3 3 J<|n0 J (λhg=>oL J J J b2H a6P nl J)<|C1 h λv2 hv2 h=>n0 J (λhg=>Z8 J a4s (a3x (ct hg) J) (a2Z hv2 hg))<|n0 J (λhg=>a4Y (ct hg) J)<|y0 J (M1 J J J (λq=>eqF q))<|yN ?_;refine cN h (λhc h=>?_) λhc h=>?_
 ·refine S4 2 J ?_;refine b9 ?_;cases h;exact⟨J,[_],⟨oL J J J o7 n7 nl J,tr⟩,J,io⟩
 ·refine c8 ?_;refine S4 2 J<|S3 4 J<|cF h a0e J J λv3 _ h=>S2 5 J<|S3 5 J<|y0 J (s6 (cs:=[.I 1,.I a1,.I v1.1.Prog]) J b5y a9w J J J)<|cF h b1N J J λv4 _ h=>S2 5 J<|S3 2 J<|cF h a1p J J λv5 _ h=>S2 1 J<|b9 ?_;cases h;exact⟨J,[_],⟨oL J J J o7 n7 nl J,tr⟩,J,io⟩

theorem a8q{a0 a1}:PO Tryz.prog 84 [b6.Pv a0,.L iF a1] (R4 a0 a1) λr=>.L iF r:=by
 refine pO Tryz.func84 λr h _ _=>?_;refine S4 2 J<|sR<|b8H (KT:=Int) (VT:=Bool) (EK:=iF) (E:=PV.bool) 5000011 J J<|S2 1 J<|S4 1 J ?_;refine jq h (λj18=>St.of [(6,.sl 910006)] [(910006,⟨List.map iF j18,(List.map iF j18).length,true,1,true⟩)]) (λj18 h=>?_) λκ17 h=>?_
 ·refine S4 2 J ?_;refine b9 ?_;cases h;exact f1
 ·refine S3 1 J ?_;refine nL J l7<|S2 1 J<|k7<|lq h (λq=>St.of [(2,.ptr 2 0 0),(5,.mp 5000011),(6,.sl 910006),(12,.L iF a1),(13,.I (a1.length:Int)),(14,.I q.1)] [(5000011,⟨[.mapc (List.map (ent iF PV.bool) q.2.1)],0,false,0,false⟩),(2,vR (b6.Pv a0) 8),(910006,⟨List.map iF q.2.2,(List.map iF q.2.2).length,true,1,true⟩)]) (Wk.trans (W1 (t:=6) (l:=920006) (z:=1) J J) (WP (λl=>if l=910006 then 920006 else l))) λq24 x23 h hx16=>?_;obtain⟨s20,s21,s22⟩:=q24;refine S4 1 J<|j5 ?_;refine cN h (λhc h=>?_) λhc h=>?_
  ·refine c8 ?_;refine jq h (λq=>St.of [(2,.ptr 2 0 0),(5,.mp 5000011),(6,.sl 38),(12,.L iF a1),(13,.I (a1.length:Int)),(14,.I s20)] [(38,⟨List.map iF q.1,(List.map iF q.1).length,true,1,true⟩),(5000011,⟨[.mapc (List.map (ent iF PV.bool) q.2)],0,false,0,false⟩),(2,vR (b6.Pv a0) 8)]) (λq31 h=>?_) λκ28 h=>?_
   ·obtain⟨j29,j30⟩:=q31;refine S6 2 J ?_;exact eL h (Wk.trans (p8 _ [38]) (WP (λl=>if l=910006 then 38 else l)))
   ·refine k7 ?_;refine sR<|iL h J J l7 p9 λv32 _ h=>S2 2 J<|S3 3 J<|cF h A1 J J λv33 _ h=>S2 6 J<|S3 3 J<|n0 J (λhg=>om (d:=.mp 5000011) J)<|n0 J (λhg=>mI J) ?_;rcases Bool.eq_false_or_eq_true ((v33.2==0)==true) with hg24 | hg24
    ·have h:=ifT h hg24;refine c48 (es:=s21) (k:=v32) (E:=PV.bool) (EK:=iF) (d:=.bool ((y8 s21 v32).getD (false:Bool))) (congrArg some hg24) (ct hg24) J (ct hg24) a2p (w9 I8) b7j J (lk1 _ _ _)<|y0 (congrArg some hg24) (a4Y J J)<|y0 J (a5U J J hg24)<|yN ?_;refine cN h (λhc h=>?_) λhc h=>?_
     ·refine S3 2 J ?_;refine a0r (es:=s21) (k:=v32) (v:=true) (E:=PV.bool) (EK:=iF) (.inl J) J J J J J J a2p (w9 I8)<|yN<|S5 2 J<|y0 J (a0m (f:=iF) (l:=[v32]) J l7 p9 E1 J J nl J J)<|C1 h λv34 hv25 h=>a1S J (a1v (f:=iF) hv25 J J J J J J (.inl ⟨_,J,J⟩) l7 p9 X0 E1 J (λ_=>J)) J J J<|S2 1 J ?_;exact eJ h (Wk.trans (p8 _ [38]) W)
     ·refine c8 ?_;exact eJ h (Wk.trans (p8 _ [910006]) (WP (λl=>if l=38 then 910006 else l)))
    ·have h:=ifF h hg24;refine a1J (congrArg some hg24)<|a1J (congrArg some hg24)<|y0 J (a7U J J hg24)<|yN ?_;refine F7 false J (λq=>nomatch q) (λ_=>?_);refine c8 ?_;exact eJ h (Wk.trans (p8 _ [910006]) (WP (λl=>if l=38 then 910006 else l)))
  ·refine s7 ?_;refine g6<|g6<|m9 ?_;have h:=xL hx16 h;exact eJ h (Wk.trans (p8 _ [910006]) W)

theorem a5h{a0 a1}:PO Tryz.prog 210 [.L iF a0,.I a1] (O2 a0 a1) λr=>.I r:=by
 refine pO Tryz.func210 λr h _ _=>?_;refine S4 1 J ?_;refine jq h (λ_=>St.of [] []) (λq6 h=>?_) λκ5 h=>?_
 ·refine S4 1 J ?_;refine b9 ?_;cases h;exact f1
 ·refine S3 1 J ?_;refine nL J l7<|S2 1 J<|k7<|lq h (λs8=>St.of [(0,.L iF a0),(1,.I a1),(7,.I (a0.length:Int)),(8,.I s8)] []) W λs8 x9 h hx8=>S4 1 J<|j5 ?_;refine cN h (λhc h=>?_) λhc h=>?_
  ·refine c8 ?_;refine j5<|k7<|S4 2 J<|S3 3 J<|iL h J J l7 p9 λv10 _ h=>S2 2 J ?_;refine cN h (λhc h=>?_) λhc h=>?_
   ·refine S4 2 J ?_;refine b9 ?_;have h:=xL hx8 h;cases h;exact f1
   ·refine c8 ?_;refine S6 2 J ?_;exact eL h W
  ·refine s7 ?_;refine g6<|g6<|m9 ?_;have h:=xL hx8 h;exact eJ h W

theorem M6{a0 a1}:PO Tryz.prog 182 [.L iF a0,.I a1] (C9 a0 a1) λr=>.bool r:=by
 refine pO Tryz.func182 λr h _ _=>?_;refine S4 1 J<|S3 2 J<|cA h a5h J J λv1 _ h=>S2 2 J<|b9 ?_;cases h;exact f1

theorem b13{a0 a1}:PO Tryz.prog 181 [c5.Pv a0,.rptr [.L iF a1]] (a0f a0 a1) λr=>.bool r:=by
 refine pO Tryz.func181 λr h _ _=>?_;unfold a0f at h;refine S4 2 J<|S3 3 J<|n0 J (λhg=>oF J b4D J)<|n0 J (λhg=>oS (ct hg) J J I7 J)<|n0 J (λhg=>C8 (ct hg) J J)<|y0 J (E7 J J J (λq=>eqT q))<|S1 1 J<|n0 J (λhg=>a1w J b8M J)<|n0 J (λhg=>oF J b4D J)<|n0 J (λhg=>oS (ct hg) J J I7 J)<|C1 h λv1 hv1 h=>n0 J (λhg=>Z8 J M6 (a3x (ct hg) (a3x (ct hg) J)) (a2Z hv1 hg))<|y0 J (E7 J J J (λq=>eqT q))<|S2 1 J<|b9 ?_;cases h;exact f1

theorem a2X{a0 a1}:PO Tryz.prog 180 [.L c5.Pv a0,.fn (.func 181) [.rptr [.L iF a1]]] (G8 a0 a1) λr=>.L iF r:=by
 refine pO Tryz.func180 λr h _ _=>?_;refine S4 1 J<|S4 1 J ?_;refine jq h (λj15=>St.of [(5,.sl 910005)] [(910005,⟨List.map iF j15,(List.map iF j15).length,true,1,true⟩)]) (λj15 h=>?_) λκ14 h=>?_
 ·refine S4 2 J ?_;refine b9 ?_;cases h;exact f1
 ·refine S3 1 J ?_;refine nL J V1<|S2 1 J<|k7<|lq h (λq=>St.of [(1,.fn (.func 181) [.rptr [.L iF a1]]),(5,.sl 910005),(8,.L c5.Pv a0),(9,.I (a0.length:Int)),(10,.I q.1)] [(910005,⟨List.map iF q.2,(List.map iF q.2).length,true,1,true⟩)]) (Wk.trans (W1 (t:=5) (l:=920005) (z:=1) J J) (WP (λl=>if l=910005 then 920005 else l))) λq20 x19 h hx14=>?_;obtain⟨s17,s18⟩:=q20;refine S4 1 J<|j5 ?_;refine cN h (λhc h=>?_) λhc h=>?_
  ·refine c8 ?_;refine jq h (λj25=>St.of [(1,.fn (.func 181) [.rptr [.L iF a1]]),(5,.sl 21),(8,.L c5.Pv a0),(9,.I (a0.length:Int)),(10,.I s17)] [(21,⟨List.map iF j25,(List.map iF j25).length,true,1,true⟩)]) (λj25 h=>?_) λκ24 h=>?_
   ·refine S6 2 J ?_;exact eL h (Wk.trans (p8 _ [21]) (WP (λl=>if l=910005 then 21 else l)))
   ·refine k7 ?_;refine S3 1 J<|iL h J J V1 W2 λv26 _ h=>S2 4 J<|S3 2 J<|cA h b13 J J λv27 _ h=>yN ?_;refine cN h (λhc h=>?_) λhc h=>?_
    ·refine S5 2 J ?_;refine y0 J (a0m (f:=iF) (l:=[s17]) J l7 p9 E1 J J nl J J)<|C1 h λv28 hv21 h=>a1S J (a1v (f:=iF) hv21 J J J J J J (.inl ⟨_,J,J⟩) l7 p9 X0 E1 J (λ_=>J)) J J J<|S2 1 J ?_;exact eJ h (Wk.trans (p8 _ [21]) W)
    ·refine c8 ?_;exact eJ h (Wk.trans (p8 _ [910005]) (WP (λl=>if l=21 then 910005 else l)))
  ·refine s7 ?_;refine g6<|g6<|m9 ?_;have h:=xL hx14 h;exact eJ h (Wk.trans (p8 _ [910005]) W)

theorem b4C{a0 a1}:PO Tryz.prog 134 [.L c5.Pv a0,.L iF a1] (a3X a0 a1) λr=>.tup [.L c5.Pv r.1,.L iF r.2]:=by
 refine pO Tryz.func134 λr h _ _=>?_;unfold a3X at h;refine S4 3 J<|S3 2 J<|C1 h λv1 hv1 h=>ycL J (z8 J a2X J hv1) J<|S2 1 J<|S3 1 J<|C1 h λv2 hv2 h=>ycN J (b49 J a6A J hv2) J J<|S2 1 J<|S4 1 J ?_;refine jq h (λq=>St.of [(7,.sl 15),(8,.sl 910008)] [(910008,⟨List.map iF q.1,(List.map iF q.1).length,true,1,true⟩),(15,⟨List.map c5.Pv q.2,0,true,3,true⟩)]) (λq24 h=>?_) λκ21 h=>?_
 ·obtain⟨j22,j23⟩:=q24;refine S4 4 J<|b9 ?_;cases h;exact f2
 ·refine S3 1 J ?_;refine nL J l7<|S2 1 J<|k7<|lq h (λq=>St.of [(7,.sl 15),(8,.sl 910008),(16,.L iF v1),(17,.I (v1.length:Int)),(18,.I q.1)] [(15,⟨List.map c5.Pv q.2.1,0,true,3,true⟩),(910008,⟨List.map iF q.2.2,(List.map iF q.2.2).length,true,1,true⟩)]) (Wk.trans (W1 (t:=8) (l:=920008) (z:=1) J J) (WP (λl=>if l=910008 then 920008 else l))) λq30 x29 h hx18=>?_;obtain⟨s26,s27,s28⟩:=q30;refine S4 1 J<|j5 ?_;refine cN h (λhc h=>?_) λhc h=>?_
  ·refine c8 ?_;refine jq h (λq=>St.of [(7,.sl 15),(8,.sl 35),(16,.L iF v1),(17,.I (v1.length:Int)),(18,.I s26)] [(35,⟨List.map iF q.1,(List.map iF q.1).length,true,1,true⟩),(15,⟨List.map c5.Pv q.2,0,true,3,true⟩)]) (λq38 h=>?_) λκ35 h=>?_
   ·obtain⟨j36,j37⟩:=q38;refine S6 2 J ?_;exact eL h (Wk.trans (p8 _ [35]) (WP (λl=>if l=910008 then 35 else l)))
   ·refine k7 ?_;refine sR<|iL h J J l7 p9 λv39 _ h=>S2 2 J<|S3 2 J<|C1 h λv40 hv25 h=>y0 J (a8H (f:=c5.Pv) hv25 J J J J V1 W2 J)<|S1 1 J<|b38 (f:=c5.Pv) (v:=(⟨v40.Target,false,v40.Call⟩:c5)) hv25 J J (.inl J) d0B<|yN<|S3 2 J<|C1 h λv41 hv26 h=>y0 J (a8H (f:=c5.Pv) hv26 J J J J V1 W2 J)<|S1 1 J<|y0 J (c3Y (f:=c5.Pv) hv26 J J J I7 J)<|S2 1 J ?_;refine cN h (λhc h=>?_) λhc h=>?_
    ·refine S5 2 J ?_;refine y0 J (a0m (f:=iF) (l:=[v39]) J l7 p9 E1 J J nl J J)<|C1 h λv42 hv27 h=>a1S J (a1v (f:=iF) hv27 J J J J J J (.inl ⟨_,J,J⟩) l7 p9 X0 E1 J (λ_=>J)) J J J<|S2 1 J ?_;exact eJ h (Wk.trans (p8 _ [35]) W)
    ·refine c8 ?_;exact eJ h (Wk.trans (p8 _ [910008]) (WP (λl=>if l=35 then 910008 else l)))
  ·refine s7 ?_;refine g6<|g6<|m9 ?_;have h:=xL hx18 h;exact eJ h (Wk.trans (p8 _ [910008]) W)

theorem b0w{a0 a1}:PO Tryz.prog 85 [b6.Pv a0,.L iF a1] (a1E a0 a1) λr=>b6.Pv r:=by
 refine pO Tryz.func85 λr h _ _=>?_;refine S4 2 J<|S3 3 J<|cF h b4C J J λv1 _ h=>S2 5 J<|S4 3 J ?_;refine jq h (λj11=>St.of [(2,.ptr 2 0 0),(4,.ptr 4 0 0)] [(4,vR (.agg [.nl,.I 0,.I 0,.nl,.nl,.nl,.nl,.I 0]) 8),(2,vR (.agg [.L b7.Pv a0.S.S.a8,.I a0.S.S.Last,.I a0.S.Serial,.L iF a0.Roots,.L c5.Pv v1.1,.L b8.Pv a0.T,.L g8.Pv j11.L,.I j11.Cap]) 8)]) (λj11 h=>?_) λκ10 h=>?_
 ·refine S4 2 J ?_;refine b9 ?_;cases h;exact⟨J,[_],⟨oL J J J o7 n7 nl J,tr⟩,J,io⟩
 ·refine S3 1 J ?_;refine nL J l7<|S2 1 J<|k7<|lq h (λq=>St.of [(2,.ptr 2 0 0),(4,.ptr 4 0 0),(5,.L c5.Pv v1.1),(18,.L iF v1.2),(19,.I (v1.2.length:Int)),(20,.I q.1)] [(4,vR (.agg [.nl,.I 0,.I 0,.nl,.nl,.nl,.nl,.I 0]) 8),(2,vR (.agg [.L b7.Pv a0.S.S.a8,.I a0.S.S.Last,.I a0.S.Serial,.L iF a0.Roots,.L c5.Pv v1.1,.L b8.Pv a0.T,.L g8.Pv q.2.L,.I q.2.Cap]) 8)]) W λq16 x15 h hx11=>?_;obtain⟨s13,s14⟩:=q16;refine S4 1 J<|j5 ?_;refine cN h (λhc h=>?_) λhc h=>?_
  ·refine c8 ?_;refine j5<|k7<|sR<|iL h J J l7 p9 λv17 _ h=>S2 2 J<|b09 [] w7 (by kernel_rfl) (by kernel_rfl)<|S7 5 J<|C1 h λv18 hv13 h=>d0 J (a0i (f:=c5.Pv) (cs:=c5.Pc v18) hv13 J J V1 W2 J J) J<|S7 2 J<|d7 J (λ_ hN=>s6 (cs:=[.I 2,.I v17,.I v18.Call]) J b5y a9w J J J) J<|C1 h λv19 hv14 h=>d2f J (z8 J b1N J hv14) J<|S7 4 J<|D1 (x':=.agg [.L b7.Pv a0.S.S.a8,.I a0.S.S.Last,.I a0.S.Serial,.L iF a0.Roots,.L c5.Pv v1.1,.L b8.Pv a0.T,.L g8.Pv v19.1.L,.I v19.1.Cap]) (cl':=true) J J (.inr J) a1e<|X7<|S6 2 J ?_;exact eL h W
  ·refine s7 ?_;refine g6<|g6<|m9 ?_;have h:=xL hx11 h;exact eJ h W

theorem b6Z{a0}:PO Tryz.prog 135 [.L iF a0] (a8j a0) λr=>.fn (.func 184) [.rptr [.L iF r]]:=by
 refine pO Tryz.func135 λr h _ _=>?_;unfold a8j at h;refine S4 2 J<|S4 2 J<|b9 ?_;cases h;exact f1

theorem b0D{a0}:PO Tryz.prog 87 [.L iF a0] (a3t a0) λr=>.L iF r:=by
 refine pO Tryz.func87 λr h _ _=>?_;refine S4 1 J<|S4 1 J ?_;refine jq h (λj10=>St.of [(3,.ptr 2001 0 0)] [(2001,vS (.sl 912501) 1),(912501,⟨List.map iF j10,(List.map iF j10).length,true,1,true⟩)]) (λj10 h=>?_) λκ9 h=>?_
 ·refine S4 2 J ?_;refine b9 ?_;cases h;exact f1
 ·refine S3 1 J ?_;refine cF h b6Z J J λv11 _ h=>yN<|k7<|a2D (WPE (λl=>if l=2011 then 3 else l) [(3,.ptr 2011 0 0),(6,.fn (.func 184) [.rptr [.L iF v11]])] [(2011,vR (.nl) 1)]) ?_;refine a1y (fn:=Tryz.f184) (N1:=20) J Tryz.func184 J J nl J c5n J J (λl17 e18 o19 hR20=>?_);refine S3 1 J<|nL J l7<|S2 1 J<|k7<|lq h (λq=>St.of [(1000003,.ptr 2011 0 0),(1000006,.fn (.func 184) [.rptr [.L iF v11]]),(0,.fn (.yield l17) []),(5,.L iF v11),(6,.I (v11.length:Int)),(7,.I q.1)] [(2011,vS (.sl 912511) 1),(912511,⟨List.map iF q.2,(List.map iF q.2).length,true,1,true⟩)]) (Wk.trans (b2F (l0:=2011) (j:=0) (l:=922511) (z:=1) J J J J J) (WP (λl=>if l=912511 then 922511 else l))) λq16 x15 h hx23=>?_;obtain⟨s13,s14⟩:=q16;refine S4 1 J<|j5 ?_;refine cN h (λhc h=>?_) λhc h=>?_
  ·refine c8 ?_;refine j5<|k7<|sR<|iL h J J l7 p9 λv17 _ h=>S2 2 J<|S3 3 J<|n0 J (λhg=>om (d:=.fn (.yield l17) []) J)<|n0 J (λhg=>mI J) ?_;rcases Bool.eq_false_or_eq_true ((v17 != 0)==true) with hg25 | hg25
   ·have h:=ifT h hg25;refine P5 (WPE (λl=>if l=2019 then 912511 else l) [(1000003,.ptr 2011 0 0),(1000006,.fn (.func 184) [.rptr [.L iF v11]]),(0,.fn (.yield l17) []),(5,.L iF v11),(6,.I (v11.length:Int)),(7,.I s13),(13,.bool (v17 != 0)),(14,.fn (.yield l17) []),(15,.I v17)] [(2011,vS (.sl 2019) 1),(2019,⟨List.map iF s14,(List.map iF s14).length,true,1,true⟩)]) ?_;refine a6l hR20 (congrArg some hg25) J J J J J (λe26 o27 o28=>?_);refine S6 1 J ?_;refine⟨J,?_⟩;refine k7<|S5 2 J<|y0 J (a0m (f:=iF) (l:=[v17]) J l7 p9 E1 J J nl J J)<|C1 h λv18 hv29 h=>a1S J (a1v (f:=iF) hv29 J J J J J J (.inl ⟨_,J,J⟩) l7 p9 X0 E1 J (λ_=>J)) J J J<|S2 1 J ?_;refine⟨J,?_⟩;refine P5 (WPE (λl=>if l=2020 then 11 else l) [(1000003,.ptr 2011 0 0),(1000006,.fn (.func 184) [.rptr [.L iF v11]]),(0,.fn (.yield l17) []),(5,.L iF v11),(6,.I (v11.length:Int)),(7,.I s13),(13,.bool (v17 != 0)),(16,.bool true)] [(2011,vS (.sl 2020) 1),(2020,⟨List.map iF v18,s14.length,true,1,true⟩)])<|y0 (congrArg some hg25) (a4Y J J)<|y0 J (a5U J J hg25)<|yN ?_;refine F7 false J (λq=>nomatch q) (λ_=>?_);refine c8<|S6 2 J ?_;exact eL h (Wk.trans (p8 _ [2020]) (WP (λl=>if l=912511 then 2020 else l)))
   ·have h:=ifF h hg25;refine a1J (congrArg some hg25)<|a1J (congrArg some hg25)<|y0 J (a7U J J hg25)<|yN ?_;refine F7 false J (λq=>nomatch q) (λ_=>?_);refine c8<|S6 2 J ?_;exact eL h (Wk.trans (p8 _ [912511]) W)
  ·refine s7 ?_;refine g6<|g6<|m9 ?_;refine .inl ⟨J,?_⟩;have h:=xL hx23 h;exact eJ h (Wk.trans (p8 _ [912511]) (WP (λl=>if l=2001 then 2011 else if l=912501 then 912511 else l)))

theorem b0T{a0 a1}:PO Tryz.prog 88 [.L b8.Pv a0,.L iF a1] (L6 a0 a1) λr=>.tup [.L b8.Pv r.1,.L iF r.2]:=by
 refine pO Tryz.func88 λr h _ _=>?_;refine S4 2 J<|S4 1 J ?_;refine jq h (λq=>St.of [(0,.L b8.Pv q.1),(6,.sl 910006)] [(910006,⟨List.map iF q.2,(List.map iF q.2).length,true,1,true⟩)]) (λq20 h=>?_) λκ17 h=>?_
 ·obtain⟨j18,j19⟩:=q20;refine S4 4 J<|b9 ?_;cases h;exact f2
 ·refine S3 1 J ?_;refine nL J l7<|S2 1 J<|k7<|lq h (λq=>St.of [(0,.L b8.Pv q.1),(6,.sl 910006),(12,.L iF a1),(13,.I (a1.length:Int)),(14,.I q.2.1)] [(910006,⟨List.map iF q.2.2,(List.map iF q.2.2).length,true,1,true⟩)]) (Wk.trans (W1 (t:=6) (l:=920006) (z:=1) J J) (WP (λl=>if l=910006 then 920006 else l))) λq26 x25 h hx14=>?_;obtain⟨s22,s23,s24⟩:=q26;refine S4 1 J<|j5 ?_;refine cN h (λhc h=>?_) λhc h=>?_
  ·refine c8 ?_;refine jq h (λq=>St.of [(0,.L b8.Pv q.1),(6,.sl 31),(12,.L iF a1),(13,.I (a1.length:Int)),(14,.I s23)] [(31,⟨List.map iF q.2,(List.map iF q.2).length,true,1,true⟩)]) (λq33 h=>?_) λκ30 h=>?_
   ·obtain⟨j31,j32⟩:=q33;refine S6 2 J ?_;exact eL h (Wk.trans (p8 _ [31]) (WP (λl=>if l=910006 then 31 else l)))
   ·refine k7 ?_;refine sR<|iL h J J l7 p9 λv34 _ h=>S2 2 J<|S3 2 J<|cF h a9T J J λv35 _ h=>S2 7 J<|S4 2 J ?_;refine cN h (λhc h=>?_) λhc h=>?_
    ·refine S5 3 J ?_;refine y0 J (a0m (f:=iF) (l:=[v35.2.1]) J l7 p9 E1 J J nl J J)<|C1 h λv36 hv21 h=>a1S J (a1v (f:=iF) hv21 J J J J J J (.inl ⟨_,J,J⟩) l7 p9 X0 E1 J (λ_=>J)) J J J<|S2 2 J ?_;exact eJ h (Wk.trans (p8 _ [31]) W)
    ·refine c8 ?_;exact eJ h (Wk.trans (p8 _ [910006]) (WP (λl=>if l=31 then 910006 else l)))
  ·refine s7 ?_;refine g6<|g6<|m9 ?_;have h:=xL hx14 h;exact eJ h (Wk.trans (p8 _ [910006]) W)

theorem a6a{a0 a1}:PO Tryz.prog 137 [c4.Pv a0,.I a1] (P8 a0 a1) λr=>.tup [c4.Pv r.1,.I r.2]:=by
 refine pO Tryz.func137 λr h _ _=>?_;refine S4 3 J<|S3 2 J<|cF h a1P J J λv1 _ h=>S2 6 J<|j5<|S4 2 J ?_;refine cN h (λhc h=>?_) λhc h=>?_
 ·refine S4 4 J ?_;refine b9 ?_;cases h;exact⟨J,[_,_],⟨oL J J J a2K a1d nl J,⟨J,tr⟩⟩,J,io⟩
 ·refine c8 ?_;refine dr [] w7 (by kernel_rfl) (by kernel_rfl)<|S7 2 J<|C1 h λv2 hv2 h=>d2 J (Z8 J a61 J hv2) J<|S7 1 J<|C1 h λv3 hv3 h=>d2 J (Z8 J a8E J hv3) J<|S7 1 J<|d7 J (λ_ hN=>s6 (cs:=[.I 2,.I v3,.I v1.1.Serial,.I v1.1.Strong,.I v1.1.Weak,.I v1.1.Prog,.bool v1.1.Started,.L iF v1.1.Fields]) J b5z b0K J J J) J<|C1 h λv4 hv4 h=>d2f J (z8 J G0 J hv4) J<|D1 (x':=c4.Pv v4) (cl':=true) J J (.inr J) a1d<|S8 1 J<|b9 ?_;cases h;exact⟨J,[_,_],⟨oL J J J a2K a1d nl J,⟨J,tr⟩⟩,J,io⟩

theorem b1r{a0 a1}:PO Tryz.prog 89 [b6.Pv a0,.I a1] (U8 a0 a1) λr=>b6.Pv r:=by
 refine pO Tryz.func89 λr h _ _=>?_;refine S4 2 J<|S3 3 J<|cF h A1 J J λv1 _ h=>S2 6 J<|S3 1 J<|a7F (x':=.agg [.I v1.1.Serial,.I v1.1.Strong,.I v1.1.Weak,.I v1.1.Prog,.bool v1.1.Started,.nl]) (cl':=true) J J (.inl J) b0J<|S1 1 J<|a7F (x':=.agg [.I v1.1.Serial,.I 0,.I v1.1.Weak,.I v1.1.Prog,.bool v1.1.Started,.nl]) (cl':=true) J J (.inl J) p9<|yN<|S3 4 J<|cF h a0e J J λv2 _ h=>S2 5 J<|S3 4 J<|cF h a6a J J λv3 _ h=>S2 6 J<|j5<|S4 3 J ?_;refine cN h (λhc h=>?_) λhc h=>?_
 ·refine S5 4 J ?_;refine cF h a1F J J λv4 _ h=>S2 6 J<|S4 2 J<|b9 ?_;cases h;exact⟨J,[_],⟨oL J J J o7 n7 nl J,tr⟩,J,io⟩
 ·refine c8 ?_;refine S4 2 J<|b9 ?_;cases h;exact⟨J,[_],⟨oL J J J o7 n7 nl J,tr⟩,J,io⟩

end Go.Proofs.YtjpgbnlcefhaiaaGreat.Ok
