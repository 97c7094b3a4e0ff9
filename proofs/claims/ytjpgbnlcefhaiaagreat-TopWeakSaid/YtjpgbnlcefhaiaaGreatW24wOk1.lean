/-
 The functions of the program do as the plain functions do.
-/
import Derived.Test.YtjpgbnlcefhaiaaGreatW24wPwC
import Derived.Test.YtjpgbnlcefhaiaaGreatW24wPwD
import Derived.Test.YtjpgbnlcefhaiaaGreatSrt
import Derived.Test.YtjpgbnlcefhaiaaGreatW24wSh
import Derived.Test.YtjpgbnlcefhaiaaGreatProg
set_option linter.unusedVariables false
set_option linter.unusedSimpArgs false
set_option linter.unusedSectionVars false
namespace Go.Proofs.YtjpgbnlcefhaiaaGreat.Ok
open Go Go.Pw Go.Sh Go.Proofs
set_option maxRecDepth 100000
abbrev _root_.Go.Sh.l4.Pc(x:l4):List PV:=[.I x.Serial,.I x.Strong,.I x.Weak,.I x.Prog,.bool x.Started,.L iF x.Fields]
abbrev _root_.Go.Sh.l4.Pv(x:l4):PV:=.agg x.Pc
abbrev _root_.Go.Sh.b7.Pc(x:b7):List PV:=[.I x.State,.I x.Gen,.I x.Val.Serial,.I x.Val.Strong,.I x.Val.Weak,.I x.Val.Prog,.bool x.Val.Started,.L iF x.Val.Fields]
abbrev _root_.Go.Sh.b7.Pv(x:b7):PV:=.agg x.Pc
abbrev _root_.Go.Sh.c7.Pc(x:c7):List PV:=[.I x.Target,.bool x.Intact,.I x.Call]
abbrev _root_.Go.Sh.c7.Pv(x:c7):PV:=.agg x.Pc
abbrev _root_.Go.Sh.b8.Pc(x:b8):List PV:=[.I x.State,.I x.Key,.I x.Val]
abbrev _root_.Go.Sh.b8.Pv(x:b8):PV:=.agg x.Pc
abbrev _root_.Go.Sh.g7.Pc(x:g7):List PV:=[.I x.Kind,.I x.At,.I x.Prog]
abbrev _root_.Go.Sh.g7.Pv(x:g7):PV:=.agg x.Pc
abbrev _root_.Go.Sh.e6.Pc(x:e6):List PV:=[.I x.Kind,.I x.A,.I x.B,.I x.C]
abbrev _root_.Go.Sh.e6.Pv(x:e6):PV:=.agg x.Pc
abbrev _root_.Go.Sh.c9.Pc(x:c9):List PV:=[fvE x.part,.I x.least,.I x.most,.I x.e]
abbrev _root_.Go.Sh.c9.Pv(x:c9):PV:=.agg x.Pc
abbrev _root_.Go.Sh.c4.Pc(x:c4):List PV:=[.L b7.Pv x.a8,.I x.Last]
abbrev _root_.Go.Sh.c4.Pv(x:c4):PV:=.agg x.Pc
abbrev _root_.Go.Sh.a7.Pc(x:a7):List PV:=[.L b7.Pv x.S.a8,.I x.S.Last,.I x.Serial]
abbrev _root_.Go.Sh.a7.Pv(x:a7):PV:=.agg x.Pc
abbrev _root_.Go.Sh.c5.Pc(x:c5):List PV:=[.L g7.Pv x.L,.I x.Cap]
abbrev _root_.Go.Sh.c5.Pv(x:c5):PV:=.agg x.Pc
abbrev _root_.Go.Sh.b6.Pc(x:b6):List PV:=[.L b7.Pv x.S.S.a8,.I x.S.S.Last,.I x.S.Serial,.L iF x.Roots,.L c7.Pv x.a8,.L b8.Pv x.T,.L g7.Pv x.Q.L,.I x.Q.Cap]
abbrev _root_.Go.Sh.b6.Pv(x:b6):PV:=.agg x.Pc
abbrev _root_.Go.Sh.m8.Pc(x:m8):List PV:=[.L b7.Pv x.X.S.S.a8,.I x.X.S.S.Last,.I x.X.S.Serial,.L iF x.X.Roots,.L c7.Pv x.X.a8,.L b8.Pv x.X.T,.L g7.Pv x.X.Q.L,.I x.X.Q.Cap,.L (Ls e6.Pv) x.Progs]
abbrev _root_.Go.Sh.m8.Pv(x:m8):PV:=.agg x.Pc
abbrev _root_.Go.Sh.g8.Pc(x:g8):List PV:=[.I x.V,.I x.E]
abbrev _root_.Go.Sh.g8.Pv(x:g8):PV:=.agg x.Pc
abbrev _root_.Go.Sh.o0.Pc(x:o0):List PV:=[.L b7.Pv x.x.S.S.a8,.I x.x.S.S.Last,.I x.x.S.Serial,.L iF x.x.Roots,.L c7.Pv x.x.a8,.L b8.Pv x.x.T,.L g7.Pv x.x.Q.L,.I x.x.Q.Cap,.I x.o.Kind,.I x.o.A,.I x.o.B,.I x.o.C]
abbrev _root_.Go.Sh.o0.Pv(x:o0):PV:=.agg x.Pc
abbrev _root_.Go.Sh.F0.Pc(x:F0):List PV:=[.I x.r,.I x.h]
abbrev _root_.Go.Sh.F0.Pv(x:F0):PV:=.agg x.Pc
abbrev _root_.Go.Sh.D5.Pc(x:D5):List PV:=[.I x.h,.I x.k,.I x.v]
abbrev _root_.Go.Sh.D5.Pv(x:D5):PV:=.agg x.Pc
abbrev _root_.Go.Sh.E9.Pc(x:E9):List PV:=[.L b8.Pv x.t]
abbrev _root_.Go.Sh.E9.Pv(x:E9):PV:=.agg x.Pc
abbrev _root_.Go.Sh.l6.Pc(x:l6):List PV:=[.I x.Key,.I x.Val]
abbrev _root_.Go.Sh.l6.Pv(x:l6):PV:=.agg x.Pc
abbrev _root_.Go.Sh.g6.Pc(x:g6):List PV:=[.L iF x.L,.I x.Cap]
abbrev _root_.Go.Sh.g6.Pv(x:g6):PV:=.agg x.Pc
def a8H(t:Nat):Nat:=if t=85 then 4 else if t=89 then 0 else if t=93 then 1 else 0
theorem L0:J0 Tryz.prog 3=some false:=by kernel_rfl
theorem b6M:J0 Tryz.prog 4=some false:=by kernel_rfl
theorem c7o:J0 Tryz.prog 25=some false:=by kernel_rfl
theorem a2z:J0 Tryz.prog 27=some true:=by kernel_rfl
theorem a5e:J0 Tryz.prog 29=some true:=by kernel_rfl
theorem b8i:J0 Tryz.prog 30=some false:=by kernel_rfl
theorem c7p:J0 Tryz.prog 31=some false:=by kernel_rfl
theorem b4Y:J0 Tryz.prog 32=some false:=by kernel_rfl
theorem a4l:J0 Tryz.prog 35=some true:=by kernel_rfl
theorem o7:J0 Tryz.prog 37=some true:=by kernel_rfl
theorem a3m:J0 Tryz.prog 40=some true:=by kernel_rfl
theorem a5f:J0 Tryz.prog 45=some false:=by kernel_rfl
theorem a5g:J0 Tryz.prog 47=some true:=by kernel_rfl
theorem b2m:J0 Tryz.prog 54=some true:=by kernel_rfl
theorem c1Q:J0 Tryz.prog 57=some true:=by kernel_rfl
theorem b4Z:J0 Tryz.prog 65=some true:=by kernel_rfl
theorem a2U:J0 Tryz.prog 144=some true:=by kernel_rfl
theorem a04:J0 Tryz.prog 154=some true:=by kernel_rfl
theorem b9A:J0 Tryz.prog 201=some false:=by kernel_rfl
theorem a7x:J0 Tryz.prog 292=some true:=by kernel_rfl
theorem Z6:M2 Tryz.prog 3=some 8:=by kernel_rfl
theorem c7q:M2 Tryz.prog 47=some 16:=by kernel_rfl
theorem c1R:M2 Tryz.prog 56=some 80:=by kernel_rfl
theorem c4O:M2 Tryz.prog 154=some 24:=by kernel_rfl
theorem b9B:M2 Tryz.prog 183=some 24:=by kernel_rfl
theorem b9C:M2 Tryz.prog 256=some 24:=by kernel_rfl
theorem b9D:M2 Tryz.prog 308=some 16:=by kernel_rfl
theorem b40:y6 Tryz.prog 22=some 30:=by kernel_rfl
theorem P5:y6 Tryz.prog 25=some 56:=by kernel_rfl
theorem l7:y6 Tryz.prog 30=some 3:=by kernel_rfl
theorem U8:y6 Tryz.prog 31=some 183:=by kernel_rfl
theorem a0B:y6 Tryz.prog 32=some 256:=by kernel_rfl
theorem a6A:y6 Tryz.prog 33=some 154:=by kernel_rfl
theorem b2n:y6 Tryz.prog 38=some 63:=by kernel_rfl
theorem a1I:y6 Tryz.prog 41=some 47:=by kernel_rfl
theorem b0u:y6 Tryz.prog 63=some 65:=by kernel_rfl
theorem Y2:y6 Tryz.prog 138=some 144:=by kernel_rfl
theorem a5h:y6 Tryz.prog 305=some 308:=by kernel_rfl
theorem c1S:a0E Tryz.prog 27 0=some (0,25):=by kernel_rfl
theorem b6N:a0E Tryz.prog 37 1=some (3,30):=by kernel_rfl
theorem c1T:a0E Tryz.prog 37 2=some (4,31):=by kernel_rfl
theorem c1U:a0E Tryz.prog 37 4=some (6,35):=by kernel_rfl
theorem a6B:a0E Tryz.prog 47 0=some (0,3):=by kernel_rfl
theorem a9h:a0E Tryz.prog 47 1=some (1,45):=by kernel_rfl
theorem c1V:a0E Tryz.prog 54 1=some (1,3):=by kernel_rfl
theorem c1W:a0E Tryz.prog 54 2=some (2,3):=by kernel_rfl
theorem b6O:a0E Tryz.prog 54 4=some (4,4):=by kernel_rfl
theorem b6P:a0E Tryz.prog 56 0=some (0,3):=by kernel_rfl
theorem c1X:a0E Tryz.prog 56 2=some (2,54):=by kernel_rfl
theorem c1Y:a0E Tryz.prog 65 0=some (0,3):=by kernel_rfl
theorem c0S:a0E Tryz.prog 144 2=some (2,3):=by kernel_rfl
theorem b4a:a0E Tryz.prog 183 0=some (0,3):=by kernel_rfl
theorem c0T:a0E Tryz.prog 183 1=some (1,4):=by kernel_rfl
theorem c0U:a0E Tryz.prog 256 1=some (1,3):=by kernel_rfl
theorem c0V:a0E Tryz.prog 308 0=some (0,3):=by kernel_rfl
theorem b4b:a0E Tryz.prog 308 1=some (1,3):=by kernel_rfl
theorem c6K:c4q Tryz.prog 3=some .i64:=by kernel_rfl
theorem c7r:A0 Tryz.prog 48:=kC Tryz.func48 J
theorem c7s:A0 Tryz.prog 51:=kC Tryz.func51 J
theorem c7t:A0 Tryz.prog 52:=kC Tryz.func52 J
theorem c1Z:A0 Tryz.prog 86:=kC Tryz.func86 J
theorem c7u:A0 Tryz.prog 92:=kC Tryz.func92 J
theorem c4P:A0 Tryz.prog 167:=kC Tryz.func167 J
theorem c4Q:A0 Tryz.prog 174:=kC Tryz.func174 J
theorem c4R:A0 Tryz.prog 184:=kC Tryz.func184 J
theorem c4S:A0 Tryz.prog 195:=kC Tryz.func195 J
theorem c4T:A0 Tryz.prog 197:=kC Tryz.func197 J
theorem c4U:A0 Tryz.prog 221:=kC Tryz.func221 J
theorem c4V:A0 Tryz.prog 223:=kC Tryz.func223 J
theorem b9E:A0 Tryz.prog 224:=kC Tryz.func224 J
theorem b9F:A0 Tryz.prog 227:=kC Tryz.func227 J
theorem c4W:A0 Tryz.prog 247:=kC Tryz.func247 J
theorem b9G:A0 Tryz.prog 248:=kC Tryz.func248 J
theorem W6:b0j Tryz.prog 109=some (3,107):=by kernel_rfl
theorem b2o:b0j Tryz.prog 123=some (3,3):=by kernel_rfl
theorem P6:b0j Tryz.prog 140=some (3,138):=by kernel_rfl
theorem a2g:b0j Tryz.prog 201=some (3,4):=by kernel_rfl
theorem c10:C3 Tryz.prog 27=some (λi=>(#[(0,1),(1,1)]:Array (Nat × Nat))[i]?):=by kernel_rfl
theorem c11:C3 Tryz.prog 29=some (λi=>(#[(0,2),(2,1)]:Array (Nat × Nat))[i]?):=by kernel_rfl
theorem c7v:C3 Tryz.prog 35=some (λi=>(#[(0,1),(1,1)]:Array (Nat × Nat))[i]?):=by kernel_rfl
theorem c12:C3 Tryz.prog 37=some (λi=>(#[(0,3),(3,1),(4,1),(5,1),(6,2)]:Array (Nat × Nat))[i]?):=by kernel_rfl
theorem b8j:C3 Tryz.prog 40=some (λi=>(#[(0,8),(8,1)]:Array (Nat × Nat))[i]?):=by kernel_rfl
theorem c7w:C3 Tryz.prog 47=some (λi=>(#[(0,1),(1,1)]:Array (Nat × Nat))[i]?):=by kernel_rfl
theorem c7x:C3 Tryz.prog 54=some (λi=>(#[(0,1),(1,1),(2,1),(3,1),(4,1),(5,1)]:Array (Nat × Nat))[i]?):=by kernel_rfl
theorem b42:C3 Tryz.prog 56=some (λi=>(#[(0,1),(1,1),(2,6)]:Array (Nat × Nat))[i]?):=by kernel_rfl
theorem c7y:C3 Tryz.prog 57=some (λi=>some (i*1,1)):=by kernel_rfl
theorem b8k:C3 Tryz.prog 65=some (λi=>(#[(0,1),(1,1),(2,1),(3,1)]:Array (Nat × Nat))[i]?):=by kernel_rfl
theorem c7z:C3 Tryz.prog 85=some (λi=>(#[(0,4)]:Array (Nat × Nat))[i]?):=by kernel_rfl
theorem c7A:C3 Tryz.prog 89=some (λi=>(#[]:Array (Nat × Nat))[i]?):=by kernel_rfl
theorem c7B:C3 Tryz.prog 93=some (λi=>(#[(0,1)]:Array (Nat × Nat))[i]?):=by kernel_rfl
theorem c4X:C3 Tryz.prog 113=some (λi=>(#[(0,8),(8,4)]:Array (Nat × Nat))[i]?):=by kernel_rfl
theorem a05:C3 Tryz.prog 144=some (λi=>(#[(0,1),(1,1),(2,1),(3,1)]:Array (Nat × Nat))[i]?):=by kernel_rfl
theorem b41:C3 Tryz.prog 154=some (λi=>(#[(0,1),(1,1),(2,1)]:Array (Nat × Nat))[i]?):=by kernel_rfl
theorem c4Y:C3 Tryz.prog 183=some (λi=>(#[(0,1),(1,1),(2,1)]:Array (Nat × Nat))[i]?):=by kernel_rfl
theorem c4Z:C3 Tryz.prog 234=some (λi=>(#[(0,1),(1,1),(2,1)]:Array (Nat × Nat))[i]?):=by kernel_rfl
theorem c40:C3 Tryz.prog 242=some (λi=>(#[(0,1)]:Array (Nat × Nat))[i]?):=by kernel_rfl
theorem b9H:C3 Tryz.prog 256=some (λi=>(#[(0,1),(1,1),(2,1)]:Array (Nat × Nat))[i]?):=by kernel_rfl
theorem c41:C3 Tryz.prog 261=some (λi=>(#[(0,1)]:Array (Nat × Nat))[i]?):=by kernel_rfl
theorem c42:C3 Tryz.prog 265=some (λi=>(#[(0,1),(1,1)]:Array (Nat × Nat))[i]?):=by kernel_rfl
theorem c43:C3 Tryz.prog 292=some (λi=>(#[(0,1),(1,1)]:Array (Nat × Nat))[i]?):=by kernel_rfl
theorem b9I:C3 Tryz.prog 308=some (λi=>(#[(0,1),(1,1)]:Array (Nat × Nat))[i]?):=by kernel_rfl
theorem c7C:b0H Tryz.prog 57=some [1,1,1,1]:=by kernel_rfl
theorem c13:a8X Tryz.prog 85=true:=by kernel_rfl
theorem c14:a8X Tryz.prog 89=true:=by kernel_rfl
theorem c15:a8X Tryz.prog 93=true:=by kernel_rfl
theorem c16:b9n Tryz.prog 57=some (4,3):=by kernel_rfl
theorem p9:o6 Tryz.prog 3=some 1:=by kernel_rfl
theorem c9y:o6 Tryz.prog 4=some 1:=by kernel_rfl
theorem a06:o6 Tryz.prog 27=some 2:=by kernel_rfl
theorem a5i:o6 Tryz.prog 29=some 3:=by kernel_rfl
theorem b0v:o6 Tryz.prog 30=some 1:=by kernel_rfl
theorem c17:o6 Tryz.prog 33=some 1:=by kernel_rfl
theorem a07:o6 Tryz.prog 35=some 2:=by kernel_rfl
theorem n0:o6 Tryz.prog 37=some 8:=by kernel_rfl
theorem U9:o6 Tryz.prog 40=some 9:=by kernel_rfl
theorem K2:o6 Tryz.prog 47=some 2:=by kernel_rfl
theorem a6C:o6 Tryz.prog 54=some 6:=by kernel_rfl
theorem a0a:o6 Tryz.prog 56=some 8:=by kernel_rfl
theorem c18:o6 Tryz.prog 57=some 4:=by kernel_rfl
theorem c19:o6 Tryz.prog 63=some 1:=by kernel_rfl
theorem a8I:o6 Tryz.prog 65=some 4:=by kernel_rfl
theorem c7D:o6 Tryz.prog 89=some 0:=by kernel_rfl
theorem H5:o6 Tryz.prog 144=some 4:=by kernel_rfl
theorem J1:o6 Tryz.prog 154=some 3:=by kernel_rfl
theorem V9:o6 Tryz.prog 183=some 3:=by kernel_rfl
theorem a0w:o6 Tryz.prog 256=some 3:=by kernel_rfl
theorem a3T:o6 Tryz.prog 292=some 2:=by kernel_rfl
theorem a9i:o6 Tryz.prog 308=some 2:=by kernel_rfl
theorem I2:Tryz.prog.underlying 3=some (.int .i64):=by kernel_rfl
theorem c6L:Tryz.prog.underlying 5=some (.int .u8):=by kernel_rfl
theorem E5:x4 Tryz.prog 3=some ((.I 0)):=by kernel_rfl
theorem b6Q:x4 Tryz.prog 4=some ((.bool false)):=by kernel_rfl
theorem c2a:x4 Tryz.prog 27=some ((.agg #[(.slice none 0 0),(.I 0)])):=by kernel_rfl
theorem c2b:x4 Tryz.prog 29=some ((.agg #[(.slice none 0 0),(.I 0),(.I 0)])):=by kernel_rfl
theorem c2c:x4 Tryz.prog 30=some ((.slice none 0 0)):=by kernel_rfl
theorem c7E:x4 Tryz.prog 35=some ((.agg #[(.slice none 0 0),(.I 0)])):=by kernel_rfl
theorem c2d:x4 Tryz.prog 37=some ((.agg #[(.slice none 0 0),(.I 0),(.I 0),(.slice none 0 0),(.slice none 0 0),(.slice none 0 0),(.slice none 0 0),(.I 0)])):=by kernel_rfl
theorem b8l:x4 Tryz.prog 40=some ((.agg #[(.slice none 0 0),(.I 0),(.I 0),(.slice none 0 0),(.slice none 0 0),(.slice none 0 0),(.slice none 0 0),(.I 0),(.slice none 0 0)])):=by kernel_rfl
theorem b8m:x4 Tryz.prog 47=some ((.agg #[(.I 0),(.I 0)])):=by kernel_rfl
theorem c7F:x4 Tryz.prog 54=some ((.agg #[(.I 0),(.I 0),(.I 0),(.I 0),(.bool false),(.slice none 0 0)])):=by kernel_rfl
theorem b0w:x4 Tryz.prog 56=some ((.agg #[(.I 0),(.I 0),(.I 0),(.I 0),(.I 0),(.I 0),(.bool false),(.slice none 0 0)])):=by kernel_rfl
theorem c7G:x4 Tryz.prog 57=some ((.agg #[(.I 0),(.I 0),(.I 0),(.I 0)])):=by kernel_rfl
theorem b8n:x4 Tryz.prog 65=some ((.agg #[(.I 0),(.I 0),(.I 0),(.I 0)])):=by kernel_rfl
theorem c2e:x4 Tryz.prog 85=some ((.agg #[(.I 0),(.I 0),(.I 0),(.I 0)])):=by kernel_rfl
theorem c2f:x4 Tryz.prog 89=some ((.agg #[])):=by kernel_rfl
theorem c2g:x4 Tryz.prog 93=some ((.agg #[(.I 0)])):=by kernel_rfl
theorem c44:x4 Tryz.prog 107=some (.nilFunc):=by kernel_rfl
theorem c45:x4 Tryz.prog 113=some ((.agg #[(.slice none 0 0),(.I 0),(.I 0),(.slice none 0 0),(.slice none 0 0),(.slice none 0 0),(.slice none 0 0),(.I 0),(.I 0),(.I 0),(.I 0),(.I 0)])):=by kernel_rfl
theorem c46:x4 Tryz.prog 138=some ((.slice none 0 0)):=by kernel_rfl
theorem G5:x4 Tryz.prog 144=some ((.agg #[.nilFunc,(.I 0),(.I 0),(.I 0)])):=by kernel_rfl
theorem a9j:x4 Tryz.prog 154=some ((.agg #[(.I 0),(.I 0),(.I 0)])):=by kernel_rfl
theorem b43:x4 Tryz.prog 183=some ((.agg #[(.I 0),(.bool false),(.I 0)])):=by kernel_rfl
theorem c47:x4 Tryz.prog 234=some ((.agg #[(.I 0),(.I 0),(.I 0)])):=by kernel_rfl
theorem c48:x4 Tryz.prog 242=some ((.agg #[(.slice none 0 0)])):=by kernel_rfl
theorem b1R:x4 Tryz.prog 256=some ((.agg #[(.I 0),(.I 0),(.I 0)])):=by kernel_rfl
theorem c49:x4 Tryz.prog 261=some ((.agg #[.nilFunc])):=by kernel_rfl
theorem c5a:x4 Tryz.prog 265=some ((.agg #[(.I 0),(.I 0)])):=by kernel_rfl
theorem c5b:x4 Tryz.prog 292=some ((.agg #[(.slice none 0 0),(.I 0)])):=by kernel_rfl
theorem a7y:x4 Tryz.prog 308=some ((.agg #[(.I 0),(.I 0)])):=by kernel_rfl
theorem x6:Tryz.prog.follows .mixedOrders=true:=by kernel_rfl
def tb:TB:=⟨[((27,0),(0,25)),((27,1),(1,3)),((29,0),(0,27)),((29,1),(2,3)),((35,0),(0,33)),((35,1),(1,3)),((37,0),(0,29)),((37,1),(3,30)),((37,2),(4,31)),((37,3),(5,32)),((37,4),(6,35)),((40,0),(0,37)),((40,1),(8,38)),((47,0),(0,3)),((47,1),(1,45)),((54,0),(0,3)),((54,1),(1,3)),((54,2),(2,3)),((54,3),(3,3)),((54,4),(4,4)),((54,5),(5,30)),((56,0),(0,3)),((56,1),(1,3)),((56,2),(2,54)),((65,0),(0,3)),((65,1),(1,3)),((65,2),(2,3)),((65,3),(3,3)),((85,0),(0,65)),((93,0),(0,3)),((113,0),(0,37)),((113,1),(8,65)),((144,0),(0,142)),((144,1),(1,3)),((144,3),(3,45)),((154,0),(0,3)),((154,1),(1,3)),((154,2),(2,3)),((183,0),(0,3)),((183,1),(1,4)),((183,2),(2,3)),((234,0),(0,3)),((234,1),(1,3)),((234,2),(2,3)),((242,0),(0,32)),((256,0),(0,3)),((256,1),(1,3)),((256,2),(2,3)),((261,0),(0,259)),((265,0),(0,3)),((265,1),(1,3)),((292,0),(0,30)),((292,1),(1,3)),((308,0),(0,3)),((308,1),(1,3))],[(3,false),(4,false),(25,false),(27,true),(29,true),(30,false),(31,false),(32,false),(33,false),(35,true),(37,true),(38,false),(40,true),(45,false),(47,true),(54,true),(56,true),(57,true),(63,false),(65,true),(113,true),(123,false),(142,false),(144,true),(154,true),(183,true),(201,false),(256,true),(259,false),(261,true),(292,true),(305,false),(308,true),(316,false)],[(3,1),(4,1),(25,1),(27,2),(29,3),(30,1),(31,1),(32,1),(35,2),(37,8),(40,9),(45,1),(47,2),(54,6),(56,8),(57,4),(65,4),(85,4),(93,1),(113,12),(123,1),(144,4),(154,3),(183,3),(201,1),(256,3),(261,1),(292,2),(305,1),(308,2)],[(3,.I 0),(4,.bool false),(27,.agg [.M3 true (List.map b7.Pv []),.I 0]),(29,.agg [.M3 true (List.map b7.Pv []),.I 0,.I 0]),(30,.M3 true (List.map iF [])),(32,.M3 true (List.map b8.Pv [])),(35,.agg [.M3 true (List.map g7.Pv []),.I 0]),(37,.agg [.M3 true (List.map b7.Pv []),.I 0,.I 0,.M3 true (List.map iF []),.M3 true (List.map c7.Pv []),.M3 true (List.map b8.Pv []),.M3 true (List.map g7.Pv []),.I 0]),(40,.agg [.M3 true (List.map b7.Pv []),.I 0,.I 0,.M3 true (List.map iF []),.M3 true (List.map c7.Pv []),.M3 true (List.map b8.Pv []),.M3 true (List.map g7.Pv []),.I 0,.M3 true (List.map (Ls e6.Pv) [])]),(45,.I 0),(47,.agg [.I 0,.I 0]),(54,.agg [.I 0,.I 0,.I 0,.I 0,.bool false,.M3 true (List.map iF [])]),(56,.agg [.I 0,.I 0,.I 0,.I 0,.I 0,.I 0,.bool false,.M3 true (List.map iF [])]),(57,.agg [.I 0,.I 0,.I 0,.I 0]),(65,.agg [.I 0,.I 0,.I 0,.I 0]),(85,.agg [.I 0,.I 0,.I 0,.I 0]),(89,.agg []),(93,.agg [.I 0]),(123,.abs b8g),(144,.agg [.nilfn,.I 0,.I 0,.I 0]),(154,.agg [.I 0,.I 0,.I 0]),(183,.agg [.I 0,.bool false,.I 0]),(201,.abs b8g),(256,.agg [.I 0,.I 0,.I 0]),(261,.agg [.nilfn]),(292,.agg [.M3 true (List.map iF []),.I 0]),(305,.M3 true (List.map l6.Pv [])),(308,.agg [.I 0,.I 0])]⟩
theorem Tb:TB.Ok Tryz.prog tb:=⟨by kernel_rfl,by kernel_rfl,by kernel_rfl,by kernel_rfl⟩
section
variable{X:Ctx}{ops:Array Oper}{K:Ctx→St→Prop}{i n:Nat}{l l':List Oper}{env env':Nat→PV}{σ σ':Nat→Option Row}{Q:PX→Ctx→St→Prop}{y:Code}{KD:St→Prop}{bar:List Nat}
theorem S1(n:Nat)(h:run tb n l env σ=some (l',env',σ'))(k:Sq X ops (i+n) l' K ⟨env',σ'⟩)(hb:TB.Ok X.P tb:=by exact Tb):Sq X ops i l K ⟨env,σ⟩:=seg hb n h k
theorem S2(n:Nat)(h:run tb n l env σ=some ([],env',σ'))(k:K X ⟨env',σ'⟩)(hb:TB.Ok X.P tb:=by exact Tb):Sq X ops i l K ⟨env,σ⟩:=seg hb n h (yN k)
theorem S3{id:Nat}(n:Nat)(h:run tb n l env σ=some (l',env',σ'))(k:Sq X l.toArray (0+n) l' (λX' s=>R4 X' y Q s) ⟨env',σ'⟩)(hd:a2k X.N l.toArray=true:=by kernel_rfl)(hb:TB.Ok X.P tb:=by exact Tb):R4 X (.seq (.region id l.toArray false) y) Q ⟨env,σ⟩:=sr hd (seg hb n h k)
theorem S4{id:Nat}(n:Nat)(h:run tb n l env σ=some ([],env',σ'))(k:R4 X y Q ⟨env',σ'⟩)(hd:a2k X.N l.toArray=true:=by kernel_rfl)(hb:TB.Ok X.P tb:=by exact Tb):R4 X (.seq (.region id l.toArray false) y) Q ⟨env,σ⟩:=sr hd (seg hb n h (yN k))
theorem S5{id:Nat}(n:Nat)(h:run tb n l env σ=some (l',env',σ'))(k:Sq X l.toArray (0+n) l' (Q .normal) ⟨env',σ'⟩)(hd:a2k X.N l.toArray=true:=by kernel_rfl)(hb:TB.Ok X.P tb:=by exact Tb):R4 X (.region id l.toArray false) Q ⟨env,σ⟩:=sr1 hd (seg hb n h k)
theorem S6{id:Nat}(n:Nat)(h:run tb n l env σ=some ([],env',σ'))(k:Q .normal X ⟨env',σ'⟩)(hd:a2k X.N l.toArray=true:=by kernel_rfl)(hb:TB.Ok X.P tb:=by exact Tb):R4 X (.region id l.toArray false) Q ⟨env,σ⟩:=sr1 hd (seg hb n h (yN k))
theorem S7(n:Nat)(h:c6l tb bar n i l env σ=some (l',env',σ'))(k:Ex X.P ops bar true (i+n) l' ⟨env',σ'⟩ KD)(hb:TB.Ok X.P tb:=by exact Tb):Ex X.P ops bar true i l ⟨env,σ⟩ KD:=dG hb n h k
theorem S8(n:Nat)(h:c6l tb bar n i l env σ=some ([],env',σ'))(k:KD ⟨env',σ'⟩)(hb:TB.Ok X.P tb:=by exact Tb):Ex X.P ops bar true i l ⟨env,σ⟩ KD:=dG hb n h k
end
theorem c9a:b4X Tryz.prog (Tryz.sortF_ren.f 6):=c1C Tryz.sortF
set_option maxHeartbeats 40000000 in
theorem b3P {a0}:PO Tryz.prog 59 [e6.Pv a0] (a1J a0) λr=>.bool r:=by
 refine pO Tryz.func59 λr h _ _=>?_;unfold a1J at h;refine S4 2 J<|S3 4 J<|o5 J (λhg=>oF J c1Y J)<|o5 J (λhg=>oS (ct hg) J J L0 J)<|o5 J (λhg=>E6 (ct hg) J J)<|y0 J (Q6 J J J (λq=>eqT q))<|S2 1 J<|b9 ?_;cases h;exact f1

set_option maxHeartbeats 40000000 in
theorem u6:PO Tryz.prog 113 [.fn (.func 114) []] (V3) λr=>c9.Pv r:=by
 refine pO Tryz.func113 λr h _ _=>?_;unfold V3 at h;refine S4 1 J<|S3 1 J<|y0 J (r9 (cs:=[.fn (.func 114) [],.I 0,.I 5,.I 6]) J a05 G5 J J J)<|O9 (a6r 4 (d':=.agg [fvE (some 114),.I 0,.I 5,.I 6]) J)<|S2 1 J<|b9 ?_;cases h;exact⟨J,[_],⟨oL J J J a2U H5 nl J,tr⟩,J,io⟩

set_option maxHeartbeats 40000000 in
theorem W0:PO Tryz.prog 116 [.fn (.func 117) []] (O2) λr=>c9.Pv r:=by
 refine pO Tryz.func116 λr h _ _=>?_;unfold O2 at h;refine S4 1 J<|S3 1 J<|y0 J (r9 (cs:=[.fn (.func 117) [],.I (-1),.I 5,.I 13]) J a05 G5 J J J)<|O9 (a6r 4 (d':=.agg [fvE (some 117),.I (-1),.I 5,.I 13]) J)<|S2 1 J<|b9 ?_;cases h;exact⟨J,[_],⟨oL J J J a2U H5 nl J,tr⟩,J,io⟩

set_option maxHeartbeats 40000000 in
theorem B7 {a0}:PO Tryz.prog 112 [.L c9.Pv a0] (G1 a0) λr=>.L c9.Pv r:=by
 refine pO Tryz.func112 λr h _ _=>?_;unfold G1 at h;refine S4 1 J<|S4 2 J<|b9 ?_;cases h;exact f1

set_option maxHeartbeats 40000000 in
theorem H7:PO Tryz.prog 113 [.fn (.func 115) []] (V4) λr=>c9.Pv r:=by
 refine pO Tryz.func113 λr h _ _=>?_;unfold V4 at h;refine S4 1 J<|S3 1 J<|y0 J (r9 (cs:=[.fn (.func 115) [],.I 0,.I 5,.I 6]) J a05 G5 J J J)<|O9 (a6r 4 (d':=.agg [fvE (some 115),.I 0,.I 5,.I 6]) J)<|S2 1 J<|b9 ?_;cases h;exact⟨J,[_],⟨oL J J J a2U H5 nl J,tr⟩,J,io⟩

set_option maxHeartbeats 40000000 in
theorem a3Q:PO Tryz.prog 118 [.fn (.func 117) []] (R9) λr=>c9.Pv r:=by
 refine pO Tryz.func118 λr h _ _=>?_;unfold R9 at h;refine S4 1 J<|S3 1 J<|y0 J (r9 (cs:=[.fn (.func 117) [],.I 0,.I 3,.I 5]) J a05 G5 J J J)<|O9 (a6r 4 (d':=.agg [fvE (some 117),.I 0,.I 3,.I 5]) J)<|S2 1 J<|b9 ?_;cases h;exact⟨J,[_],⟨oL J J J a2U H5 nl J,tr⟩,J,io⟩

set_option maxHeartbeats 40000000 in
theorem a3P:PO Tryz.prog 118 [.fn (.func 115) []] (R8) λr=>c9.Pv r:=by
 refine pO Tryz.func118 λr h _ _=>?_;unfold R8 at h;refine S4 1 J<|S3 1 J<|y0 J (r9 (cs:=[.fn (.func 115) [],.I 0,.I 3,.I 5]) J a05 G5 J J J)<|O9 (a6r 4 (d':=.agg [fvE (some 115),.I 0,.I 3,.I 5]) J)<|S2 1 J<|b9 ?_;cases h;exact⟨J,[_],⟨oL J J J a2U H5 nl J,tr⟩,J,io⟩

set_option maxHeartbeats 40000000 in
theorem a1L:PO Tryz.prog 119 [.fn (.func 117) []] (K4) λr=>c9.Pv r:=by
 refine pO Tryz.func119 λr h _ _=>?_;unfold K4 at h;refine S4 1 J<|S3 1 J<|y0 J (r9 (cs:=[.fn (.func 117) [],.I (-1),.I 5,.I 6]) J a05 G5 J J J)<|O9 (a6r 4 (d':=.agg [fvE (some 117),.I (-1),.I 5,.I 6]) J)<|S2 1 J<|b9 ?_;cases h;exact⟨J,[_],⟨oL J J J a2U H5 nl J,tr⟩,J,io⟩

set_option maxHeartbeats 40000000 in
theorem a4o:PO Tryz.prog 120 [.fn (.func 114) []] (V1) λr=>c9.Pv r:=by
 refine pO Tryz.func120 λr h _ _=>?_;unfold V1 at h;refine S4 1 J<|S3 1 J<|y0 J (r9 (cs:=[.fn (.func 114) [],.I 0,.I 5,.I 7]) J a05 G5 J J J)<|O9 (a6r 4 (d':=.agg [fvE (some 114),.I 0,.I 5,.I 7]) J)<|S2 1 J<|b9 ?_;cases h;exact⟨J,[_],⟨oL J J J a2U H5 nl J,tr⟩,J,io⟩

set_option maxHeartbeats 40000000 in
theorem P7:PO Tryz.prog 119 [.fn (.func 115) []] (K3) λr=>c9.Pv r:=by
 refine pO Tryz.func119 λr h _ _=>?_;unfold K3 at h;refine S4 1 J<|S3 1 J<|y0 J (r9 (cs:=[.fn (.func 115) [],.I (-1),.I 5,.I 6]) J a05 G5 J J J)<|O9 (a6r 4 (d':=.agg [fvE (some 115),.I (-1),.I 5,.I 6]) J)<|S2 1 J<|b9 ?_;cases h;exact⟨J,[_],⟨oL J J J a2U H5 nl J,tr⟩,J,io⟩

set_option maxHeartbeats 40000000 in
theorem a4p:PO Tryz.prog 120 [.fn (.func 115) []] (V2) λr=>c9.Pv r:=by
 refine pO Tryz.func120 λr h _ _=>?_;unfold V2 at h;refine S4 1 J<|S3 1 J<|y0 J (r9 (cs:=[.fn (.func 115) [],.I 0,.I 5,.I 7]) J a05 G5 J J J)<|O9 (a6r 4 (d':=.agg [fvE (some 115),.I 0,.I 5,.I 7]) J)<|S2 1 J<|b9 ?_;cases h;exact⟨J,[_],⟨oL J J J a2U H5 nl J,tr⟩,J,io⟩

set_option maxHeartbeats 40000000 in
theorem b1G:PO Tryz.prog 64 [] (a5o) λr=>.abs (T3 (List.map (ent iF (Ls c9.Pv)) r)):=by
 refine pO Tryz.func64 λr h _ _=>?_;refine S4 1 J<|sR<|b8c (KT:=Int) (VT:=List c9) (EK:=iF) (E:=(Ls c9.Pv)) 5000001 J J<|cF h u6 J J λv1 hv1 h=>y0 J (r9 (cs:=[.fn (.func 115) [],.I 0,.I 4,.I 1]) J a05 G5 J J J)<|O9 (a6r 3 (d':=.agg [fvE (some 115),.I 0,.I 4,.I 1]) J)<|cF h W0 J J λv2 hv2 h=>y0 J (a0d (f:=c9.Pv) (l:=[v1,(⟨(some 115),0,4,1⟩:c9),v2]) J Y2 H5 G5 J J nl J J)<|cF h B7 J J λv3 _ h=>a0i (es:=[]) (k:=1) (v:=v3) (E:=(Ls c9.Pv)) (EK:=iF) (.inr J) J J J J J J P6 (u9 I2)<|yc J (y9 J u6 J hv1)<|cF h H7 J J λv4 hv4 h=>y0 J (a0d (f:=c9.Pv) (l:=[v1,v4]) J Y2 H5 G5 J J nl J J)<|cF h B7 J J λv5 hv5 h=>a0i (es:=(n8 [] 1 v3)) (k:=2) (v:=v5) (E:=(Ls c9.Pv)) (EK:=iF) (.inr J) J J J J J J P6 (u9 I2)<|yc J (y9 J u6 J hv1)<|y0 J (a0d (f:=c9.Pv) (l:=[v1]) J Y2 H5 G5 J J nl J J)<|cF h B7 J J λv6 _ h=>a0i (es:=(n8 (n8 [] 1 v3) 2 v5)) (k:=3) (v:=v6) (E:=(Ls c9.Pv)) (EK:=iF) (.inr J) J J J J J J P6 (u9 I2)<|yc J (y9 J u6 J hv1)<|yc J (y9 J H7 J hv4)<|cF h a3Q J J λv7 _ h=>y0 J (a0d (f:=c9.Pv) (l:=[v1,v4,v7]) J Y2 H5 G5 J J nl J J)<|cF h B7 J J λv8 _ h=>a0i (es:=(n8 (n8 (n8 [] 1 v3) 2 v5) 3 v6)) (k:=4) (v:=v8) (E:=(Ls c9.Pv)) (EK:=iF) (.inr J) J J J J J J P6 (u9 I2)<|yc J (y9 J u6 J hv1)<|cF h a3P J J λv9 _ h=>cF h a1L J J λv10 _ h=>y0 J (a0d (f:=c9.Pv) (l:=[v1,v9,v10]) J Y2 H5 G5 J J nl J J)<|cF h B7 J J λv11 _ h=>?_;refine a0i (es:=(n8 (n8 (n8 (n8 [] 1 v3) 2 v5) 3 v6) 4 v8)) (k:=5) (v:=v11) (E:=(Ls c9.Pv)) (EK:=iF) (.inr J) J J J J J J P6 (u9 I2)<|cF h a4o J J λv12 _ h=>cF h P7 J J λv13 hv13 h=>yc J (y9 J W0 J hv2)<|y0 J (a0d (f:=c9.Pv) (l:=[v12,v13,v2]) J Y2 H5 G5 J J nl J J)<|cF h B7 J J λv14 _ h=>a0i (es:=(n8 (n8 (n8 (n8 (n8 [] 1 v3) 2 v5) 3 v6) 4 v8) 5 v11)) (k:=6) (v:=v14) (E:=(Ls c9.Pv)) (EK:=iF) (.inr J) J J J J J J P6 (u9 I2)<|yc J (y9 J u6 J hv1)<|cF h a4p J J λv15 _ h=>y0 J (a0d (f:=c9.Pv) (l:=[v1,v15]) J Y2 H5 G5 J J nl J J)<|cF h B7 J J λv16 _ h=>a0i (es:=(n8 (n8 (n8 (n8 (n8 (n8 [] 1 v3) 2 v5) 3 v6) 4 v8) 5 v11) 6 v14)) (k:=7) (v:=v16) (E:=(Ls c9.Pv)) (EK:=iF) (.inr J) J J J J J J P6 (u9 I2)<|yc J (y9 J u6 J hv1)<|yc J (y9 J P7 J hv13)<|y0 J (a0d (f:=c9.Pv) (l:=[v1,v13]) J Y2 H5 G5 J J nl J J)<|cF h B7 J J λv17 _ h=>a0i (es:=(n8 (n8 (n8 (n8 (n8 (n8 (n8 [] 1 v3) 2 v5) 3 v6) 4 v8) 5 v11) 6 v14) 7 v16)) (k:=8) (v:=v17) (E:=(Ls c9.Pv)) (EK:=iF) (.inr J) J J J J J J P6 (u9 I2)<|yc J (y9 J u6 J hv1)<|yc J (y9 J H7 J hv4)<|y0 J (a0d (f:=c9.Pv) (l:=[v1,v4]) J Y2 H5 G5 J J nl J J)<|yc J (y9 J B7 J hv5)<|a0i (es:=(n8 (n8 (n8 (n8 (n8 (n8 (n8 (n8 [] 1 v3) 2 v5) 3 v6) 4 v8) 5 v11) 6 v14) 7 v16) 8 v17)) (k:=9) (v:=v5) (E:=(Ls c9.Pv)) (EK:=iF) (.inr J) J J J J J J P6 (u9 I2)<|yc J (y9 J u6 J hv1)<|yc J (y9 J H7 J hv4)<|y0 J (a0d (f:=c9.Pv) (l:=[v1,v4]) J Y2 H5 G5 J J nl J J)<|yc J (y9 J B7 J hv5)<|a0i (es:=(n8 (n8 (n8 (n8 (n8 (n8 (n8 (n8 (n8 [] 1 v3) 2 v5) 3 v6) 4 v8) 5 v11) 6 v14) 7 v16) 8 v17) 9 v5)) (k:=10) (v:=v5) (E:=(Ls c9.Pv)) (EK:=iF) (.inr J) J J J J J J P6 (u9 I2)<|cF h B7 J J λv18 _ h=>a0i (es:=(n8 (n8 (n8 (n8 (n8 (n8 (n8 (n8 (n8 (n8 [] 1 v3) 2 v5) 3 v6) 4 v8) 5 v11) 6 v14) 7 v16) 8 v17) 9 v5) 10 v5)) (k:=11) (v:=v18) (E:=(Ls c9.Pv)) (EK:=iF) (.inr J) J J J J J J P6 (u9 I2)<|y0 J (r9 (cs:=[.fn (.func 114) [],.I 0,.I 200,.I 12]) J a05 G5 J J J) ?_;refine O9 (a6r 46 (d':=.agg [fvE (some 114),.I 0,.I 200,.I 12]) J)<|y0 J (a0d (f:=c9.Pv) (l:=[(⟨(some 114),0,200,12⟩:c9)]) J Y2 H5 G5 J J nl J J)<|cF h B7 J J λv19 _ h=>a0i (es:=(n8 (n8 (n8 (n8 (n8 (n8 (n8 (n8 (n8 (n8 (n8 [] 1 v3) 2 v5) 3 v6) 4 v8) 5 v11) 6 v14) 7 v16) 8 v17) 9 v5) 10 v5) 11 v18)) (k:=12) (v:=v19) (E:=(Ls c9.Pv)) (EK:=iF) (.inr J) J J J J J J P6 (u9 I2)<|S2 2 J<|a2s (b9u 0 5000001 J J)<|b9 ?_;cases h;exact f1

set_option maxHeartbeats 40000000 in
theorem a8p {a0}:PO Tryz.prog 114 [e6.Pv a0] (a8N a0) λr=>.I r:=by
 refine pO Tryz.func114 λr h _ _=>?_;unfold a8N at h;refine S4 2 J<|S4 3 J<|b9 ?_;cases h;exact f1

set_option maxHeartbeats 40000000 in
theorem a8q {a0}:PO Tryz.prog 115 [e6.Pv a0] (a8O a0) λr=>.I r:=by
 refine pO Tryz.func115 λr h _ _=>?_;unfold a8O at h;refine S4 2 J<|S4 3 J<|b9 ?_;cases h;exact f1

set_option maxHeartbeats 40000000 in
theorem a8r {a0}:PO Tryz.prog 117 [e6.Pv a0] (a8P a0) λr=>.I r:=by
 refine pO Tryz.func117 λr h _ _=>?_;unfold a8P at h;refine S4 2 J<|S4 3 J<|b9 ?_;cases h;exact f1

set_option maxHeartbeats 40000000 in
theorem b8G {f:Fv} {a0:e6} {r:Int} (h:a9y f a0=some r):∃n,f=some n∧A0 Tryz.prog n∧U7 Tryz.prog n [e6.Pv a0] (.I r):=by
 unfold a9y at h;by_cases e114:f=some 114
 ·rw[if_pos e114] at h;exact⟨114,e114,(@a8p a0).1,(@a8p a0).2 _ h⟩
 rw[if_neg e114] at h;by_cases e115:f=some 115
 ·rw[if_pos e115] at h;exact⟨115,e115,(@a8q a0).1,(@a8q a0).2 _ h⟩
 rw[if_neg e115] at h;by_cases e117:f=some 117
 ·rw[if_pos e117] at h;exact⟨117,e117,(@a8r a0).1,(@a8r a0).2 _ h⟩
 rw[if_neg e117] at h;cases h

set_option maxHeartbeats 40000000 in
theorem a4n {a0}:PO Tryz.prog 40 [e6.Pv a0] (O1 a0) λr=>.I r:=by
 refine pO Tryz.func40 λr h _ _=>?_;unfold O1 at h;refine S4 2 J<|dr [] x6 (by kernel_rfl) (by kernel_rfl)<|A9 h λv1 hv1 h=>d2f J (y9 J b1G J hv1) J<|S7 2 J<|d4 J (b7q (es:=v1) (k:=a0.Kind) (E:=(Ls c9.Pv)) (EK:=iF) (d:=.tup [.L c9.Pv ((y7 v1 a0.Kind).getD ([]:List c9)),.bool ((y7 v1 a0.Kind).isSome)]) J J P6 (u9 I2) c46 J (lk2 _ _ ([]:List c9))) J<|S8 5 J<|g9<|S4 2 J ?_;refine cN h (λhc h=>?_) λhc h=>?_
 ·refine S4 1 J ?_;refine b9 ?_;cases h;exact f1
 ·refine c8 ?_;refine jq h (λ_=>St.of [] []) (λq9 h=>?_) λκ8 h=>?_
  ·refine S4 1 J ?_;refine b9 ?_;cases h;exact f1
  ·refine S3 1 J ?_;refine nL J Y2<|S2 1 J<|k7<|lq h (λs11=>St.of [(1,.ptr 1 0 0),(17,.L c9.Pv ((y7 v1 a0.Kind).getD ([]:List c9))),(18,.I (((y7 v1 a0.Kind).getD ([]:List c9)).length:Int)),(19,.I s11)] [(1,vR (e6.Pv a0) 4)]) W λs11 x12 h hx13=>S4 1 J<|g9 ?_;refine cN h (λhc h=>?_) λhc h=>?_
   ·refine c8 ?_;refine g9<|k7<|sR<|iL h J J Y2 H5 λv13 _ h=>S2 3 J<|S3 3 J ?_;obtain⟨v14,hv15,h⟩:=b1i h;obtain⟨n15,he16,hk17,hp18⟩:=b8G hv15;refine O9 (c7k 24 J he16)<|y0 J (b8T J hk17 J hp18)<|S2 1 J<|S3 5 J<|o5 J (λhg=>mI J)<|o5 J (λhg=>oF J c0S J)<|o5 J (λhg=>oS (ct hg) J J L0 J)<|o5 J (λhg=>E6 (ct hg) (ct hg) J)<|y0 J (L1 J J J (λq=>eqF q))<|yN ?_;refine cN h (λhc h=>?_) λhc h=>?_
    ·refine S4 3 J ?_;refine b9 ?_;have h:=xL hx13 h;cases h;exact f1
    ·refine c8 ?_;refine S6 2 J ?_;exact eL h W
   ·refine w7 ?_;refine j5<|j5<|m9 ?_;have h:=xL hx13 h;exact eJ h W

set_option maxHeartbeats 40000000 in
theorem b3Q {a0}:PO Tryz.prog 38 [.L (Ls e6.Pv) a0] (a1K a0) λr=>.bool r:=by
 refine pO Tryz.func38 λr h _ _=>?_;refine S4 1 J<|g9<|S3 1 J<|nL J b2n<|S2 1 J ?_;refine cN h (λhc h=>?_) λhc h=>?_
 ·refine S4 1 J ?_;refine b9 ?_;cases h;exact f1
 ·refine c8 ?_;refine jq h (λ_=>St.of [] []) (λq21 h=>?_) λκ20 h=>?_
  ·refine S4 1 J ?_;refine b9 ?_;cases h;exact f1
  ·refine S3 1 J ?_;refine nL J b2n<|S2 1 J<|k7<|lq h (λs23=>St.of [(10,.L (Ls e6.Pv) a0),(11,.I (a0.length:Int)),(12,.I s23)] []) W λs23 x24 h hx22=>S4 1 J<|g9 ?_;refine cN h (λhc h=>?_) λhc h=>?_
   ·refine c8 ?_;refine jq h (λ_=>St.of [(10,.L (Ls e6.Pv) a0),(11,.I (a0.length:Int)),(12,.I s23)] []) (λq33 h=>?_) λκ32 h=>?_
    ·refine S6 2 J ?_;exact eL h W
    ·refine k7 ?_;refine sR<|iL h J J b2n c19 λv34 _ h=>S2 2 J<|g9<|S3 1 J<|nL J b0u<|S2 1 J ?_;refine cN h (λhc h=>?_) λhc h=>?_
     ·refine S4 1 J ?_;refine b9 ?_;have h:=xL hx22 h;cases h;exact f1
     ·refine c8 ?_;refine S3 1 J<|nL J b0u<|S2 1 J<|k7<|lq h (λs36=>St.of [(10,.L (Ls e6.Pv) a0),(11,.I (a0.length:Int)),(12,.I s23),(19,.L e6.Pv v34),(20,.I (v34.length:Int)),(21,.I s36)] []) W λs36 x37 h hx34=>S4 1 J<|g9 ?_;refine cN h (λhc h=>?_) λhc h=>?_
      ·refine c8 ?_;refine g9<|k7<|sR<|iL h J J b0u a8I λv38 _ h=>S2 3 J<|S3 1 J<|cA h b3P J J λv39 _ h=>S1 2 J<|o5 J (λhg=>oL J J J b4Z a8I nl J)<|A9 h λv40 hv37 h=>o5 J (λhg=>a0e J a4n (a3W (ct hg) J) (a1k hv37 hg))<|o5 J (λhg=>E6 (ct hg) J J)<|y0 J (L1 J J J (λq=>eqF q))<|yN ?_;refine cN h (λhc h=>?_) λhc h=>?_
       ·refine S4 1 J ?_;refine b9 ?_;have h:=xL hx34 h;have h:=xL hx22 h;cases h;exact f1
       ·refine c8 ?_;refine S6 2 J ?_;exact eL h W
      ·refine w7 ?_;refine j5<|j5<|m9 ?_;have h:=xL hx34 h;exact eJ h W
   ·refine w7 ?_;refine j5<|j5<|m9 ?_;have h:=xL hx22 h;exact eJ h W

set_option maxHeartbeats 40000000 in
theorem a6w {a0 a1}:PO Tryz.prog 110 [.I a0,.I a1] (T0 a0 a1) λr=>c4.Pv r:=by
 refine pO Tryz.func110 λr h _ _=>?_;refine S4 1 J<|g9<|S3 3 J<|o5 J (λhg=>mI J)<|o5 J (λhg=>E6 (ct hg) J J)<|y0 J (L1 J J J (λq=>eqF q))<|S1 1 J<|o5 J (λhg=>mI J)<|o5 J (λhg=>E6 (ct hg) J J)<|y0 J (L1 J J J (λq=>eqF q))<|S1 1 J<|o5 J (λhg=>mI J)<|o5 J (λhg=>E6 (ct hg) J J)<|y0 J (L1 J J J (λq=>eqF q))<|yN ?_;refine cN h (λhc h=>?_) λhc h=>?_
 ·refine sR ?_;refine y0 J (r9 (cs:=[.nl,.I 0]) J c10 c2a J J J)<|a7v (x':=.agg [.nl,.I 0]) (cl':=true) J J (.inl J) a06<|yN<|b9 ?_;cases h;exact⟨J,[_],⟨oL J J J a2z a06 nl J,tr⟩,J,io⟩
 ·refine c8 ?_;refine S3 1 J<|A9 h λv1 hv1 h=>y1 J (b8U (f:=b7.Pv) hv1 J J J P5 a0a b0w c1R J J J) J<|S1 1 J<|y0 J (r9 (cs:=[.sl 21,.I a1]) J c10 c2a J J J)<|S2 1 J<|b9 ?_;cases h;exact⟨J,[_],⟨oL J J J a2z a06 nl J,tr⟩,J,io⟩

set_option maxHeartbeats 40000000 in
theorem b6p {a0 a1}:PO Tryz.prog 60 [.I a0,.I a1] (a3k a0 a1) λr=>a7.Pv r:=by
 refine pO Tryz.func60 λr h _ _=>?_;refine S4 1 J<|S3 2 J<|cF h a6w J J λv1 _ h=>y0 J (r9 (cs:=[.L b7.Pv v1.a8,.I v1.Last,.I 0]) J c11 c2b J J J)<|S2 1 J<|b9 ?_;cases h;exact⟨J,[_],⟨oL J J J a5e a5i nl J,tr⟩,J,io⟩

set_option maxHeartbeats 40000000 in
theorem b78 {a0}:PO Tryz.prog 61 [.I a0] (b77 a0) λr=>.L c7.Pv r:=by
 refine pO Tryz.func61 λr h _ _=>?_;refine S4 1 J<|g9<|S3 3 J<|o5 J (λhg=>mI J)<|o5 J (λhg=>E6 (ct hg) J J)<|y0 J (L1 J J J (λq=>eqF q))<|yN ?_;refine cN h (λhc h=>?_) λhc h=>?_
 ·refine S4 1 J ?_;refine b9 ?_;cases h;exact f1
 ·refine c8 ?_;refine S3 1 J<|A9 h λv1 hv1 h=>y1 J (b8U (f:=c7.Pv) hv1 J J J U8 V9 b43 b9B J J J) J<|S2 1 J ?_;refine jq h (λj9=>St.of [(3,.sl 12)] [(12,⟨List.map c7.Pv j9,0,true,3,true⟩)]) (λj9 h=>?_) λκ8 h=>?_
  ·refine S4 2 J ?_;refine b9 ?_;cases h;exact f1
  ·refine S3 1 J ?_;refine y0 J (c3x (f:=c7.Pv) J J J U8)<|S2 1 J<|k7<|lq h (λq=>St.of [(3,.sl 12),(14,.I (v1.length:Int)),(15,.I q.1)] [(12,⟨List.map c7.Pv q.2,0,true,3,true⟩)]) W λq14 x13 h hx9=>?_;obtain⟨s11,s12⟩:=q14;refine S4 1 J<|g9 ?_;refine cN h (λhc h=>?_) λhc h=>?_
   ·refine c8 ?_;refine g9<|k7<|S4 2 J<|S5 2 J<|A9 h λv15 hv10 h=>y0 J (a8A (f:=c7.Pv) hv10 J J J J U8 V9 J)<|S1 1 J<|b3F (f:=c7.Pv) (v:=(⟨v15.Target,v15.Intact,(-1)⟩:c7)) hv10 J J (.inl J) p9<|yN<|S6 2 J ?_;exact eL h W
   ·refine w7 ?_;refine j5<|j5<|m9 ?_;have h:=xL hx9 h;exact eJ h W

set_option maxHeartbeats 40000000 in
theorem b67 {a0}:PO Tryz.prog 62 [.I a0] (a9G a0) λr=>.L b8.Pv r:=by
 refine pO Tryz.func62 λr h _ _=>?_;refine S4 1 J<|g9<|S3 3 J<|o5 J (λhg=>mI J)<|o5 J (λhg=>E6 (ct hg) J J)<|y0 J (L1 J J J (λq=>eqF q))<|yN ?_;refine cN h (λhc h=>?_) λhc h=>?_
 ·refine S4 1 J ?_;refine b9 ?_;cases h;exact f1
 ·refine c8 ?_;refine S3 1 J<|A9 h λv1 hv1 h=>y1 J (b8U (f:=b8.Pv) hv1 J J J a0B a0w b1R b9C J J J) J<|S2 1 J<|b9 ?_;cases h;exact f1

set_option maxHeartbeats 40000000 in
theorem a5N {a0}:PO Tryz.prog 111 [.I a0] (a0f a0) λr=>c5.Pv r:=by
 refine pO Tryz.func111 λr h _ _=>?_;unfold a0f at h;refine S4 1 J<|S3 1 J<|y0 J (r9 (cs:=[.nl,.I a0]) J c7v c7E J J J)<|a7v (x':=.agg [.nl,.I a0]) (cl':=true) J J (.inl J) a07<|yN<|b9 ?_;cases h;exact⟨J,[_],⟨oL J J J a4l a07 nl J,tr⟩,J,io⟩

set_option maxHeartbeats 40000000 in
theorem b7X:PO Tryz.prog 63 [] (b7W) λr=>c5.Pv r:=by
 refine pO Tryz.func63 λr h _ _=>?_;refine S4 1 J<|sR<|cF h a5N J J λv1 _ h=>S2 1 J<|b9 ?_;cases h;exact⟨J,[_],⟨oL J J J a4l a07 nl J,tr⟩,J,io⟩

set_option maxHeartbeats 40000000 in
theorem b69 {a0 a1 a2}:PO Tryz.prog 39 [.I a0,.I a1,.I a2] (a3u a0 a1 a2) λr=>b6.Pv r:=by
 refine pO Tryz.func39 λr h _ _=>?_;refine S4 1 J<|g9<|S3 3 J<|o5 J (λhg=>mI J)<|o5 J (λhg=>E6 (ct hg) J J)<|y0 J (L1 J J J (λq=>eqF q))<|S1 1 J<|o5 J (λhg=>mI J)<|o5 J (λhg=>E6 (ct hg) J J)<|y0 J (L1 J J J (λq=>eqF q))<|S1 1 J<|o5 J (λhg=>mI J)<|o5 J (λhg=>E6 (ct hg) J J)<|y0 J (L1 J J J (λq=>eqF q))<|S1 1 J<|o5 J (λhg=>mI J)<|o5 J (λhg=>E6 (ct hg) J J)<|y0 J (L1 J J J (λq=>eqF q))<|S1 1 J<|o5 J (λhg=>mI J)<|o5 J (λhg=>E6 (ct hg) J J)<|y0 J (L1 J J J (λq=>eqF q))<|yN ?_;refine cN h (λhc h=>?_) λhc h=>?_
 ·refine sR ?_;refine y0 J (r9 (cs:=[.nl,.I 0,.I 0,.nl,.nl,.nl,.nl,.I 0]) J c12 c2d J J J)<|a7v (x':=.agg [.nl,.I 0,.I 0,.nl,.nl,.nl,.nl,.I 0]) (cl':=true) J J (.inl J) n0<|yN<|b9 ?_;cases h;exact⟨J,[_],⟨oL J J J o7 n0 nl J,tr⟩,J,io⟩
 ·refine c8 ?_;refine dr [] x6 (by kernel_rfl) (by kernel_rfl)<|S7 2 J<|A9 h λv1 hv1 h=>d2f J (y9 J b6p J hv1) J<|A9 h λv2 hv2 h=>d1 J (b8U (f:=iF) hv2 J J J l7 p9 E5 Z6 J J J) J J J<|A9 h λv3 hv3 h=>d2f J (y9 J b78 J hv3) J<|S7 1 J<|A9 h λv4 hv4 h=>d2f J (y9 J b67 J hv4) J<|A9 h λv5 hv5 h=>d2f J (y9 J b7X J hv5) J<|d7 J (λ_ hN=>r9 (cs:=[.L b7.Pv v1.S.a8,.I v1.S.Last,.I v1.Serial,.sl 33,.L c7.Pv v3,.L b8.Pv v4,.L g7.Pv v5.L,.I v5.Cap]) J c12 c2d J J J) J<|D7 (x':=.agg [.L b7.Pv v1.S.a8,.I v1.S.Last,.I v1.Serial,.sl 33,.L c7.Pv v3,.L b8.Pv v4,.L g7.Pv v5.L,.I v5.Cap]) (cl':=false) J J (.inr J) n0<|a0Q<|b9 ?_;cases h;exact⟨J,[_],⟨oL J J J o7 n0 nl J,tr⟩,J,io⟩

set_option maxHeartbeats 40000000 in
theorem b3V {a0 a1 a2 a3}:PO Tryz.prog 24 [.I a0,.I a1,.I a2,.L (Ls e6.Pv) a3] (a1N a0 a1 a2 a3) λr=>.tup [m8.Pv r.1,.I r.2]:=by
 refine pO Tryz.func24 λr h _ _=>?_;refine S4 2 J<|g9<|S3 1 J<|cA h b3Q J J λv1 _ h=>S2 1 J ?_;refine cN h (λhc h=>?_) λhc h=>?_
 ·refine sR ?_;refine y0 J (r9 (cs:=[.nl,.I 0,.I 0,.nl,.nl,.nl,.nl,.I 0,.nl]) J b8j b8l J J J)<|a7v (x':=.agg [.nl,.I 0,.I 0,.nl,.nl,.nl,.nl,.I 0,.nl]) (cl':=true) J J (.inl J) U9<|S2 1 J<|b9 ?_;cases h;exact⟨J,[_,_],⟨oL J J J a3m U9 nl J,⟨J,tr⟩⟩,J,io⟩
 ·refine c8 ?_;refine S3 3 J<|cF h b69 J J λv2 _ h=>S2 2 J<|g9<|S3 2 J<|nL J l7<|S2 1 J ?_;refine cN h (λhc h=>?_) λhc h=>?_
  ·refine sR ?_;refine y0 J (r9 (cs:=[.nl,.I 0,.I 0,.nl,.nl,.nl,.nl,.I 0,.nl]) J b8j b8l J J J)<|a7v (x':=.agg [.nl,.I 0,.I 0,.nl,.nl,.nl,.nl,.I 0,.nl]) (cl':=true) J J (.inl J) U9<|S2 1 J<|b9 ?_;cases h;exact⟨J,[_,_],⟨oL J J J a3m U9 nl J,⟨J,tr⟩⟩,J,io⟩
  ·refine c8 ?_;refine S3 2 J<|y0 J (r9 (cs:=[.L b7.Pv v2.S.S.a8,.I v2.S.S.Last,.I v2.S.Serial,.L iF v2.Roots,.L c7.Pv v2.a8,.L b8.Pv v2.T,.L g7.Pv v2.Q.L,.I v2.Q.Cap,.L (Ls e6.Pv) a3]) J b8j b8l J J J)<|S2 2 J<|b9 ?_;cases h;exact⟨J,[_,_],⟨oL J J J a3m U9 nl J,⟨J,tr⟩⟩,J,io⟩

set_option maxHeartbeats 40000000 in
theorem b1C {a0 a1}:PO Tryz.prog 16 [.I a0,.I a1] (a5b a0 a1) λr=>m8.Pv r:=by
 refine pO Tryz.func16 λr h _ _=>?_;refine S4 1 J<|S3 2 J<|cF h b3V J J λv1 _ h=>S2 6 J<|S4 2 J<|b9 ?_;cases h;exact⟨J,[_],⟨oL J J J a3m U9 nl J,tr⟩,J,io⟩

set_option maxHeartbeats 40000000 in
theorem G0 {a0 a1 a2 a3}:PO Tryz.prog 18 [.I a0,.I a1,.I a2,.I a3] (V8 a0 a1 a2 a3) λr=>.M3 true (List.map iF r):=by
 refine pO Tryz.func18 λr h _ _=>?_;unfold V8 at h;refine S4 1 J<|S3 4 J<|y0 J (a0d (f:=iF) (l:=[a0,a1,a2,a3]) J l7 p9 E5 J J nl J J)<|S2 1 J<|b9 ?_;cases h;exact f1

set_option maxHeartbeats 40000000 in
theorem b2s {a0}:PO Tryz.prog 27 [.L iF a0] (R5 a0) λr=>.tup [e6.Pv r.1,.I r.2]:=by
 refine pO Tryz.func27 λr h _ _=>?_;refine S4 2 J<|g9<|S3 1 J<|nL J l7<|S2 1 J ?_;refine cN h (λhc h=>?_) λhc h=>?_
 ·refine sR ?_;refine y0 J (r9 (cs:=[.I 0,.I 0,.I 0,.I 0]) J b8k b8n J J J)<|S2 2 J<|b9 ?_;cases h;exact⟨J,[_,_],⟨oL J J J b4Z a8I nl J,⟨J,tr⟩⟩,J,io⟩
 ·refine c8 ?_;refine dr [] x6 (by kernel_rfl) (by kernel_rfl)<|S7 1 J<|A9 h λv1 hv1 h=>d0 J (Q5 (f:=iF) (cs:=[.I v1]) hv1 J J l7 p9 J J) J<|S7 2 J<|A9 h λv2 hv2 h=>d0 J (Q5 (f:=iF) (cs:=[.I v2]) hv2 J J l7 p9 J J) J<|S7 2 J<|A9 h λv3 hv3 h=>d0 J (Q5 (f:=iF) (cs:=[.I v3]) hv3 J J l7 p9 J J) J<|S7 2 J<|A9 h λv4 hv4 h=>d0 J (Q5 (f:=iF) (cs:=[.I v4]) hv4 J J l7 p9 J J) J<|S7 1 J<|d7 J (λ_ hN=>r9 (cs:=[.I v1,.I v2,.I v3,.I v4]) J b8k b8n J J J) J<|S7 1 J<|D7 (x':=.agg [.I v1,.I v2,.I v3,.I v4]) (cl':=true) J J (.inl J) a8I<|a0Q<|g9<|S3 1 J<|cA h a4n J J λv5 _ h=>S2 1 J<|S4 2 J ?_;refine cN h (λhc h=>?_) λhc h=>?_
  ·refine sR ?_;refine y0 J (r9 (cs:=[.I 0,.I 0,.I 0,.I 0]) J b8k b8n J J J)<|S2 3 J<|b9 ?_;cases h;exact⟨J,[_,_],⟨oL J J J b4Z a8I nl J,⟨J,tr⟩⟩,J,io⟩
  ·refine c8 ?_;refine S4 3 J<|b9 ?_;cases h;exact⟨J,[_,_],⟨oL J J J b4Z a8I nl J,⟨J,tr⟩⟩,J,io⟩

set_option maxHeartbeats 40000000 in
theorem b1I {a0}:PO Tryz.prog 28 [e6.Pv a0] (a5r a0) λr=>ifE a8H r:=by
 refine pO Tryz.func28 λr h _ _=>?_;refine S4 2 J<|g9<|S4 2 J<|k7<|S4 2 J ?_;refine cN h (λhc h=>?_) λhc h=>?_
 ·refine sR ?_;refine y0 J (r9 (cs:=[]) J c7A c2f J J J)<|y0 J (b8V (n:=a8H) (T:=89) (xs:=[]) J c14 J)<|S2 1 J<|b9 ?_;cases h;exact f1
 ·refine S4 2 J ?_;refine cN h (λhc h=>?_) λhc h=>?_
  ·refine S3 2 J ?_;refine y0 J (r9 (cs:=[.I a0.A]) J c7B c2g J J J)<|y0 J (b8V (n:=a8H) (T:=93) (xs:=[a0.A]) J c15 J)<|S2 1 J<|b9 ?_;cases h;exact f1
  ·refine c8 ?_;refine S3 1 J<|y0 J (r9 (cs:=[.I a0.Kind,.I a0.A,.I a0.B,.I a0.C]) J c7z c2e J J J)<|y0 J (b8V (n:=a8H) (T:=85) (xs:=[a0.Kind,a0.A,a0.B,a0.C]) J c13 J)<|S2 1 J<|b9 ?_;cases h;exact f1

set_option maxHeartbeats 40000000 in
theorem b0L:PO Tryz.prog 41 [] (a2c) λr=>.abs (T3 (List.map (ent iF fvE) r)):=by
 refine pO Tryz.func41 λr h _ _=>?_;unfold a2c at h;refine S4 1 J<|sR<|b8c (KT:=Int) (VT:=Fv) (EK:=iF) (E:=fvE) 5000001 J J<|a4z (es:=[]) (k:=1) (v:=(some 65)) (E:=fvE) (EK:=iF) (.inr J) J J J J J J W6 (u9 I2)<|a4z (es:=(n8 [] 1 (some 65))) (k:=2) (v:=(some 66)) (E:=fvE) (EK:=iF) (.inr J) J J J J J J W6 (u9 I2)<|a4z (es:=(n8 (n8 [] 1 (some 65)) 2 (some 66))) (k:=3) (v:=(some 67)) (E:=fvE) (EK:=iF) (.inr J) J J J J J J W6 (u9 I2)<|a4z (es:=(n8 (n8 (n8 [] 1 (some 65)) 2 (some 66)) 3 (some 67))) (k:=4) (v:=(some 68)) (E:=fvE) (EK:=iF) (.inr J) J J J J J J W6 (u9 I2)<|a4z (es:=(n8 (n8 (n8 (n8 [] 1 (some 65)) 2 (some 66)) 3 (some 67)) 4 (some 68))) (k:=5) (v:=(some 69)) (E:=fvE) (EK:=iF) (.inr J) J J J J J J W6 (u9 I2)<|a4z (es:=(n8 (n8 (n8 (n8 (n8 [] 1 (some 65)) 2 (some 66)) 3 (some 67)) 4 (some 68)) 5 (some 69))) (k:=6) (v:=(some 70)) (E:=fvE) (EK:=iF) (.inr J) J J J J J J W6 (u9 I2)<|a4z (es:=(n8 (n8 (n8 (n8 (n8 (n8 [] 1 (some 65)) 2 (some 66)) 3 (some 67)) 4 (some 68)) 5 (some 69)) 6 (some 70))) (k:=7) (v:=(some 71)) (E:=fvE) (EK:=iF) (.inr J) J J J J J J W6 (u9 I2)<|a4z (es:=(n8 (n8 (n8 (n8 (n8 (n8 (n8 [] 1 (some 65)) 2 (some 66)) 3 (some 67)) 4 (some 68)) 5 (some 69)) 6 (some 70)) 7 (some 71))) (k:=8) (v:=(some 72)) (E:=fvE) (EK:=iF) (.inr J) J J J J J J W6 (u9 I2)<|a4z (es:=(n8 (n8 (n8 (n8 (n8 (n8 (n8 (n8 [] 1 (some 65)) 2 (some 66)) 3 (some 67)) 4 (some 68)) 5 (some 69)) 6 (some 70)) 7 (some 71)) 8 (some 72))) (k:=9) (v:=(some 73)) (E:=fvE) (EK:=iF) (.inr J) J J J J J J W6 (u9 I2)<|a4z (es:=(n8 (n8 (n8 (n8 (n8 (n8 (n8 (n8 (n8 [] 1 (some 65)) 2 (some 66)) 3 (some 67)) 4 (some 68)) 5 (some 69)) 6 (some 70)) 7 (some 71)) 8 (some 72)) 9 (some 73))) (k:=10) (v:=(some 74)) (E:=fvE) (EK:=iF) (.inr J) J J J J J J W6 (u9 I2)<|S2 2 J<|a2s (b9u 0 5000001 J J)<|b9 ?_;cases h;exact f1

set_option maxHeartbeats 40000000 in
theorem b9s {a0}:PO Tryz.prog 161 [.I a0] (b6x a0) λr=>.tup [.L iF r.1,.I r.2]:=by
 refine pO Tryz.func161 λr h _ _=>?_;refine S4 2 J<|g9<|S3 3 J<|o5 J (λhg=>mI J)<|o5 J (λhg=>E6 (ct hg) J J)<|y0 J (L1 J J J (λq=>eqF q))<|yN ?_;refine cN h (λhc h=>?_) λhc h=>?_
 ·refine S4 2 J ?_;refine b9 ?_;cases h;exact f2
 ·refine c8 ?_;refine S3 1 J<|A9 h λv1 hv1 h=>y1 J (b8U (f:=iF) hv1 J J J l7 p9 E5 Z6 J J J) J<|S2 2 J<|b9 ?_;cases h;exact f2

set_option maxHeartbeats 40000000 in
theorem a7q {a0}:PO Tryz.prog 162 [.I a0] (N9 a0) λr=>.bool r:=by
 refine pO Tryz.func162 λr h _ _=>?_;unfold N9 at h;refine S4 1 J<|S3 3 J<|o5 J (λhg=>mI J)<|o5 J (λhg=>E6 (ct hg) J J)<|y0 J (Q6 J J J (λq=>eqT q))<|S2 1 J<|b9 ?_;cases h;exact f1

set_option maxHeartbeats 40000000 in
theorem a51 {a0}:PO Tryz.prog 202 [c4.Pv a0] (K0 a0) λr=>.fn (.func 221) [.rptr (c4.Pc r)]:=by
 refine pO Tryz.func202 λr h _ _=>?_;unfold K0 at h;refine S4 2 J<|S4 2 J<|b9 ?_;cases h;exact f1

set_option maxHeartbeats 40000000 in
theorem I8 {a0}:PON Tryz.prog 208 [.L b7.Pv a0] (r8 a0) λr=>⟨List.map b7.Pv r,0,true,8,true⟩:=by
 refine pON Tryz.func208 λr h _ _=>?_;unfold r8 at h;refine S4 1 J<|g9<|S3 1 J<|b6B J P5 λb hb=>yN ?_;refine F4 b J (λhc=>?_) (λhc=>?_)
 ·obtain rfl:a0 = []:=by simpa using hb hc
  refine S4 1 J<|a2s (Y1 (t:=2) (l:=920000) (z:=8) J J)<|b9 ?_;cases h;exact⟨J,_,_,J,J,J,J⟩
 ·refine c8 ?_;refine sR<|y0 J (b2X J P5 a0a)<|S1 1 J<|y1 J (b7p (f:=b7.Pv) h J J (.inl ⟨_,J,J⟩) P5 a0a c1R b0w J (λ_=>J)) J<|S2 1 J<|b9 ?_;exact⟨J,_,_,J,J,J,J⟩

set_option maxHeartbeats 40000000 in
theorem F7 {a0 a1 a2}:PO Tryz.prog 176 [c4.Pv a0,.I a1,b7.Pv a2] (A3 a0 a1 a2) λr=>c4.Pv r:=by
 refine pO Tryz.func176 λr h _ _=>?_;unfold A3 at h;refine S4 3 J<|S3 2 J<|A9 h λv1 hv1 h=>ycN J (b4E J I8 J hv1) J J<|S2 2 J<|S3 4 J<|A9 h λv2 hv2 h=>y0 J (a8A (f:=b7.Pv) hv2 J J J J P5 a0a J)<|b3F (f:=b7.Pv) (v:=a2) hv2 J J (.inr J) a0a<|yN<|S4 2 J<|b9 ?_;cases h;exact⟨J,[_],⟨oL J J J a2z a06 nl J,tr⟩,J,io⟩

set_option maxHeartbeats 40000000 in
theorem a6P {a0 a1}:PO Tryz.prog 50 [.I a0,.I a1] (a0U a0 a1) λr=>.I r:=by
 refine pO Tryz.func50 λr h _ _=>?_;refine S4 1 J<|g9<|S3 3 J<|o5 J (λhg=>mI J)<|o5 J (λhg=>E6 (ct hg) J J)<|y0 J (L1 J J J (λq=>eqF q))<|S1 1 J<|o5 J (λhg=>mI J)<|o5 J (λhg=>E6 (ct hg) J J)<|y0 J (L1 J J J (λq=>eqF q))<|S1 1 J<|o5 J (λhg=>mI J)<|o5 J (λhg=>E6 (ct hg) J J)<|y0 J (L1 J J J (λq=>eqF q))<|yN ?_;refine cN h (λhc h=>?_) λhc h=>?_
 ·refine S4 1 J ?_;refine b9 ?_;cases h;exact f1
 ·refine c8 ?_;refine S4 7 J<|b9 ?_;cases h;exact f1

set_option maxHeartbeats 40000000 in
theorem a5Z {a0 a1}:PO Tryz.prog 163 [c4.Pv a0,l4.Pv a1] (F9 a0 a1) λr=>.tup [c4.Pv r.1,.I r.2.1,.I r.2.2]:=by
 refine pO Tryz.func163 λr h _ _=>?_;refine S4 5 J ?_;refine jq h (λ_=>St.of [(2,.ptr 2005 0 0),(4,.ptr 2003 0 0),(5,.ptr 2002 0 0),(6,.ptr 2001 0 0)] [(2001,vR (.I 0) 1),(2002,vR (.I 0) 1),(2003,vR (.agg [.nl,.I 0]) 2),(2005,vR (c4.Pv a0) 2)]) (λq10 h=>?_) λκ9 h=>?_
 ·refine S4 4 J ?_;refine b9 ?_;cases h;exact⟨J,[_,_,_],⟨oL J J J a2z a06 nl J,⟨oS J J J L0 J,⟨oS J J J a5f J,tr⟩⟩⟩,J,io⟩
 ·refine S3 1 J ?_;refine cF h a51 J J λv11 _ h=>yN<|k7<|a2s (WPE (λl=>if l=2006 then 6 else if l=2007 then 5 else if l=2008 then 4 else if l=2009 then 3 else if l=2010 then 2 else l) [(2,.ptr 2010 0 0),(3,.ptr 2009 0 0),(4,.ptr 2008 0 0),(5,.ptr 2007 0 0),(6,.ptr 2006 0 0),(10,.fn (.func 221) [.rptr (c4.Pc v11)])] [(2006,vR (.I 0) 1),(2007,vR (.I 0) 1),(2008,vR (.agg [.nl,.I 0]) 2),(2009,vR (l4.Pv a1) 6),(2010,vR (c4.Pv a0) 2)]) ?_;refine a1m (fn:=Tryz.f221) (N1:=23) J Tryz.func221 J J nl J c4U J J (λl19 e20 o21 hR22=>?_);refine S3 2 J<|nL J P5<|S2 1 J<|k7<|lq h (λs13=>St.of [(1000002,.ptr 2010 0 0),(1000003,.ptr 2009 0 0),(1000004,.ptr 2008 0 0),(1000005,.ptr 2007 0 0),(1000006,.ptr 2006 0 0),(1000010,.fn (.func 221) [.rptr (c4.Pc v11)]),(0,.fn (.yield l19) []),(6,.L b7.Pv v11.a8),(7,.I (v11.a8.length:Int)),(8,.I s13)] [(2006,vR (.I 0) 1),(2007,vR (.I 0) 1),(2008,vR (.agg [.nl,.I 0]) 2),(2009,vR (l4.Pv a1) 6),(2010,vR (c4.Pv a0) 2)]) W λs13 x14 h hx25=>S4 1 J<|g9 ?_;refine cN h (λhc h=>?_) λhc h=>?_
  ·refine c8 ?_;refine g9<|k7<|S3 1 J<|iL h J J P5 a0a λv15 _ h=>S2 4 J<|S3 4 J<|o5 J (λhg=>om (d:=.fn (.yield l19) []) J)<|o5 J (λhg=>mI J) ?_;rcases Bool.eq_false_or_eq_true ((v15.State==0)==true) with hg27 | hg27
   ·have h:=ifT h hg27;refine O9 (WE [(1000002,.ptr 2010 0 0),(1000003,.ptr 2009 0 0),(1000004,.ptr 2008 0 0),(1000005,.ptr 2007 0 0),(1000006,.ptr 2006 0 0),(1000010,.fn (.func 221) [.rptr (c4.Pc v11)]),(0,.fn (.yield l19) []),(6,.L b7.Pv v11.a8),(7,.I (v11.a8.length:Int)),(8,.I s13),(16,.bool (v15.State==0)),(17,.fn (.yield l19) []),(18,.I s13)] [(2006,vR (.I 0) 1),(2007,vR (.I 0) 1),(2008,vR (.agg [.nl,.I 0]) 2),(2009,vR (l4.Pv a1) 6),(2010,vR (c4.Pv a0) 2)]) ?_;refine a6d hR22 (congrArg some hg27) J J J J J (λe28 o29 o30=>?_);refine S6 1 J ?_;refine⟨J,?_⟩;refine k7<|S3 3 J<|iL h J J P5 a0a λv16 _ h=>S2 3 J<|S3 4 J<|y0 J (r9 (cs:=[.I 1,.I v16.Gen,.I a1.Serial,.I a1.Strong,.I a1.Weak,.I a1.Prog,.bool a1.Started,.L iF a1.Fields]) J b42 b0w J J J)<|cF h F7 J J λv17 _ h=>S1 2 J<|cA h a6P J J λv18 _ h=>S2 3 J<|b9 ?_;refine⟨J,?_⟩;refine O9 (WE [(1000002,.ptr 2010 0 0),(1000003,.ptr 2009 0 0),(1000004,.ptr 2008 0 0),(1000005,.ptr 2007 0 0),(1000006,.ptr 2006 0 0),(1000010,.fn (.func 221) [.rptr (c4.Pc v11)]),(0,.fn (.yield l19) []),(6,.L b7.Pv v11.a8),(7,.I (v11.a8.length:Int)),(8,.I s13),(16,.bool (v15.State==0)),(19,.bool false)] [(2006,vR (.I 0) 1),(2007,vR (.I v18) 1),(2008,vR (c4.Pv v17) 2),(2009,vR (l4.Pv a1) 6),(2010,vR (c4.Pv a0) 2)])<|y0 (congrArg some hg27) (a6m J J)<|y0 J (a5J J J hg27)<|yN ?_;refine F4 true J (λ_=>?_) (λq=>nomatch q);refine b9 ?_;refine .inr ⟨.ret,J,c5A ?_⟩;have h:=xL hx25 h;cases h;exact⟨J,[_,_,_],⟨oL J J J a2z a06 nl J,⟨oS J J J L0 J,⟨oS J J J a5f J,tr⟩⟩⟩,J,io⟩
   ·have h:=ifF h hg27;refine a14 (congrArg some hg27)<|a14 (congrArg some hg27)<|y0 J (a7K J J hg27)<|yN ?_;refine F4 false J (λq=>nomatch q) (λ_=>?_);refine c8<|S6 2 J ?_;exact eL h W
  ·refine w7 ?_;refine j5<|j5<|m9 ?_;refine .inl ⟨J,?_⟩;have h:=xL hx25 h;exact eJ h (WP (λl=>if l=2005 then 2010 else if l=2003 then 2008 else if l=2002 then 2007 else if l=2001 then 2006 else l))

set_option maxHeartbeats 40000000 in
theorem b35 {a0 a1 a2}:PO Tryz.prog 121 [a7.Pv a0,.I a1,.I a2] (O7 a0 a1 a2) λr=>.tup [a7.Pv r.1,.I r.2.1,.I r.2.2]:=by
 refine pO Tryz.func121 λr h _ _=>?_;refine S4 4 J<|S3 1 J<|cF h b9s J J λv1 _ h=>S2 5 J<|g9<|S4 2 J ?_;refine cN h (λhc h=>?_) λhc h=>?_
 ·refine S4 5 J ?_;refine b9 ?_;cases h;exact⟨J,[_,_,_],⟨oL J J J a5e a5i nl J,⟨J,⟨J,tr⟩⟩⟩,J,io⟩
 ·refine c8 ?_;refine g9<|S3 1 J<|cA h a7q J J λv2 _ h=>S2 1 J ?_;refine cN h (λhc h=>?_) λhc h=>?_
  ·refine S4 4 J ?_;refine b9 ?_;cases h;exact⟨J,[_,_,_],⟨oL J J J a5e a5i nl J,⟨J,⟨J,tr⟩⟩⟩,J,io⟩
  ·refine c8 ?_;refine S3 7 J<|y0 J (r9 (cs:=[.I (s6 (a0.Serial+1)),.I 0,.I 0,.I a2,.bool false,.L iF v1.1]) J c7x c7F J J J)<|cF h a5Z J J λv3 _ h=>S2 8 J<|g9<|S4 2 J ?_;refine cN h (λhc h=>?_) λhc h=>?_
   ·refine S4 5 J ?_;refine b9 ?_;cases h;exact⟨J,[_,_,_],⟨oL J J J a5e a5i nl J,⟨J,⟨J,tr⟩⟩⟩,J,io⟩
   ·refine c8 ?_;refine S3 4 J<|y0 J (r9 (cs:=[.L b7.Pv v3.1.a8,.I v3.1.Last,.I (s6 (a0.Serial+1))]) J c11 c2b J J J)<|S2 4 J<|b9 ?_;cases h;exact⟨J,[_,_,_],⟨oL J J J a5e a5i nl J,⟨J,⟨J,tr⟩⟩⟩,J,io⟩

set_option maxHeartbeats 40000000 in
theorem a6h {a0}:PO Tryz.prog 213 [.I a0] (a1c a0) λr=>.tup [.I r.1,.I r.2.1,.bool r.2.2]:=by
 refine pO Tryz.func213 λr h _ _=>?_;refine S4 3 J<|g9<|S4 2 J ?_;refine cN h (λhc h=>?_) λhc h=>?_
 ·refine S4 3 J ?_;refine b9 ?_;cases h;exact f3
 ·refine c8 ?_;refine S3 2 J<|A9 h λv1 hv1 h=>y0 J (a6l J J hv1)<|A9 h λv2 hv2 h=>y0 J (a6l J J hv2)<|S1 2 J<|A9 h λv3 hv3 h=>y0 J (a6l J J hv3)<|S2 2 J<|g9<|S3 3 J<|o5 J (λhg=>mI J)<|o5 J (λhg=>E6 (ct hg) J J)<|y0 J (L1 J J J (λq=>eqF q))<|yN ?_;refine cN h (λhc h=>?_) λhc h=>?_
  ·refine S4 3 J ?_;refine b9 ?_;cases h;exact f3
  ·refine c8 ?_;refine S4 5 J<|b9 ?_;cases h;exact f3

set_option maxHeartbeats 40000000 in
theorem a6Q {a0}:PO Tryz.prog 187 [.I a0] (a2m a0) λr=>.I r:=by
 refine pO Tryz.func187 λr h _ _=>?_;refine S4 1 J<|S3 1 J<|cA h a6h J J λv1 _ h=>S2 7 J<|S4 2 J<|b9 ?_;cases h;exact f1

set_option maxHeartbeats 40000000 in
theorem a8x {a0}:PO Tryz.prog 188 [.I a0] (a3s a0) λr=>.I r:=by
 refine pO Tryz.func188 λr h _ _=>?_;refine S4 1 J<|S3 1 J<|cA h a6h J J λv1 _ h=>S2 7 J<|S4 2 J<|b9 ?_;cases h;exact f1

set_option maxHeartbeats 40000000 in
theorem F6 {a0 a1}:PO Tryz.prog 155 [c4.Pv a0,.I a1] (p6 a0 a1) λr=>.tup [.I r.1,.I r.2]:=by
 refine pO Tryz.func155 λr h _ _=>?_;refine S4 3 J<|g9<|S4 2 J ?_;refine cN h (λhc h=>?_) λhc h=>?_
 ·refine S4 2 J ?_;refine b9 ?_;cases h;exact f2
 ·refine c8 ?_;refine S3 1 J<|cA h a6Q J J λv1 _ h=>S2 1 J<|g9<|S3 3 J<|o5 J (λhg=>mI J)<|o5 J (λhg=>oF J c1S J)<|o5 J (λhg=>oS (ct hg) J J c7o J)<|o5 J (λhg=>a6Y (f:=b7.Pv) (ct hg) P5)<|o5 J (λhg=>E6 (ct hg) (ct hg) J)<|y0 J (L1 J J J (λq=>eqF q))<|yN ?_;refine cN h (λhc h=>?_) λhc h=>?_
  ·refine S4 2 J ?_;refine b9 ?_;cases h;exact f2
  ·refine c8 ?_;refine S3 3 J<|iL h J J P5 a0a λv2 _ h=>S2 3 J<|g9<|dr [] x6 (by kernel_rfl) (by kernel_rfl)<|S7 3 J<|A9 h λv3 hv3 h=>d2 J (a0e J a8x J hv3) J<|S7 2 J<|M8 J (λhg _ hN=>oF J b6P J) J<|a2P J (λhg=>oS (ct hg) J J L0 J) J<|M8 J (λhg _ hN=>E6 (ct hg) J J) J<|M8 J (λhg _ hN=>om (d:=.bool (v2.State != 1)) (ct hg)) J<|M8 (R7 J J J) (λhg _ hN=>oF J b6P J) J<|a2P (R7 J J J) (λhg=>oS (ct hg) J J L0 J) J<|M8 (R7 J J J) (λhg _ hN=>E6 (ct hg) J J) J<|M8 J (λhg _ hN=>Q6 (ct hg) J J (λq=>c5c hg (eqT q))) J<|d7 J (λ_ hN=>L1 J J J (λq=>eqF q)) J<|a0Q ?_;refine cN h (λhc h=>?_) λhc h=>?_
   ·refine S4 2 J ?_;refine b9 ?_;cases h;exact f2
   ·refine c8 ?_;refine S4 3 J<|b9 ?_;cases h;exact f2

set_option maxHeartbeats 40000000 in
theorem a1E {a0 a1}:PO Tryz.prog 98 [c4.Pv a0,.I a1] (B3 a0 a1) λr=>.tup [l4.Pv r.1,.I r.2]:=by
 refine pO Tryz.func98 λr h _ _=>?_;refine S4 3 J<|S4 1 J<|S3 2 J<|cA h F6 J J λv1 _ h=>S2 5 J<|g9<|S4 2 J ?_;refine cN h (λhc h=>?_) λhc h=>?_
 ·refine S3 2 J ?_;refine a7v (x':=.agg [.I 0,.I 0,.I 0,.I 0,.bool false,.nl]) (cl':=true) J J (.inl J) a6C<|S2 1 J<|b9 ?_;cases h;exact⟨J,[_,_],⟨oL J J J b2m a6C nl J,⟨J,tr⟩⟩,J,io⟩
 ·refine c8 ?_;refine g9<|S3 3 J<|iL h J J P5 a0a λv2 hv2 h=>S2 3 J ?_;refine cN h (λhc h=>?_) λhc h=>?_
  ·refine S3 1 J ?_;refine a7v (x':=.agg [.I 0,.I 0,.I 0,.I 0,.bool false,.nl]) (cl':=true) J J (.inl J) a6C<|S2 1 J<|b9 ?_;cases h;exact⟨J,[_,_],⟨oL J J J b2m a6C nl J,⟨J,tr⟩⟩,J,io⟩
  ·refine c8 ?_;refine S3 3 J<|y0 J (Q5 (f:=b7.Pv) (cs:=b7.Pc v2) hv2 J J P5 a0a J J)<|S2 4 J<|b9 ?_;cases h;exact⟨J,[_,_],⟨oL J J J b2m a6C nl J,⟨J,tr⟩⟩,J,io⟩

set_option maxHeartbeats 40000000 in
theorem z7 {a0 a1}:PO Tryz.prog 54 [a7.Pv a0,.I a1] (r7 a0 a1) λr=>.tup [l4.Pv r.1,.I r.2]:=by
 refine pO Tryz.func54 λr h _ _=>?_;refine S4 3 J<|S3 3 J<|cF h a1E J J λv1 _ h=>S2 4 J<|b9 ?_;cases h;exact⟨J,[_,_],⟨oL J J J b2m a6C nl J,⟨J,tr⟩⟩,J,io⟩

set_option maxHeartbeats 40000000 in
theorem b2M {a0 a1}:PO Tryz.prog 204 [b6.Pv a0,.I a1] (a33 a0 a1) λr=>.bool r:=by
 refine pO Tryz.func204 λr h _ _=>?_;refine S4 2 J<|S3 3 J<|cF h z7 J J λv1 _ h=>S2 6 J<|S4 3 J<|b9 ?_;cases h;exact f1

set_option maxHeartbeats 40000000 in
theorem Q1 {a0 a1}:PO Tryz.prog 165 [b6.Pv a0,.I a1] (H8 a0 a1) λr=>.bool r:=by
 refine pO Tryz.func165 λr h _ _=>?_;unfold H8 at h;refine S4 2 J<|S3 3 J<|o5 J (λhg=>oL J J J o7 n0 nl J)<|o5 J (λhg=>mI J)<|A9 h λv1 hv1 h=>o5 J (λhg=>a0e J b2M (a3W (ct hg) (a3W (ct hg) J)) (a1k hv1 hg))<|y0 J (L1 J J J (λq=>eqF q))<|S2 1 J<|b9 ?_;cases h;exact f1

set_option maxHeartbeats 40000000 in
theorem W7 {a0}:PO Tryz.prog 209 [.I a0] (D0 a0) λr=>.bool r:=by
 refine pO Tryz.func209 λr h _ _=>?_;unfold D0 at h;refine S4 1 J<|S4 3 J<|b9 ?_;cases h;exact f1

set_option maxHeartbeats 40000000 in
theorem a9p {a0}:PO Tryz.prog 179 [.I a0] (a3o a0) λr=>.tup [.I r.1,.I r.2]:=by
 refine pO Tryz.func179 λr h _ _=>?_;refine S4 2 J<|g9<|S3 1 J<|cA h W7 J J λv1 _ h=>yN ?_;refine cN h (λhc h=>?_) λhc h=>?_
 ·refine S4 2 J ?_;refine b9 ?_;cases h;exact f2
 ·refine c8 ?_;refine S3 1 J<|y0 J (c3z J J J)<|S2 3 J<|b9 ?_;cases h;exact f2

set_option maxHeartbeats 40000000 in
theorem b5d {a0}:PO Tryz.prog 133 [.I a0] (a7z a0) λr=>.I r:=by
 refine pO Tryz.func133 λr h _ _=>?_;refine S4 1 J<|S3 1 J<|cA h a9p J J λv1 _ h=>S2 5 J<|S4 2 J<|b9 ?_;cases h;exact f1

set_option maxHeartbeats 40000000 in
theorem a6x {a0 a1 a2}:PO Tryz.prog 130 [c4.Pv a0,.I a1,l4.Pv a2] (H2 a0 a1 a2) λr=>.tup [c4.Pv r.1,.I r.2]:=by
 refine pO Tryz.func130 λr h _ _=>?_;refine S4 4 J<|S3 2 J<|cA h F6 J J λv1 _ h=>S2 5 J<|g9<|S4 2 J ?_;refine cN h (λhc h=>?_) λhc h=>?_
 ·refine S4 4 J ?_;refine b9 ?_;cases h;exact⟨J,[_,_],⟨oL J J J a2z a06 nl J,⟨J,tr⟩⟩,J,io⟩
 ·refine c8 ?_;refine S3 3 J<|iL h J J P5 a0a λv2 _ h=>S2 3 J<|S4 3 J<|S3 3 J<|cF h F7 J J λv3 _ h=>S2 2 J<|b9 ?_;cases h;exact⟨J,[_,_],⟨oL J J J a2z a06 nl J,⟨J,tr⟩⟩,J,io⟩

set_option maxHeartbeats 40000000 in
theorem Z4 {a0 a1 a2}:PO Tryz.prog 81 [a7.Pv a0,.I a1,l4.Pv a2] (H3 a0 a1 a2) λr=>.tup [a7.Pv r.1,.I r.2]:=by
 refine pO Tryz.func81 λr h _ _=>?_;refine S4 4 J<|S4 1 J<|S3 4 J<|cF h a6x J J λv1 _ h=>S2 6 J<|S4 4 J<|b9 ?_;cases h;exact⟨J,[_,_],⟨oL J J J a5e a5i nl J,⟨J,tr⟩⟩,J,io⟩

set_option maxHeartbeats 40000000 in
theorem a3v {a0 a1}:PO Tryz.prog 132 [b6.Pv a0,.I a1,.fn (.func 133) []] (Q0 a0 a1) λr=>b6.Pv r:=by
 refine pO Tryz.func132 λr h _ _=>?_;refine S4 2 J<|S3 3 J<|cF h z7 J J λv1 _ h=>S2 6 J<|g9<|S4 2 J ?_;refine cN h (λhc h=>?_) λhc h=>?_
 ·refine S3 3 J ?_;refine cA h b5d J J λv2 _ h=>S2 2 J<|S5 4 J<|cF h Z4 J J λv3 _ h=>S2 5 J<|S4 2 J<|b9 ?_;cases h;exact⟨J,[_],⟨oL J J J o7 n0 nl J,tr⟩,J,io⟩
 ·refine c8 ?_;refine S4 2 J<|b9 ?_;cases h;exact⟨J,[_],⟨oL J J J o7 n0 nl J,tr⟩,J,io⟩

set_option maxHeartbeats 40000000 in
theorem a1e {a0 a1}:PO Tryz.prog 83 [b6.Pv a0,.I a1] (X0 a0 a1) λr=>b6.Pv r:=by
 refine pO Tryz.func83 λr h _ _=>?_;refine S4 2 J<|S3 2 J<|cF h a3v J J λv1 _ h=>S2 1 J<|b9 ?_;cases h;exact⟨J,[_],⟨oL J J J o7 n0 nl J,tr⟩,J,io⟩

set_option maxHeartbeats 40000000 in
theorem a4x {a0}:PON Tryz.prog 219 [.L iF a0] (I7 a0) λr=>⟨List.map iF r,0,true,1,true⟩:=by
 refine pON Tryz.func219 λr h _ _=>?_;unfold I7 at h;refine S4 1 J<|g9<|S3 1 J<|b6B J l7 λb hb=>yN ?_;refine F4 b J (λhc=>?_) (λhc=>?_)
 ·obtain rfl:a0 = []:=by simpa using hb hc
  refine S4 1 J<|a2s (Y1 (t:=2) (l:=920000) (z:=1) J J)<|b9 ?_;cases h;exact⟨J,_,_,J,J,J,J⟩
 ·refine c8 ?_;refine sR<|y0 J (b2X J l7 p9)<|S1 1 J<|y1 J (b7p (f:=iF) h J J (.inl ⟨_,J,J⟩) l7 p9 Z6 E5 J (λ_=>J)) J<|S2 1 J<|b9 ?_;exact⟨J,_,_,J,J,J,J⟩

set_option maxHeartbeats 40000000 in
theorem a6u {a0 a1}:PO Tryz.prog 197 [F0.Pv a0,b6.Pv a1] (L5 a0 a1) λr=>b6.Pv r:=by
 refine pO Tryz.func197 λr h _ _=>?_;unfold L5 at h;refine S4 3 J<|S3 2 J<|A9 h λv1 hv1 h=>ycN J (b4E J a4x J hv1) J J<|S2 2 J<|S3 6 J<|A9 h λv2 hv2 h=>y0 J (a8A (f:=iF) hv2 J J J J l7 p9 J)<|b3F (f:=iF) (v:=a0.h) hv2 J J (.inl J) p9<|yN<|S4 2 J<|b9 ?_;cases h;exact⟨J,[_],⟨oL J J J o7 n0 nl J,tr⟩,J,io⟩

set_option maxHeartbeats 40000000 in
theorem a8c {a0}:PO Tryz.prog 189 [.I a0] (a1M a0) λr=>.tup [.I r.1,.I r.2]:=by
 refine pO Tryz.func189 λr h _ _=>?_;refine S4 2 J<|g9<|S3 1 J<|cA h W7 J J λv1 _ h=>yN ?_;refine cN h (λhc h=>?_) λhc h=>?_
 ·refine S4 2 J ?_;refine b9 ?_;cases h;exact f2
 ·refine c8 ?_;refine g9<|S4 2 J ?_;refine cN h (λhc h=>?_) λhc h=>?_
  ·refine S4 2 J ?_;refine b9 ?_;cases h;exact f2
  ·refine c8 ?_;refine S4 4 J<|b9 ?_;cases h;exact f2

set_option maxHeartbeats 40000000 in
theorem b5c {a0}:PO Tryz.prog 140 [.I a0] (b0z a0) λr=>.tup [.I r.1,.I r.2]:=by
 refine pO Tryz.func140 λr h _ _=>?_;refine S4 2 J<|S3 1 J<|cA h a8c J J λv1 _ h=>S2 5 J<|S4 4 J<|b9 ?_;cases h;exact f2

set_option maxHeartbeats 40000000 in
theorem a9J {a0}:PO Tryz.prog 139 [.I a0] (a1d a0) λr=>.I r:=by
 refine pO Tryz.func139 λr h _ _=>?_;refine S4 1 J<|S3 1 J<|cA h b5c J J λv1 _ h=>S2 5 J<|g9<|S4 2 J ?_;refine cN h (λhc h=>?_) λhc h=>?_
 ·refine S4 2 J ?_;refine b9 ?_;cases h;exact f1
 ·refine c8 ?_;refine S4 2 J<|b9 ?_;cases h;exact f1

set_option maxHeartbeats 40000000 in
theorem a1z {a0 a1}:PO Tryz.prog 132 [b6.Pv a0,.I a1,.fn (.func 139) []] (J6 a0 a1) λr=>b6.Pv r:=by
 refine pO Tryz.func132 λr h _ _=>?_;refine S4 2 J<|S3 3 J<|cF h z7 J J λv1 _ h=>S2 6 J<|g9<|S4 2 J ?_;refine cN h (λhc h=>?_) λhc h=>?_
 ·refine S3 3 J ?_;refine cA h a9J J J λv2 _ h=>S2 2 J<|S5 4 J<|cF h Z4 J J λv3 _ h=>S2 5 J<|S4 2 J<|b9 ?_;cases h;exact⟨J,[_],⟨oL J J J o7 n0 nl J,tr⟩,J,io⟩
 ·refine c8 ?_;refine S4 2 J<|b9 ?_;cases h;exact⟨J,[_],⟨oL J J J o7 n0 nl J,tr⟩,J,io⟩

set_option maxHeartbeats 40000000 in
theorem T5 {a0 a1}:PO Tryz.prog 90 [b6.Pv a0,.I a1] (A2 a0 a1) λr=>b6.Pv r:=by
 refine pO Tryz.func90 λr h _ _=>?_;refine S4 2 J<|S3 2 J<|cF h a1z J J λv1 _ h=>S2 1 J<|b9 ?_;cases h;exact⟨J,[_],⟨oL J J J o7 n0 nl J,tr⟩,J,io⟩

set_option maxHeartbeats 40000000 in
theorem a0G {a0 a1 a2 a3}:PO Tryz.prog 166 [b6.Pv a0,.I a1,.I a2,.abs (BFn 197 [F0.Pv a3])] (C6 a0 a1 a2 a3) λr=>b6.Pv r:=by
 refine pO Tryz.func166 λr h _ _=>?_;refine S4 2 J<|S3 3 J<|cF h a1e J J λv1 _ h=>A9 h λv2 hv2 h=>b6A (xs:=[b6.Pv v1]) J J c4T J (a6u.2 _ hv2)<|S1 1 J<|cF h T5 J J λv3 _ h=>S2 1 J<|b9 ?_;cases h;exact⟨J,[_],⟨oL J J J o7 n0 nl J,tr⟩,J,io⟩

set_option maxHeartbeats 40000000 in
theorem a5z {a0 a1 a2}:PO Tryz.prog 145 [b6.Pv a0,.I a1,.I a2] (Y6 a0 a1 a2) λr=>.tup [b6.Pv r.1,.I r.2]:=by
 refine pO Tryz.func145 λr h _ _=>?_;refine S4 3 J<|g9<|S3 3 J<|o5 J (λhg=>mI J)<|o5 J (λhg=>oF J b6N J)<|o5 J (λhg=>oS (ct hg) J J b8i J)<|o5 J (λhg=>a6Y (f:=iF) (ct hg) l7)<|o5 J (λhg=>E6 (ct hg) (ct hg) J)<|y0 J (L1 J J J (λq=>eqF q))<|yN ?_;refine cN h (λhc h=>?_) λhc h=>?_
 ·refine S4 3 J ?_;refine b9 ?_;cases h;exact⟨J,[_,_],⟨oL J J J o7 n0 nl J,⟨J,tr⟩⟩,J,io⟩
 ·refine c8 ?_;refine g9<|S3 2 J<|cA h Q1 J J λv1 _ h=>S2 1 J ?_;refine cN h (λhc h=>?_) λhc h=>?_
  ·refine S4 3 J ?_;refine b9 ?_;cases h;exact⟨J,[_,_],⟨oL J J J o7 n0 nl J,⟨J,tr⟩⟩,J,io⟩
  ·refine c8 ?_;refine dr [] x6 (by kernel_rfl) (by kernel_rfl)<|S7 4 J<|A9 h λv2 hv2 h=>d0 J (Q5 (f:=iF) (cs:=[.I v2]) hv2 J J l7 p9 J J) J<|S7 4 J<|d7 J (λ_ hN=>r9 (cs:=[.I a1,.I a2]) J c42 c5a J J J) J<|d7 J (λ_ hN=>b0Q (d:=.agg [.I a1,.I a2]) J) J<|A9 h λv3 hv3 h=>d2f J (y9 J a0G J hv3) J<|D7 (x':=b6.Pv v3) (cl':=true) J J (.inr J) n0<|S8 1 J<|b9 ?_;cases h;exact⟨J,[_,_],⟨oL J J J o7 n0 nl J,⟨J,tr⟩⟩,J,io⟩

set_option maxHeartbeats 40000000 in
theorem D9 {a0 a1 a2}:PO Tryz.prog 122 [o0.Pv a0,.I a1,.I a2] (z1 a0 a1 a2) λr=>.tup [b6.Pv r.1,.I r.2]:=by
 refine pO Tryz.func122 λr h _ _=>?_;refine S4 3 J<|g9<|S4 2 J ?_;refine cN h (λhc h=>?_) λhc h=>?_
 ·refine S4 5 J ?_;refine b9 ?_;cases h;exact⟨J,[_,_],⟨oL J J J o7 n0 nl J,⟨J,tr⟩⟩,J,io⟩
 ·refine c8 ?_;refine S3 6 J<|cF h a5z J J λv1 _ h=>S2 4 J<|b9 ?_;cases h;exact⟨J,[_,_],⟨oL J J J o7 n0 nl J,⟨J,tr⟩⟩,J,io⟩

set_option maxHeartbeats 40000000 in
theorem a1h {a0}:PO Tryz.prog 65 [o0.Pv a0] (P1 a0) λr=>.tup [b6.Pv r.1,.I r.2]:=by
 refine pO Tryz.func65 λr h _ _=>?_;refine S4 3 J<|S3 9 J<|cF h b35 J J λv1 _ h=>S2 8 J<|g9<|S4 2 J ?_;refine cN h (λhc h=>?_) λhc h=>?_
 ·refine S4 5 J ?_;refine b9 ?_;cases h;exact⟨J,[_,_],⟨oL J J J o7 n0 nl J,⟨J,tr⟩⟩,J,io⟩
 ·refine c8 ?_;refine S4 4 J<|S3 2 J<|cF h D9 J J λv2 _ h=>S2 4 J<|b9 ?_;cases h;exact⟨J,[_,_],⟨oL J J J o7 n0 nl J,⟨J,tr⟩⟩,J,io⟩

set_option maxHeartbeats 40000000 in
theorem J7 {a0 a1}:PO Tryz.prog 78 [b6.Pv a0,.I a1] (I0 a0 a1) λr=>.I r:=by
 refine pO Tryz.func78 λr h _ _=>?_;refine S4 2 J<|g9<|S3 3 J<|o5 J (λhg=>mI J)<|o5 J (λhg=>oF J b6N J)<|o5 J (λhg=>oS (ct hg) J J b8i J)<|o5 J (λhg=>a6Y (f:=iF) (ct hg) l7)<|o5 J (λhg=>E6 (ct hg) (ct hg) J)<|y0 J (L1 J J J (λq=>eqF q))<|yN ?_;refine cN h (λhc h=>?_) λhc h=>?_
 ·refine S4 1 J ?_;refine b9 ?_;cases h;exact f1
 ·refine c8 ?_;refine S3 3 J<|iL h J J l7 p9 λv1 _ h=>S2 2 J<|b9 ?_;cases h;exact f1

set_option maxHeartbeats 40000000 in
theorem Z8 {a0}:PO Tryz.prog 66 [o0.Pv a0] (F2 a0) λr=>.tup [b6.Pv r.1,.I r.2]:=by
 refine pO Tryz.func66 λr h _ _=>?_;unfold F2 at h;refine S4 3 J<|dr [] x6 (by kernel_rfl) (by kernel_rfl)<|S7 6 J<|A9 h λv1 hv1 h=>d2 J (a0e J J7 J hv1) J<|A9 h λv2 hv2 h=>d2f J (y9 J D9 J hv2) J<|S7 2 J<|D7 (x':=b6.Pv v2.1) (cl':=true) J J (.inr J) n0<|S8 1 J<|b9 ?_;cases h;exact⟨J,[_,_],⟨oL J J J o7 n0 nl J,⟨J,tr⟩⟩,J,io⟩

set_option maxHeartbeats 40000000 in
theorem a2o {a0}:PO Tryz.prog 67 [o0.Pv a0] (W1 a0) λr=>.tup [b6.Pv r.1,.I r.2]:=by
 refine pO Tryz.func67 λr h _ _=>?_;refine S4 3 J<|S3 1 J<|cF h D9 J J λv1 _ h=>S2 4 J<|b9 ?_;cases h;exact⟨J,[_,_],⟨oL J J J o7 n0 nl J,⟨J,tr⟩⟩,J,io⟩

set_option maxHeartbeats 40000000 in
theorem M9 {a0 a1}:PO Tryz.prog 123 [b6.Pv a0,.I a1] (I5 a0 a1) λr=>.tup [.I r.1,.I r.2]:=by
 refine pO Tryz.func123 λr h _ _=>?_;refine S4 3 J<|S3 2 J<|cA h J7 J J λv1 _ h=>S2 1 J<|g9<|S4 2 J ?_;refine cN h (λhc h=>?_) λhc h=>?_
 ·refine S4 2 J ?_;refine b9 ?_;cases h;exact f2
 ·refine c8 ?_;refine S4 3 J<|b9 ?_;cases h;exact f2

set_option maxHeartbeats 40000000 in
theorem b3z {a0 a1}:PO Tryz.prog 203 [.L iF a0,.I a1] (a6a a0 a1) λr=>.bool r:=by
 refine pO Tryz.func203 λr h _ _=>?_;unfold a6a at h;refine S4 1 J<|S3 3 J<|o5 J (λhg=>mI J)<|o5 J (λhg=>om (d:=.L iF a0) J)<|o5 J (λhg=>a6Y (f:=iF) (ct hg) l7)<|o5 J (λhg=>E6 (ct hg) (ct hg) J)<|y0 J (Q6 J J J (λq=>eqT q))<|S2 1 J<|b9 ?_;cases h;exact f1

set_option maxHeartbeats 40000000 in
theorem c1K {a0 a1}:PO Tryz.prog 164 [.L iF a0,.I a1] (b1h a0 a1) λr=>.tup [.I r.1,.I r.2]:=by
 refine pO Tryz.func164 λr h _ _=>?_;refine S4 2 J<|g9<|S3 2 J<|cA h b3z J J λv1 _ h=>S2 1 J ?_;refine cN h (λhc h=>?_) λhc h=>?_
 ·refine S4 2 J ?_;refine b9 ?_;cases h;exact f2
 ·refine c8 ?_;refine S3 2 J<|iL h J J l7 p9 λv2 _ h=>S2 3 J<|b9 ?_;cases h;exact f2

set_option maxHeartbeats 40000000 in
theorem a7p {a0 a1 a2}:PO Tryz.prog 124 [a7.Pv a0,.I a1,.I a2] (X9 a0 a1 a2) λr=>.tup [.I r.1,.I r.2]:=by
 refine pO Tryz.func124 λr h _ _=>?_;refine S4 3 J<|S3 2 J<|cF h z7 J J λv1 _ h=>S2 6 J<|g9<|S4 2 J ?_;refine cN h (λhc h=>?_) λhc h=>?_
 ·refine S4 3 J ?_;refine b9 ?_;cases h;exact f2
 ·refine c8 ?_;refine S3 3 J<|cA h c1K J J λv2 _ h=>S2 4 J<|b9 ?_;cases h;exact f2

set_option maxHeartbeats 40000000 in
theorem a2p {a0}:PO Tryz.prog 68 [o0.Pv a0] (W2 a0) λr=>.tup [b6.Pv r.1,.I r.2]:=by
 refine pO Tryz.func68 λr h _ _=>?_;refine S4 3 J<|S3 5 J<|cA h M9 J J λv1 _ h=>S2 5 J<|g9<|S4 2 J ?_;refine cN h (λhc h=>?_) λhc h=>?_
 ·refine S4 5 J ?_;refine b9 ?_;cases h;exact⟨J,[_,_],⟨oL J J J o7 n0 nl J,⟨J,tr⟩⟩,J,io⟩
 ·refine c8 ?_;refine dr [] x6 (by kernel_rfl) (by kernel_rfl)<|S7 8 J<|A9 h λv2 hv2 h=>d2 J (a0e J a7p J hv2) J<|S7 2 J<|A9 h λv3 hv3 h=>d2f J (y9 J D9 J hv3) J<|S7 2 J<|D7 (x':=b6.Pv v3.1) (cl':=true) J J (.inr J) n0<|S8 1 J<|b9 ?_;cases h;exact⟨J,[_,_],⟨oL J J J o7 n0 nl J,⟨J,tr⟩⟩,J,io⟩

set_option maxHeartbeats 40000000 in
theorem b74 {a0 a1 a2}:PO Tryz.prog 222 [.L iF a0,.I a1,.I a2] (b3y a0 a1 a2) λr=>.tup [.L iF r.1,.I r.2]:=by
 refine pO Tryz.func222 λr h _ _=>?_;refine S4 2 J<|g9<|S3 2 J<|cA h b3z J J λv1 _ h=>S2 1 J ?_;refine cN h (λhc h=>?_) λhc h=>?_
 ·refine S4 3 J ?_;refine b9 ?_;cases h;exact f2
 ·refine c8 ?_;refine S3 1 J<|nL J l7<|A9 h λv2 hv2 h=>y1 J (b8U (f:=iF) hv2 J J J l7 p9 E5 Z6 J J J) J<|S2 1 J<|S3 2 J<|A9 h λv3 hv3 h=>d0y (f:=iF) hv3 J J J (.inl ⟨_,J,J⟩) l7 p9 (λ_=>J) (by decide)<|yN<|S3 3 J<|A9 h λv4 hv4 h=>y0 J (a8A (f:=iF) hv4 J J J J l7 p9 J)<|b3F (f:=iF) (v:=a2) hv4 J J (.inl J) p9<|yN<|S4 3 J<|b9 ?_;cases h;exact f2

set_option maxHeartbeats 40000000 in
theorem b6q {a0 a1 a2 a3}:PO Tryz.prog 205 [a7.Pv a0,.I a1,.I a2,.I a3] (a72 a0 a1 a2 a3) λr=>.tup [a7.Pv r.1,.I r.2]:=by
 refine pO Tryz.func205 λr h _ _=>?_;refine S4 3 J<|S3 2 J<|cF h z7 J J λv1 _ h=>S2 6 J<|g9<|S4 2 J ?_;refine cN h (λhc h=>?_) λhc h=>?_
 ·refine S4 4 J ?_;refine b9 ?_;cases h;exact⟨J,[_,_],⟨oL J J J a5e a5i nl J,⟨J,tr⟩⟩,J,io⟩
 ·refine c8 ?_;refine g9<|S3 4 J<|cF h b74 J J λv2 _ h=>S2 6 J<|S4 2 J ?_;refine cN h (λhc h=>?_) λhc h=>?_
  ·refine S4 4 J ?_;refine b9 ?_;cases h;exact⟨J,[_,_],⟨oL J J J a5e a5i nl J,⟨J,tr⟩⟩,J,io⟩
  ·refine c8 ?_;refine S3 3 J<|cF h Z4 J J λv3 _ h=>S2 4 J<|b9 ?_;cases h;exact⟨J,[_,_],⟨oL J J J a5e a5i nl J,⟨J,tr⟩⟩,J,io⟩

set_option maxHeartbeats 40000000 in
theorem a5A {a0 a1}:PO Tryz.prog 167 [D5.Pv a0,b6.Pv a1] (a0c a0 a1) λr=>b6.Pv r:=by
 refine pO Tryz.func167 λr h _ _=>?_;refine S4 3 J<|S3 8 J<|cF h b6q J J λv1 _ h=>S2 5 J<|S4 2 J<|b9 ?_;cases h;exact⟨J,[_],⟨oL J J J o7 n0 nl J,tr⟩,J,io⟩

set_option maxHeartbeats 40000000 in
theorem a0o {a0 a1 a2 a3}:PO Tryz.prog 166 [b6.Pv a0,.I a1,.I a2,.abs (BFn 167 [D5.Pv a3])] (F1 a0 a1 a2 a3) λr=>b6.Pv r:=by
 refine pO Tryz.func166 λr h _ _=>?_;refine S4 2 J<|S3 3 J<|cF h a1e J J λv1 _ h=>A9 h λv2 hv2 h=>b6A (xs:=[b6.Pv v1]) J J c4P J (a5A.2 _ hv2)<|S1 1 J<|cF h T5 J J λv3 _ h=>S2 1 J<|b9 ?_;cases h;exact⟨J,[_],⟨oL J J J o7 n0 nl J,tr⟩,J,io⟩

set_option maxHeartbeats 40000000 in
theorem b3Y {a0 a1 a2 a3}:PO Tryz.prog 125 [b6.Pv a0,.I a1,.I a2,.I a3] (a1Q a0 a1 a2 a3) λr=>.tup [b6.Pv r.1,.I r.2]:=by
 refine pO Tryz.func125 λr h _ _=>?_;refine S4 3 J<|S3 4 J<|cA h a7p J J λv1 _ h=>S2 5 J<|g9<|S4 2 J ?_;refine cN h (λhc h=>?_) λhc h=>?_
 ·refine S4 4 J ?_;refine b9 ?_;cases h;exact⟨J,[_,_],⟨oL J J J o7 n0 nl J,⟨J,tr⟩⟩,J,io⟩
 ·refine c8 ?_;refine g9<|S3 2 J<|cA h Q1 J J λv2 _ h=>S2 1 J ?_;refine cN h (λhc h=>?_) λhc h=>?_
  ·refine S4 3 J ?_;refine b9 ?_;cases h;exact⟨J,[_,_],⟨oL J J J o7 n0 nl J,⟨J,tr⟩⟩,J,io⟩
  ·refine c8 ?_;refine S3 6 J<|y0 J (r9 (cs:=[.I a1,.I a2,.I a3]) J c4Z c47 J J J)<|y0 J (b0Q (d:=.agg [.I a1,.I a2,.I a3]) J)<|cF h a0o J J λv3 _ h=>S2 2 J<|b9 ?_;cases h;exact⟨J,[_,_],⟨oL J J J o7 n0 nl J,⟨J,tr⟩⟩,J,io⟩

set_option maxHeartbeats 40000000 in
theorem a1D {a0}:PO Tryz.prog 69 [o0.Pv a0] (S9 a0) λr=>.tup [b6.Pv r.1,.I r.2]:=by
 refine pO Tryz.func69 λr h _ _=>?_;refine S4 3 J<|S3 5 J<|cA h M9 J J λv1 _ h=>S2 5 J<|g9<|S4 2 J ?_;refine cN h (λhc h=>?_) λhc h=>?_
 ·refine S4 5 J ?_;refine b9 ?_;cases h;exact⟨J,[_,_],⟨oL J J J o7 n0 nl J,⟨J,tr⟩⟩,J,io⟩
 ·refine c8 ?_;refine dr [] x6 (by kernel_rfl) (by kernel_rfl)<|S7 11 J<|A9 h λv2 hv2 h=>d2 J (a0e J J7 J hv2) J<|A9 h λv3 hv3 h=>d2f J (y9 J b3Y J hv3) J<|S7 2 J<|D7 (x':=b6.Pv v3.1) (cl':=true) J J (.inr J) n0<|S8 1 J<|b9 ?_;cases h;exact⟨J,[_,_],⟨oL J J J o7 n0 nl J,⟨J,tr⟩⟩,J,io⟩

set_option maxHeartbeats 40000000 in
theorem b9o {a0 a1}:PO Tryz.prog 206 [c5.Pv a0,.I a1] (b2g a0 a1) λr=>.fn (.func 223) [.rptr (c5.Pc r.1),.rptr [.I r.2]]:=by
 refine pO Tryz.func206 λr h _ _=>?_;unfold b2g at h;refine S4 3 J<|S4 2 J<|b9 ?_;cases h;exact f1

set_option maxHeartbeats 40000000 in
theorem b36 {a0 a1}:PO Tryz.prog 168 [c5.Pv a0,.I a1] (a3L a0 a1) λr=>.bool r:=by
 refine pO Tryz.func168 λr h _ _=>?_;refine S4 3 J ?_;refine jq h (λ_=>St.of [(4,.ptr 2001 0 0)] [(2001,vR (.bool false) 1)]) (λq7 h=>?_) λκ6 h=>?_
 ·refine S4 1 J ?_;refine b9 ?_;cases h;exact⟨J,[_],⟨oS J J J b6M J,tr⟩,J,io⟩
 ·refine S3 1 J ?_;refine cF h b9o J J λv8 _ h=>yN<|k7<|a2s (WPE (λl=>if l=2003 then 4 else if l=2004 then 3 else l) [(3,.ptr 2004 0 0),(4,.ptr 2003 0 0),(7,.fn (.func 223) [.rptr (c5.Pc v8.1),.rptr [.I v8.2]])] [(2003,vR (.bool false) 1),(2004,vR (.I a1) 1)]) ?_;refine a1m (fn:=Tryz.f223) (N1:=24) J Tryz.func223 J J nl J c4V J J (λl16 e17 o18 hR19=>?_);refine S3 2 J<|nL J a6A<|S2 1 J<|k7<|lq h (λs10=>St.of [(1000003,.ptr 2004 0 0),(1000004,.ptr 2003 0 0),(1000007,.fn (.func 223) [.rptr (c5.Pc v8.1),.rptr [.I v8.2]]),(0,.fn (.yield l16) []),(2,.rptr [.I v8.2]),(7,.L g7.Pv v8.1.L),(8,.I (v8.1.L.length:Int)),(9,.I s10)] [(2003,vR (.bool false) 1),(2004,vR (.I a1) 1)]) W λs10 x11 h hx22=>S4 1 J<|g9 ?_;refine cN h (λhc h=>?_) λhc h=>?_
  ·refine c8 ?_;refine g9<|k7<|sR<|iL h J J a6A J1 λv12 _ h=>S2 3 J<|S3 5 J<|o5 J (λhg=>om (d:=.fn (.yield l16) []) J)<|o5 J (λhg=>oL J J J a04 J1 nl J) ?_;rcases Bool.eq_false_or_eq_true ((v12.Kind==v8.2)==true) with hg24 | hg24
   ·have h:=ifT h hg24;refine O9 (WE [(1000003,.ptr 2004 0 0),(1000004,.ptr 2003 0 0),(1000007,.fn (.func 223) [.rptr (c5.Pc v8.1),.rptr [.I v8.2]]),(0,.fn (.yield l16) []),(2,.rptr [.I v8.2]),(7,.L g7.Pv v8.1.L),(8,.I (v8.1.L.length:Int)),(9,.I s10),(17,.bool (v12.Kind==v8.2)),(18,.fn (.yield l16) []),(19,g7.Pv v12)] [(2003,vR (.bool false) 1),(2004,vR (.I a1) 1)]) ?_;refine a6d hR19 (congrArg some hg24) J J J J J (λe25 o26 o27=>?_);refine S6 2 J ?_;refine⟨J,?_⟩;refine k7<|S4 4 J ?_;refine cN h (λhc h=>?_) λhc h=>?_
    ·refine S4 1 J ?_;refine b9 ?_;refine⟨J,?_⟩;refine O9 (WE [(1000003,.ptr 2004 0 0),(1000004,.ptr 2003 0 0),(1000007,.fn (.func 223) [.rptr (c5.Pc v8.1),.rptr [.I v8.2]]),(0,.fn (.yield l16) []),(2,.rptr [.I v8.2]),(7,.L g7.Pv v8.1.L),(8,.I (v8.1.L.length:Int)),(9,.I s10),(17,.bool (v12.Kind==v8.2)),(20,.bool false)] [(2003,vR (.bool true) 1),(2004,vR (.I a1) 1)])<|y0 (congrArg some hg24) (a6m J J)<|y0 J (a5J J J hg24)<|yN ?_;refine F4 true J (λ_=>?_) (λq=>nomatch q);refine b9 ?_;refine .inr ⟨.ret,J,c5A ?_⟩;have h:=xL hx22 h;cases h;exact⟨J,[_],⟨oS J J J b6M J,tr⟩,J,io⟩
    ·refine c8 ?_;refine⟨J,?_⟩;refine O9 (WE [(1000003,.ptr 2004 0 0),(1000004,.ptr 2003 0 0),(1000007,.fn (.func 223) [.rptr (c5.Pc v8.1),.rptr [.I v8.2]]),(0,.fn (.yield l16) []),(2,.rptr [.I v8.2]),(7,.L g7.Pv v8.1.L),(8,.I (v8.1.L.length:Int)),(9,.I s10),(17,.bool (v12.Kind==v8.2)),(20,.bool true)] [(2003,vR (.bool false) 1),(2004,vR (.I a1) 1)])<|y0 (congrArg some hg24) (a6m J J)<|y0 J (a5J J J hg24)<|yN ?_;refine F4 false J (λq=>nomatch q) (λ_=>?_);refine c8<|S6 2 J ?_;exact eL h W
   ·have h:=ifF h hg24;refine a14 (congrArg some hg24)<|a14 (congrArg some hg24)<|y0 J (a7K J J hg24)<|yN ?_;refine F4 false J (λq=>nomatch q) (λ_=>?_);refine c8<|S6 2 J ?_;exact eL h W
  ·refine w7 ?_;refine j5<|j5<|m9 ?_;refine .inl ⟨J,?_⟩;have h:=xL hx22 h;exact eJ h (WP (λl=>if l=2001 then 2003 else l))

set_option maxHeartbeats 40000000 in
theorem b1B {a0 a1}:PO Tryz.prog 172 [.L c7.Pv a0,.I a1] (a49 a0 a1) λr=>.bool r:=by
 refine pO Tryz.func172 λr h _ _=>?_;unfold a49 at h;refine S4 1 J<|S3 3 J<|o5 J (λhg=>mI J)<|o5 J (λhg=>om (d:=.L c7.Pv a0) J)<|o5 J (λhg=>a6Y (f:=c7.Pv) (ct hg) U8)<|o5 J (λhg=>E6 (ct hg) (ct hg) J)<|y0 J (Q6 J J J (λq=>eqT q))<|S2 1 J<|b9 ?_;cases h;exact f1

set_option maxHeartbeats 40000000 in
theorem a6q {a0}:PON Tryz.prog 183 [.L c7.Pv a0] (Y0 a0) λr=>⟨List.map c7.Pv r,0,true,3,true⟩:=by
 refine pON Tryz.func183 λr h _ _=>?_;unfold Y0 at h;refine S4 1 J<|S3 1 J<|nL J U8<|A9 h λv1 hv1 h=>y1 J (b8U (f:=c7.Pv) hv1 J J J U8 V9 b43 b9B J J J) J<|S2 1 J<|S3 2 J<|A9 h λv2 hv2 h=>d0y (f:=c7.Pv) hv2 J J J (.inl ⟨_,J,J⟩) U8 V9 (λ_=>J) (by decide)<|yN<|S4 2 J<|b9 ?_;cases h;exact⟨J,_,_,J,J,J,J⟩

set_option maxHeartbeats 40000000 in
theorem b79 {a0 a1 a2 a3}:PO Tryz.prog 169 [.L c7.Pv a0,.I a1,.I a2,.I a3] (b0q a0 a1 a2 a3) λr=>.tup [.L c7.Pv r.1,.I r.2.1,.I r.2.2]:=by
 refine pO Tryz.func169 λr h _ _=>?_;refine S4 3 J<|g9<|S3 2 J<|cA h b1B J J λv1 _ h=>S2 1 J ?_;refine cN h (λhc h=>?_) λhc h=>?_
 ·refine S4 4 J ?_;refine b9 ?_;cases h;exact f3
 ·refine c8 ?_;refine S3 1 J<|A9 h λv2 hv2 h=>ycN J (b4E J a6q J hv2) J J<|S2 1 J<|S3 6 J<|y0 J (r9 (cs:=[.I a2,.bool (a2 != 0),.I a3]) J c4Y b43 J J J)<|A9 h λv3 hv3 h=>y0 J (a8A (f:=c7.Pv) hv3 J J J J U8 V9 J)<|b3F (f:=c7.Pv) (v:=(⟨a2,(a2 != 0),a3⟩:c7)) hv3 J J (.inl J) V9<|yN<|dr [] x6 (by kernel_rfl) (by kernel_rfl)<|S7 3 J<|A9 h λv4 hv4 h=>d0 J (Q5 (f:=c7.Pv) (cs:=c7.Pc v4) hv4 J J U8 V9 J J) J<|S8 5 J<|b9 ?_;cases h;exact f3

set_option maxHeartbeats 40000000 in
theorem a6T {a0 a1 a2}:PO Tryz.prog 171 [b6.Pv a0,.I a1,.I a2] (a0W a0 a1 a2) λr=>b6.Pv r:=by
 refine pO Tryz.func171 λr h _ _=>?_;refine S4 2 J<|S3 4 J<|cA h F6 J J λv1 _ h=>S2 5 J<|g9<|S4 2 J ?_;refine cN h (λhc h=>?_) λhc h=>?_
 ·refine S3 5 J ?_;refine iL h J J P5 a0a λv2 _ h=>S2 4 J<|S4 6 J<|S5 4 J<|cF h Z4 J J λv3 _ h=>S2 5 J<|S4 2 J<|b9 ?_;cases h;exact⟨J,[_],⟨oL J J J o7 n0 nl J,tr⟩,J,io⟩
 ·refine c8 ?_;refine S4 2 J<|b9 ?_;cases h;exact⟨J,[_],⟨oL J J J o7 n0 nl J,tr⟩,J,io⟩

set_option maxHeartbeats 40000000 in
theorem a1u {a0 a1}:PO Tryz.prog 138 [c4.Pv a0,.I a1] (J9 a0 a1) λr=>.tup [c4.Pv r.1,.I r.2]:=by
 refine pO Tryz.func138 λr h _ _=>?_;refine S4 3 J<|S3 2 J<|cA h F6 J J λv1 _ h=>S2 5 J<|g9<|S4 2 J ?_;refine cN h (λhc h=>?_) λhc h=>?_
 ·refine S4 4 J ?_;refine b9 ?_;cases h;exact⟨J,[_,_],⟨oL J J J a2z a06 nl J,⟨J,tr⟩⟩,J,io⟩
 ·refine c8 ?_;refine S3 3 J<|iL h J J P5 a0a λv2 _ h=>S2 3 J<|g9<|S4 4 J ?_;refine cN h (λhc h=>?_) λhc h=>?_
  ·refine S3 3 J ?_;refine y0 J (r9 (cs:=[.I 3,.I v2.Gen,.I 0,.I 0,.I 0,.I 0,.bool false,.nl]) J b42 b0w J J J)<|cF h F7 J J λv3 _ h=>S2 2 J<|b9 ?_;cases h;exact⟨J,[_,_],⟨oL J J J a2z a06 nl J,⟨J,tr⟩⟩,J,io⟩
  ·refine c8 ?_;refine S3 4 J<|y0 J (r9 (cs:=[.I 0,.I (s6 (v2.Gen+1)),.I 0,.I 0,.I 0,.I 0,.bool false,.nl]) J b42 b0w J J J)<|cF h F7 J J λv4 _ h=>S2 2 J<|b9 ?_;cases h;exact⟨J,[_,_],⟨oL J J J a2z a06 nl J,⟨J,tr⟩⟩,J,io⟩

set_option maxHeartbeats 40000000 in
theorem b0J {a0 a1}:PO Tryz.prog 170 [b6.Pv a0,.I a1] (a2a a0 a1) λr=>b6.Pv r:=by
 refine pO Tryz.func170 λr h _ _=>?_;refine S4 2 J<|S3 2 J<|cF h a6T J J λv1 _ h=>S2 1 J<|S3 4 J<|cA h F6 J J λv2 _ h=>S2 5 J<|g9<|S4 2 J ?_;refine cN h (λhc h=>?_) λhc h=>?_
 ·refine S4 2 J ?_;refine b9 ?_;cases h;exact⟨J,[_],⟨oL J J J o7 n0 nl J,tr⟩,J,io⟩
 ·refine c8 ?_;refine g9<|S3 5 J<|iL h J J P5 a0a λv3 _ h=>S2 3 J<|S3 4 J<|o5 J (λhg=>oF J c1X J)<|o5 J (λhg=>oF (ct hg) c1W J)<|o5 J (λhg=>oS (ct hg) J J L0 J)<|o5 J (λhg=>E6 (ct hg) J J)<|y0 J (Q6 J J J (λq=>eqT q))<|yN ?_;refine cN h (λhc h=>?_) λhc h=>?_
  ·refine S5 4 J ?_;refine cF h a1u J J λv4 _ h=>S2 6 J<|S4 2 J<|b9 ?_;cases h;exact⟨J,[_],⟨oL J J J o7 n0 nl J,tr⟩,J,io⟩
  ·refine c8 ?_;refine S4 2 J<|b9 ?_;cases h;exact⟨J,[_],⟨oL J J J o7 n0 nl J,tr⟩,J,io⟩

set_option maxHeartbeats 40000000 in
theorem a9K {a0 a1 a2 a3}:PO Tryz.prog 126 [b6.Pv a0,.I a1,.I a2,.I a3] (Y7 a0 a1 a2 a3) λr=>.tup [b6.Pv r.1,.I r.2]:=by
 refine pO Tryz.func126 λr h _ _=>?_;unfold Y7 at h;refine S4 3 J<|g9<|S3 3 J<|o5 J (λhg=>mI J)<|o5 J (λhg=>oF J c1T J)<|o5 J (λhg=>oS (ct hg) J J c7p J)<|o5 J (λhg=>a6Y (f:=c7.Pv) (ct hg) U8)<|o5 J (λhg=>E6 (ct hg) (ct hg) J)<|y0 J (L1 J J J (λq=>eqF q))<|S1 1 J<|o5 J (λhg=>oF J c1U J)<|o5 J (λhg=>oL (ct hg) J J a4l a07 nl J)<|o5 J (λhg=>mI J)<|A9 h λv1 hv1 h=>o5 J (λhg=>a0e J b36 (a3W (ct hg) (a3W (ct hg) J)) (a1k hv1 hg))<|y0 J (L1 J J J (λq=>eqF q))<|yN ?_;refine cN h (λhc h=>?_) λhc h=>?_
 ·refine S4 3 J ?_;refine b9 ?_;cases h;exact⟨J,[_,_],⟨oL J J J o7 n0 nl J,⟨J,tr⟩⟩,J,io⟩
 ·refine c8 ?_;refine g9<|S3 2 J<|cA h Q1 J J λv2 _ h=>S2 1 J ?_;refine cN h (λhc h=>?_) λhc h=>?_
  ·refine S4 3 J ?_;refine b9 ?_;cases h;exact⟨J,[_,_],⟨oL J J J o7 n0 nl J,⟨J,tr⟩⟩,J,io⟩
  ·refine c8 ?_;refine S3 5 J<|cF h b79 J J λv3 _ h=>S2 7 J<|S4 3 J<|S3 2 J<|cF h a6T J J λv4 _ h=>S1 1 J<|cF h b0J J J λv5 _ h=>S2 2 J<|b9 ?_;cases h;exact⟨J,[_,_],⟨oL J J J o7 n0 nl J,⟨J,tr⟩⟩,J,io⟩

set_option maxHeartbeats 40000000 in
theorem a1i {a0}:PO Tryz.prog 70 [o0.Pv a0] (P2 a0) λr=>.tup [b6.Pv r.1,.I r.2]:=by
 refine pO Tryz.func70 λr h _ _=>?_;refine S4 3 J<|g9<|S4 4 J ?_;refine cN h (λhc h=>?_) λhc h=>?_
 ·refine S3 8 J ?_;refine cF h a9K J J λv1 _ h=>S2 4 J<|b9 ?_;cases h;exact⟨J,[_,_],⟨oL J J J o7 n0 nl J,⟨J,tr⟩⟩,J,io⟩
 ·refine c8 ?_;refine S3 5 J<|cA h M9 J J λv2 _ h=>S2 5 J<|g9<|S4 2 J ?_;refine cN h (λhc h=>?_) λhc h=>?_
  ·refine S4 5 J ?_;refine b9 ?_;cases h;exact⟨J,[_,_],⟨oL J J J o7 n0 nl J,⟨J,tr⟩⟩,J,io⟩
  ·refine c8 ?_;refine S3 9 J<|cF h a9K J J λv3 _ h=>S2 4 J<|b9 ?_;cases h;exact⟨J,[_,_],⟨oL J J J o7 n0 nl J,⟨J,tr⟩⟩,J,io⟩

set_option maxHeartbeats 40000000 in
theorem b6z {a0 a1}:PO Tryz.prog 127 [.L c7.Pv a0,.I a1] (a48 a0 a1) λr=>.tup [.I r.1,.I r.2]:=by
 refine pO Tryz.func127 λr h _ _=>?_;refine S4 2 J<|g9<|S3 2 J<|cA h b1B J J λv1 _ h=>S2 1 J ?_;refine cN h (λhc h=>?_) λhc h=>?_
 ·refine S4 2 J ?_;refine b9 ?_;cases h;exact f2
 ·refine c8 ?_;refine g9<|S3 2 J<|iL h J J U8 V9 λv2 hv2 h=>S1 4 J<|o5 J (λhg=>om (d:=.L c7.Pv a0) J)<|o5 J (λhg=>mI J)<|o5 J (λhg=>Q5 (f:=c7.Pv) (cs:=c7.Pc v2) hv2 (ct hg) (ct hg) U8 V9 J J)<|o5 J (λhg=>F3 (ct hg) c0T J)<|o5 J (λhg=>N2 (ct hg) b6M J)<|o5 J (λhg=>a6m (ct hg) J)<|y0 J (L1 J J J (λq=>eqF q))<|yN ?_;refine cN h (λhc h=>?_) λhc h=>?_
  ·refine S4 2 J ?_;refine b9 ?_;cases h;exact f2
  ·refine c8 ?_;refine S3 2 J<|y0 J (Q5 (f:=c7.Pv) (cs:=c7.Pc v2) hv2 J J U8 V9 J J)<|S2 4 J<|b9 ?_;cases h;exact f2

set_option maxHeartbeats 40000000 in
theorem a3x {a0}:PO Tryz.prog 71 [o0.Pv a0] (T6 a0) λr=>.tup [b6.Pv r.1,.I r.2]:=by
 refine pO Tryz.func71 λr h _ _=>?_;unfold T6 at h;refine S4 3 J<|dr [] x6 (by kernel_rfl) (by kernel_rfl)<|S7 7 J<|A9 h λv1 hv1 h=>d2 J (a0e J b6z J hv1) J<|S7 2 J<|A9 h λv2 hv2 h=>d2f J (y9 J D9 J hv2) J<|S7 2 J<|D7 (x':=b6.Pv v2.1) (cl':=true) J J (.inr J) n0<|S8 1 J<|b9 ?_;cases h;exact⟨J,[_,_],⟨oL J J J o7 n0 nl J,⟨J,tr⟩⟩,J,io⟩

set_option maxHeartbeats 40000000 in
theorem a9H {a0 a1}:PO Tryz.prog 211 [.I a0,.I a1] (a29 a0 a1) λr=>.fn (.func 224) [.rptr [.I r.1],.rptr [.I r.2]]:=by
 refine pO Tryz.func211 λr h _ _=>?_;unfold a29 at h;refine S4 3 J<|S4 2 J<|b9 ?_;cases h;exact f1

set_option maxHeartbeats 40000000 in
theorem a9E {a0 a1}:PO Tryz.prog 225 [.I a0,.I a1] (Y5 a0 a1) λr=>.I r:=by
 refine pO Tryz.func225 λr h _ _=>?_;refine S4 1 J<|g9<|S4 2 J ?_;refine cN h (λhc h=>?_) λhc h=>?_
 ·refine S4 1 J ?_;refine b9 ?_;cases h;exact f1
 ·refine c8 ?_;refine S3 4 J<|A9 h λv1 hv1 h=>y0 J (a6l J J hv1)<|S2 1 J<|g9<|S4 2 J ?_;refine cN h (λhc h=>?_) λhc h=>?_
  ·refine S6 4 J ?_;refine S4 2 J<|b9 ?_;cases h;exact f1
  ·refine c8 ?_;refine S4 2 J<|b9 ?_;cases h;exact f1

set_option maxHeartbeats 40000000 in
theorem a5w {a0 a1}:PO Tryz.prog 185 [.L b8.Pv a0,.I a1] (U3 a0 a1) λr=>.I r:=by
 refine pO Tryz.func185 λr h _ _=>?_;refine S4 3 J ?_;refine jq h (λ_=>St.of [(4,.ptr 2001 0 0)] [(2001,vR (.I 0) 1)]) (λq9 h=>?_) λκ8 h=>?_
 ·refine S4 1 J ?_;refine b9 ?_;cases h;exact⟨J,[_],⟨oS J J J L0 J,tr⟩,J,io⟩
 ·refine S3 1 J ?_;refine nL J a0B<|S1 1 J<|cF h a9H J J λv10 _ h=>yN<|k7<|a2s (WPE (λl=>if l=2004 then 4 else if l=2005 then 3 else if l=2006 then 2 else l) [(2,.ptr 2006 0 0),(3,.ptr 2005 0 0),(4,.ptr 2004 0 0),(9,.fn (.func 224) [.rptr [.I v10.1],.rptr [.I v10.2]])] [(2004,vR (.I 0) 1),(2005,vR (.I a1) 1),(2006,vR (.L b8.Pv a0) 1)]) ?_;refine a1m (fn:=Tryz.f224) (N1:=20) J Tryz.func224 J J nl J b9E J J (λl17 e18 o19 hR20=>?_);refine S4 2 J<|k7<|lq h (λs12=>St.of [(1000002,.ptr 2006 0 0),(1000003,.ptr 2005 0 0),(1000004,.ptr 2004 0 0),(1000009,.fn (.func 224) [.rptr [.I v10.1],.rptr [.I v10.2]]),(0,.fn (.yield l17) []),(1,.rptr [.I v10.1]),(2,.rptr [.I v10.2]),(5,.I v10.1),(6,.I s12)] [(2004,vR (.I 0) 1),(2005,vR (.I a1) 1),(2006,vR (.L b8.Pv a0) 1)]) W λs12 x13 h hx23=>S4 1 J<|g9 ?_;refine cN h (λhc h=>?_) λhc h=>?_
  ·refine c8 ?_;refine g9<|k7<|S4 2 J<|drY [] 8 x6 (by kernel_rfl) (by kernel_rfl) (by kernel_rfl) (by kernel_rfl) nl<|S7 3 J<|A9 h λv14 hv24 h=>d2 J (a0e J a9E J hv24) J<|S7 3 J<|A9 h λv15 hv25 h=>d7 J (λ_ hN=>a6l J J hv25) J<|a0Q<|c3L (WE [(1000002,.ptr 2006 0 0),(1000003,.ptr 2005 0 0),(1000004,.ptr 2004 0 0),(1000009,.fn (.func 224) [.rptr [.I v10.1],.rptr [.I v10.2]]),(0,.fn (.yield l17) []),(1,.rptr [.I v10.1]),(2,.rptr [.I v10.2]),(5,.I v10.1),(6,.I s12),(9,.fn (.yield l17) []),(16,.I v15)] [(2004,vR (.I 0) 1),(2005,vR (.I a1) 1),(2006,vR (.L b8.Pv a0) 1)]) ?_;refine b3G J hR20 J J J J J J (λe26 o27 o28=>?_);refine S6 1 J ?_;refine⟨J,?_⟩;refine k7<|g9<|S3 2 J<|iL h J J a0B a0w λv16 hv29 h=>S2 3 J ?_;refine cN h (λhc h=>?_) λhc h=>?_
   ·refine w7 ?_;refine j5<|a5l (by decide) ?_;refine⟨J,?_⟩;refine⟨_,b3D [(1000002,.ptr 2006 0 0),(1000003,.ptr 2005 0 0),(1000004,.ptr 2004 0 0),(1000009,.fn (.func 224) [.rptr [.I v10.1],.rptr [.I v10.2]]),(0,.fn (.yield l17) []),(1,.rptr [.I v10.1]),(2,.rptr [.I v10.2]),(5,.I v10.1),(6,.I s12),(17,.bool false)] [(2004,vR (.I 0) 1),(2005,vR (.I a1) 1),(2006,vR (.L b8.Pv a0) 1)] ⟨J,J,J,J,J,J,J,J,J,J,J,J,J,J,J,J,J,J,J,J,J,J,J,J,J,J,J,J,J,J,tr⟩ ⟨rS,rS,rS,tr⟩,?_⟩;refine S8 1 J ?_;refine F4 true J (λ_=>?_) (λq=>nomatch q);refine b9 ?_;refine .inr ⟨.exit 0,J,d1a ?_⟩;refine m9 ?_;have h:=xL hx23 h;exact eJ h (WP (λl=>if l=2001 then 2004 else l))
   ·refine c8 ?_;refine dr [] x6 (by kernel_rfl) (by kernel_rfl)<|S7 2 J<|d0 J (Q5 (f:=b8.Pv) (cs:=b8.Pc v16) hv29 J J a0B a0w J J) J<|S7 4 J<|a2P J (λhg=>oS J J J b4Y J) J<|M8 J (λhg _ hN=>mI J) J<|a2P J (λhg=>Q5 (f:=b8.Pv) (cs:=b8.Pc v16) hv29 (ct hg) (ct hg) a0B a0w J J) J<|M8 J (λhg _ hN=>F3 (ct hg) c0U J) J<|a2P J (λhg=>N2 (ct hg) L0 J) J<|a2P J (λhg=>oS J J J L0 J) J<|M8 J (λhg _ hN=>E6 (ct hg) (ct hg) J) J<|d7 J (λ_ hN=>Q6 J J J (λq=>eqT q)) J<|a0Q ?_;refine cN h (λhc h=>?_) λhc h=>?_
    ·refine S4 2 J ?_;refine b9 ?_;refine⟨J,?_⟩;refine⟨_,b3D [(1000002,.ptr 2006 0 0),(1000003,.ptr 2005 0 0),(1000004,.ptr 2004 0 0),(1000009,.fn (.func 224) [.rptr [.I v10.1],.rptr [.I v10.2]]),(0,.fn (.yield l17) []),(1,.rptr [.I v10.1]),(2,.rptr [.I v10.2]),(5,.I v10.1),(6,.I s12),(17,.bool false)] [(2004,vR (.I v15) 1),(2005,vR (.I a1) 1),(2006,vR (.L b8.Pv a0) 1)] ⟨J,J,J,J,J,J,J,J,J,J,J,J,J,J,J,J,J,J,J,J,J,J,J,J,J,J,J,J,J,J,tr⟩ ⟨rS,rS,rS,tr⟩,?_⟩;refine S8 1 J ?_;refine F4 true J (λ_=>?_) (λq=>nomatch q);refine b9 ?_;refine .inr ⟨.ret,J,c5A ?_⟩;have h:=xL hx23 h;cases h;exact⟨J,[_],⟨oS J J J L0 J,tr⟩,J,io⟩
    ·refine c8 ?_;refine⟨J,?_⟩;refine⟨_,b3D [(1000002,.ptr 2006 0 0),(1000003,.ptr 2005 0 0),(1000004,.ptr 2004 0 0),(1000009,.fn (.func 224) [.rptr [.I v10.1],.rptr [.I v10.2]]),(0,.fn (.yield l17) []),(1,.rptr [.I v10.1]),(2,.rptr [.I v10.2]),(5,.I v10.1),(6,.I s12),(17,.bool true)] [(2004,vR (.I 0) 1),(2005,vR (.I a1) 1),(2006,vR (.L b8.Pv a0) 1)] ⟨J,J,J,J,J,J,J,J,J,J,J,J,J,J,J,J,J,J,J,J,J,J,J,J,J,J,J,J,J,J,tr⟩ ⟨rS,rS,rS,tr⟩,?_⟩;refine S8 1 J ?_;refine F4 false J (λq=>nomatch q) (λ_=>?_);refine c8<|S6 2 J ?_;exact eL h W
  ·refine w7 ?_;refine j5<|j5<|m9 ?_;refine .inl ⟨J,?_⟩;have h:=xL hx23 h;exact eJ h (WP (λl=>if l=2001 then 2004 else l))

set_option maxHeartbeats 40000000 in
theorem a32 {a0 a1}:PO Tryz.prog 175 [.L b8.Pv a0,.I a1] (I4 a0 a1) λr=>.tup [.I r.1,.I r.2]:=by
 refine pO Tryz.func175 λr h _ _=>?_;refine S4 2 J<|S3 2 J<|cA h a5w J J λv1 _ h=>S2 1 J<|g9<|S4 2 J ?_;refine cN h (λhc h=>?_) λhc h=>?_
 ·refine S4 2 J ?_;refine b9 ?_;cases h;exact f2
 ·refine c8 ?_;refine S3 2 J<|iL h J J a0B a0w λv2 _ h=>S2 4 J<|b9 ?_;cases h;exact f2

set_option maxHeartbeats 40000000 in
theorem X7 {a0}:PON Tryz.prog 212 [.L b8.Pv a0] (B4 a0) λr=>⟨List.map b8.Pv r,0,true,3,true⟩:=by
 refine pON Tryz.func212 λr h _ _=>?_;unfold B4 at h;refine S4 1 J<|g9<|S3 1 J<|b6B J a0B λb hb=>yN ?_;refine F4 b J (λhc=>?_) (λhc=>?_)
 ·obtain rfl:a0 = []:=by simpa using hb hc
  refine S4 1 J<|a2s (Y1 (t:=2) (l:=920000) (z:=3) J J)<|b9 ?_;cases h;exact⟨J,_,_,J,J,J,J⟩
 ·refine c8 ?_;refine sR<|y0 J (b2X J a0B a0w)<|S1 1 J<|y1 J (b7p (f:=b8.Pv) h J J (.inl ⟨_,J,J⟩) a0B a0w b9C b1R J (λ_=>J)) J<|S2 1 J<|b9 ?_;exact⟨J,_,_,J,J,J,J⟩

set_option maxHeartbeats 40000000 in
theorem a5x {a0 a1 a2}:PO Tryz.prog 186 [.L b8.Pv a0,.I a1,b8.Pv a2] (a0V a0 a1 a2) λr=>.L b8.Pv r:=by
 refine pO Tryz.func186 λr h _ _=>?_;unfold a0V at h;refine S4 2 J<|S3 1 J<|A9 h λv1 hv1 h=>ycN J (b4E J X7 J hv1) J J<|S2 1 J<|S3 3 J<|A9 h λv2 hv2 h=>y0 J (a8A (f:=b8.Pv) hv2 J J J J a0B a0w J)<|b3F (f:=b8.Pv) (v:=a2) hv2 J J (.inl J) a0w<|yN<|S4 2 J<|b9 ?_;cases h;exact f1

set_option maxHeartbeats 40000000 in
theorem a9D {a0 a1}:PO Tryz.prog 136 [.L b8.Pv a0,.I a1] (U2 a0 a1) λr=>.tup [.L b8.Pv r.1,.I r.2.1,.I r.2.2]:=by
 refine pO Tryz.func136 λr h _ _=>?_;refine S4 3 J<|S3 2 J<|cA h a5w J J λv1 _ h=>S2 1 J<|g9<|S4 2 J ?_;refine cN h (λhc h=>?_) λhc h=>?_
 ·refine S4 4 J ?_;refine b9 ?_;cases h;exact f3
 ·refine c8 ?_;refine dr [] x6 (by kernel_rfl) (by kernel_rfl)<|S7 2 J<|d7 J (λ_ hN=>r9 (cs:=[.I 2,.I 0,.I 0]) J b9H b1R J J J) J<|A9 h λv2 hv2 h=>d2f J (y9 J a5x J hv2) J<|S7 2 J<|A9 h λv3 hv3 h=>d0 J (Q5 (f:=b8.Pv) (cs:=b8.Pc v3) hv3 J J a0B a0w J J) J<|S8 5 J<|b9 ?_;cases h;exact f3

set_option maxHeartbeats 40000000 in
theorem b68 {a0 a1 a2}:PO Tryz.prog 207 [.L b8.Pv a0,.I a1,.I a2] (a6R a0 a1 a2) λr=>.tup [.L b8.Pv r.1,.I r.2]:=by
 refine pO Tryz.func207 λr h _ _=>?_;refine S4 3 J<|S3 2 J<|y0 J (r9 (cs:=[.I 1,.I a1,.I a2]) J b9H b1R J J J)<|S2 2 J<|g9<|S3 2 J<|cA h a5w J J λv1 _ h=>S2 1 J<|S4 2 J ?_;refine cN h (λhc h=>?_) λhc h=>?_
 ·refine S3 3 J ?_;refine cF h a5x J J λv2 _ h=>S2 2 J<|b9 ?_;cases h;exact⟨J,[_,_],⟨oS J J J b4Y J,⟨oS J J J a5f J,tr⟩⟩,J,io⟩
 ·refine c8 ?_;refine jq h (λ_=>St.of [(3,.ptr 2004 0 0),(6,.ptr 2003 0 0),(7,.ptr 2002 0 0)] [(2002,vR (.I 0) 1),(2003,vR (.nl) 1),(2004,vR (.L b8.Pv a0) 1)]) (λq12 h=>?_) λκ11 h=>?_
  ·refine S4 3 J ?_;refine b9 ?_;cases h;exact⟨J,[_,_],⟨oS J J J b4Y J,⟨oS J J J a5f J,tr⟩⟩,J,io⟩
  ·refine S3 1 J ?_;refine nL J a0B<|S1 1 J<|cF h a9H J J λv13 _ h=>yN<|k7<|a2s (WPE (λl=>if l=2005 then 8 else if l=2006 then 7 else if l=2007 then 6 else if l=2008 then 3 else l) [(3,.ptr 2008 0 0),(6,.ptr 2007 0 0),(7,.ptr 2006 0 0),(8,.ptr 2005 0 0),(26,.fn (.func 224) [.rptr [.I v13.1],.rptr [.I v13.2]])] [(2005,vR (.agg [.I 1,.I a1,.I a2]) 3),(2006,vR (.I 0) 1),(2007,vR (.nl) 1),(2008,vR (.L b8.Pv a0) 1)]) ?_;refine a1m (fn:=Tryz.f224) (N1:=20) J Tryz.func224 J J nl J b9E J J (λl20 e21 o22 hR23=>?_);refine S4 2 J<|k7<|lq h (λs15=>St.of [(1000003,.ptr 2008 0 0),(1000006,.ptr 2007 0 0),(1000007,.ptr 2006 0 0),(1000008,.ptr 2005 0 0),(1000026,.fn (.func 224) [.rptr [.I v13.1],.rptr [.I v13.2]]),(0,.fn (.yield l20) []),(1,.rptr [.I v13.1]),(2,.rptr [.I v13.2]),(5,.I v13.1),(6,.I s15)] [(2005,vR (.agg [.I 1,.I a1,.I a2]) 3),(2006,vR (.I 0) 1),(2007,vR (.nl) 1),(2008,vR (.L b8.Pv a0) 1)]) W λs15 x16 h hx26=>S4 1 J<|g9 ?_;refine cN h (λhc h=>?_) λhc h=>?_
   ·refine c8 ?_;refine g9<|k7<|S4 2 J<|drY [] 8 x6 (by kernel_rfl) (by kernel_rfl) (by kernel_rfl) (by kernel_rfl) nl<|S7 3 J<|A9 h λv17 hv27 h=>d2 J (a0e J a9E J hv27) J<|S7 3 J<|A9 h λv18 hv28 h=>d7 J (λ_ hN=>a6l J J hv28) J<|a0Q<|c3L (WE [(1000003,.ptr 2008 0 0),(1000006,.ptr 2007 0 0),(1000007,.ptr 2006 0 0),(1000008,.ptr 2005 0 0),(1000026,.fn (.func 224) [.rptr [.I v13.1],.rptr [.I v13.2]]),(0,.fn (.yield l20) []),(1,.rptr [.I v13.1]),(2,.rptr [.I v13.2]),(5,.I v13.1),(6,.I s15),(9,.fn (.yield l20) []),(16,.I v18)] [(2005,vR (.agg [.I 1,.I a1,.I a2]) 3),(2006,vR (.I 0) 1),(2007,vR (.nl) 1),(2008,vR (.L b8.Pv a0) 1)]) ?_;refine b3G J hR23 J J J J J J (λe29 o30 o31=>?_);refine S6 1 J ?_;refine⟨J,?_⟩;refine k7<|S3 2 J<|iL h J J a0B a0w λv19 _ h=>S2 3 J ?_;refine cN h (λhc h=>?_) λhc h=>?_
    ·refine S3 3 J ?_;refine cF h a5x J J λv20 _ h=>S2 2 J<|b9 ?_;refine⟨J,?_⟩;refine⟨_,b3D [(1000003,.ptr 2008 0 0),(1000006,.ptr 2007 0 0),(1000007,.ptr 2006 0 0),(1000008,.ptr 2005 0 0),(1000026,.fn (.func 224) [.rptr [.I v13.1],.rptr [.I v13.2]]),(0,.fn (.yield l20) []),(1,.rptr [.I v13.1]),(2,.rptr [.I v13.2]),(5,.I v13.1),(6,.I s15),(17,.bool false)] [(2005,vR (.agg [.I 1,.I a1,.I a2]) 3),(2006,vR (.I 0) 1),(2007,vR (.L b8.Pv v20) 1),(2008,vR (.L b8.Pv a0) 1)] ⟨J,J,J,J,J,J,J,J,J,J,J,J,J,J,J,J,J,J,J,J,J,J,J,J,J,J,J,J,J,J,J,J,J,tr⟩ ⟨rS,rS,rS,rS,tr⟩,?_⟩;refine S8 1 J ?_;refine F4 true J (λ_=>?_) (λq=>nomatch q);refine b9 ?_;refine .inr ⟨.ret,J,c5A ?_⟩;have h:=xL hx26 h;cases h;exact⟨J,[_,_],⟨oS J J J b4Y J,⟨oS J J J a5f J,tr⟩⟩,J,io⟩
    ·refine c8 ?_;refine⟨J,?_⟩;refine⟨_,b3D [(1000003,.ptr 2008 0 0),(1000006,.ptr 2007 0 0),(1000007,.ptr 2006 0 0),(1000008,.ptr 2005 0 0),(1000026,.fn (.func 224) [.rptr [.I v13.1],.rptr [.I v13.2]]),(0,.fn (.yield l20) []),(1,.rptr [.I v13.1]),(2,.rptr [.I v13.2]),(5,.I v13.1),(6,.I s15),(17,.bool true)] [(2005,vR (.agg [.I 1,.I a1,.I a2]) 3),(2006,vR (.I 0) 1),(2007,vR (.nl) 1),(2008,vR (.L b8.Pv a0) 1)] ⟨J,J,J,J,J,J,J,J,J,J,J,J,J,J,J,J,J,J,J,J,J,J,J,J,J,J,J,J,J,J,J,J,J,tr⟩ ⟨rS,rS,rS,rS,tr⟩,?_⟩;refine S8 1 J ?_;refine F4 false J (λq=>nomatch q) (λ_=>?_);refine c8<|S6 2 J ?_;exact eL h W
   ·refine w7 ?_;refine j5<|j5<|m9 ?_;refine .inl ⟨J,?_⟩;have h:=xL hx26 h;exact eJ h (WP (λl=>if l=2004 then 2008 else if l=2003 then 2007 else if l=2002 then 2006 else l))

set_option maxHeartbeats 40000000 in
theorem b5m {a0 a1 a2}:PO Tryz.prog 173 [.L b8.Pv a0,.I a1,.I a2] (P8 a0 a1 a2) λr=>.tup [.L b8.Pv r.1,.I r.2.1,.I r.2.2]:=by
 refine pO Tryz.func173 λr h _ _=>?_;refine S4 3 J<|g9<|S4 2 J ?_;refine cN h (λhc h=>?_) λhc h=>?_
 ·refine S4 4 J ?_;refine b9 ?_;cases h;exact f3
 ·refine c8 ?_;refine S3 2 J<|cA h a32 J J λv1 _ h=>S2 5 J<|g9<|S4 2 J ?_;refine cN h (λhc h=>?_) λhc h=>?_
  ·refine S3 2 J ?_;refine cF h a9D J J λv2 _ h=>S2 7 J<|S4 5 J<|b9 ?_;cases h;exact f3
  ·refine c8 ?_;refine S3 3 J<|cF h b68 J J λv3 _ h=>S2 5 J<|g9<|S4 2 J ?_;refine cN h (λhc h=>?_) λhc h=>?_
   ·refine S4 5 J ?_;refine b9 ?_;cases h;exact f3
   ·refine c8 ?_;refine S4 5 J<|b9 ?_;cases h;exact f3

set_option maxHeartbeats 40000000 in
theorem a6t {a0 a1}:PO Tryz.prog 174 [E9.Pv a0,b6.Pv a1] (S0 a0 a1) λr=>b6.Pv r:=by
 refine pO Tryz.func174 λr h _ _=>?_;unfold S0 at h;refine S4 3 J<|S4 4 J<|S4 2 J<|b9 ?_;cases h;exact⟨J,[_],⟨oL J J J o7 n0 nl J,tr⟩,J,io⟩

set_option maxHeartbeats 40000000 in
theorem a0F {a0 a1 a2 a3}:PO Tryz.prog 166 [b6.Pv a0,.I a1,.I a2,.abs (BFn 174 [E9.Pv a3])] (G3 a0 a1 a2 a3) λr=>b6.Pv r:=by
 refine pO Tryz.func166 λr h _ _=>?_;refine S4 2 J<|S3 3 J<|cF h a1e J J λv1 _ h=>A9 h λv2 hv2 h=>b6A (xs:=[b6.Pv v1]) J J c4Q J (a6t.2 _ hv2)<|S1 1 J<|cF h T5 J J λv3 _ h=>S2 1 J<|b9 ?_;cases h;exact⟨J,[_],⟨oL J J J o7 n0 nl J,tr⟩,J,io⟩

set_option maxHeartbeats 40000000 in
theorem b5B {a0 a1 a2}:PO Tryz.prog 128 [b6.Pv a0,.I a1,.I a2] (a3a a0 a1 a2) λr=>.tup [b6.Pv r.1,.I r.2]:=by
 refine pO Tryz.func128 λr h _ _=>?_;refine S4 3 J<|g9<|S4 2 J ?_;refine cN h (λhc h=>?_) λhc h=>?_
 ·refine S4 3 J ?_;refine b9 ?_;cases h;exact⟨J,[_,_],⟨oL J J J o7 n0 nl J,⟨J,tr⟩⟩,J,io⟩
 ·refine c8 ?_;refine g9<|S3 2 J<|cA h Q1 J J λv1 _ h=>S1 2 J<|o5 J (λhg=>oL J J J o7 n0 nl J)<|o5 J (λhg=>mI J)<|A9 h λv2 hv2 h=>o5 J (λhg=>a0e J Q1 (a3W (ct hg) (a3W (ct hg) J)) (a1k hv2 hg))<|o5 J (λhg=>a6m (ct hg) J)<|y0 J (L1 J J J (λq=>eqF q))<|yN ?_;refine cN h (λhc h=>?_) λhc h=>?_
  ·refine S4 3 J ?_;refine b9 ?_;cases h;exact⟨J,[_,_],⟨oL J J J o7 n0 nl J,⟨J,tr⟩⟩,J,io⟩
  ·refine c8 ?_;refine S3 4 J<|cF h b5m J J λv3 _ h=>S2 7 J<|g9<|S4 2 J ?_;refine cN h (λhc h=>?_) λhc h=>?_
   ·refine S4 4 J ?_;refine b9 ?_;cases h;exact⟨J,[_,_],⟨oL J J J o7 n0 nl J,⟨J,tr⟩⟩,J,io⟩
   ·refine c8 ?_;refine S3 4 J<|y0 J (r9 (cs:=[.L b8.Pv v3.1]) J c40 c48 J J J)<|y0 J (b0Q (d:=.agg [.L b8.Pv v3.1]) J)<|cF h a0F J J λv4 _ h=>S2 2 J<|b9 ?_;cases h;exact⟨J,[_,_],⟨oL J J J o7 n0 nl J,⟨J,tr⟩⟩,J,io⟩

set_option maxHeartbeats 40000000 in
theorem a2q {a0}:PO Tryz.prog 72 [o0.Pv a0] (W3 a0) λr=>.tup [b6.Pv r.1,.I r.2]:=by
 refine pO Tryz.func72 λr h _ _=>?_;refine S4 3 J<|S3 5 J<|cA h M9 J J λv1 _ h=>S2 5 J<|g9<|S4 2 J ?_;refine cN h (λhc h=>?_) λhc h=>?_
 ·refine S4 5 J ?_;refine b9 ?_;cases h;exact⟨J,[_,_],⟨oL J J J o7 n0 nl J,⟨J,tr⟩⟩,J,io⟩
 ·refine c8 ?_;refine dr [] x6 (by kernel_rfl) (by kernel_rfl)<|S7 8 J<|A9 h λv2 hv2 h=>d2 J (a0e J J7 J hv2) J<|A9 h λv3 hv3 h=>d2f J (y9 J b5B J hv3) J<|S7 2 J<|D7 (x':=b6.Pv v3.1) (cl':=true) J J (.inr J) n0<|S8 1 J<|b9 ?_;cases h;exact⟨J,[_,_],⟨oL J J J o7 n0 nl J,⟨J,tr⟩⟩,J,io⟩

set_option maxHeartbeats 40000000 in
theorem b5l {a0 a1}:PO Tryz.prog 129 [.L b8.Pv a0,.I a1] (b0A a0 a1) λr=>.tup [.I r.1,.I r.2]:=by
 refine pO Tryz.func129 λr h _ _=>?_;refine S4 2 J<|S3 2 J<|cA h a32 J J λv1 _ h=>S2 4 J<|b9 ?_;cases h;exact f2

set_option maxHeartbeats 40000000 in
theorem a2R {a0}:PO Tryz.prog 73 [o0.Pv a0] (Y8 a0) λr=>.tup [b6.Pv r.1,.I r.2]:=by
 refine pO Tryz.func73 λr h _ _=>?_;refine S4 3 J<|S3 5 J<|cA h M9 J J λv1 _ h=>S2 5 J<|g9<|S4 2 J ?_;refine cN h (λhc h=>?_) λhc h=>?_
 ·refine S4 5 J ?_;refine b9 ?_;cases h;exact⟨J,[_,_],⟨oL J J J o7 n0 nl J,⟨J,tr⟩⟩,J,io⟩
 ·refine c8 ?_;refine dr [] x6 (by kernel_rfl) (by kernel_rfl)<|S7 5 J<|A9 h λv2 hv2 h=>d2 J (a0e J b5l J hv2) J<|S7 2 J<|A9 h λv3 hv3 h=>d2f J (y9 J D9 J hv3) J<|S7 2 J<|D7 (x':=b6.Pv v3.1) (cl':=true) J J (.inr J) n0<|S8 1 J<|b9 ?_;cases h;exact⟨J,[_,_],⟨oL J J J o7 n0 nl J,⟨J,tr⟩⟩,J,io⟩

set_option maxHeartbeats 40000000 in
theorem a1C {a0}:PO Tryz.prog 74 [o0.Pv a0] (L6 a0) λr=>.tup [b6.Pv r.1,.I r.2]:=by
 refine pO Tryz.func74 λr h _ _=>?_;unfold L6 at h;refine S4 3 J<|S4 4 J<|b9 ?_;cases h;exact⟨J,[_,_],⟨oL J J J o7 n0 nl J,⟨J,tr⟩⟩,J,io⟩

set_option maxHeartbeats 40000000 in
theorem b8H {f:Fv} {a0:o0} {r:b6 × Int} (h:b1X f a0=some r):∃n,f=some n∧A0 Tryz.prog n∧U7 Tryz.prog n [o0.Pv a0] (.tup [b6.Pv r.1,.I r.2]):=by
 unfold b1X at h;by_cases e65:f=some 65
 ·rw[if_pos e65] at h;exact⟨65,e65,(@a1h a0).1,(@a1h a0).2 _ h⟩
 rw[if_neg e65] at h;by_cases e66:f=some 66
 ·rw[if_pos e66] at h;exact⟨66,e66,(@Z8 a0).1,(@Z8 a0).2 _ h⟩
 rw[if_neg e66] at h;by_cases e67:f=some 67
 ·rw[if_pos e67] at h;exact⟨67,e67,(@a2o a0).1,(@a2o a0).2 _ h⟩
 rw[if_neg e67] at h;by_cases e68:f=some 68
 ·rw[if_pos e68] at h;exact⟨68,e68,(@a2p a0).1,(@a2p a0).2 _ h⟩
 rw[if_neg e68] at h;by_cases e69:f=some 69
 ·rw[if_pos e69] at h;exact⟨69,e69,(@a1D a0).1,(@a1D a0).2 _ h⟩
 rw[if_neg e69] at h;by_cases e70:f=some 70
 ·rw[if_pos e70] at h;exact⟨70,e70,(@a1i a0).1,(@a1i a0).2 _ h⟩
 rw[if_neg e70] at h;by_cases e71:f=some 71
 ·rw[if_pos e71] at h;exact⟨71,e71,(@a3x a0).1,(@a3x a0).2 _ h⟩
 rw[if_neg e71] at h;by_cases e72:f=some 72
 ·rw[if_pos e72] at h;exact⟨72,e72,(@a2q a0).1,(@a2q a0).2 _ h⟩
 rw[if_neg e72] at h;by_cases e73:f=some 73
 ·rw[if_pos e73] at h;exact⟨73,e73,(@a2R a0).1,(@a2R a0).2 _ h⟩
 rw[if_neg e73] at h;by_cases e74:f=some 74
 ·rw[if_pos e74] at h;exact⟨74,e74,(@a1C a0).1,(@a1C a0).2 _ h⟩
 rw[if_neg e74] at h;cases h

set_option maxHeartbeats 40000000 in
theorem a4C {a0}:PO Tryz.prog 97 [.I a0] (a0l a0) λr=>.bool r:=by
 refine pO Tryz.func97 λr h _ _=>?_;unfold a0l at h;refine S4 1 J<|S4 4 J<|b9 ?_;cases h;exact f1

set_option maxHeartbeats 40000000 in
theorem a8M {a0 a1}:PO Tryz.prog 53 [.I a0,.I a1] (a2B a0 a1) λr=>.I r:=by
 refine pO Tryz.func53 λr h _ _=>?_;refine S4 1 J<|S3 1 J<|cA h a4C J J λv1 _ h=>S2 1 J<|S3 1 J<|cA h a4C J J λv2 _ h=>S2 1 J<|g9<|S4 1 J ?_;refine cN h (λhc h=>?_) λhc h=>?_
 ·refine g9 ?_;refine S4 1 J ?_;refine cN h (λhc h=>?_) λhc h=>?_
  ·refine S4 1 J ?_;refine b9 ?_;cases h;exact f1
  ·refine c8 ?_;refine S4 1 J<|b9 ?_;cases h;exact f1
 ·refine c8 ?_;refine g9<|S4 1 J ?_;refine cN h (λhc h=>?_) λhc h=>?_
  ·refine S4 1 J ?_;refine b9 ?_;cases h;exact f1
  ·refine c8 ?_;refine g9<|S4 3 J ?_;refine cN h (λhc h=>?_) λhc h=>?_
   ·refine S4 1 J ?_;refine b9 ?_;cases h;exact f1
   ·refine c8 ?_;refine g9<|S4 3 J ?_;refine cN h (λhc h=>?_) λhc h=>?_
    ·refine S4 1 J ?_;refine b9 ?_;cases h;exact f1
    ·refine c8 ?_;refine S4 1 J<|b9 ?_;cases h;exact f1

set_option maxHeartbeats 40000000 in
theorem b1O {a0 a1 a2}:PO Tryz.prog 52 [.I a0,.I a1,.rptr [.abs (T3 (List.map (ent iF iF) a2))]] (a27 a0 a1 a2) λr=>.I r:=by
 refine pO Tryz.func52 λr h _ _=>?_;refine S4 1 J<|S3 2 J<|y0 J (b7q (es:=a2) (k:=a0) (E:=iF) (EK:=iF) (d:=.I ((y7 a2 a0).getD (0:Int))) J J b2o (u9 I2) E5 J (lk1 _ _ _))<|S1 2 J<|y0 J (b7q (es:=a2) (k:=a1) (E:=iF) (EK:=iF) (d:=.I ((y7 a2 a1).getD (0:Int))) J J b2o (u9 I2) E5 J (lk1 _ _ _))<|cA h a8M J J λv1 _ h=>S2 1 J<|b9 ?_;cases h;exact f1

set_option maxHeartbeats 40000000 in
theorem L3 {a0}:PO Tryz.prog 33 [a7.Pv a0] (C1 a0) λr=>.L iF r:=by
 refine pO Tryz.func33 λr h _ _=>?_;refine S4 2 J<|S4 1 J<|sR<|b8c (KT:=Int) (VT:=Int) (EK:=iF) (E:=iF) 5000008 J J<|S2 2 J ?_;refine jq h (λq=>St.of [(3,.sl 910003),(4,.ptr 4 0 0)] [(4,vS (.mp 5000008) 1),(5000008,⟨[.mapc (List.map (ent iF iF) q.1)],0,false,0,false⟩),(910003,⟨List.map iF q.2,0,true,1,true⟩)]) (λq20 h=>?_) λκ17 h=>?_
 ·obtain⟨j18,j19⟩:=q20;refine S3 2 J<|O9 (Wk.trans (c6F 5000008 nl J) (c9l 4 0 5000008 J J J J))<|A9 h λv21 hv12 h=>c9o hv12 J J c7s c9a J J J c7t J J J J J (λp q r h=>b1O.2 r h)<|yN<|S4 2 J<|b9 ?_;cases h;exact f1
 ·refine S3 3 J ?_;refine nL J P5<|S2 1 J<|k7<|lq h (λq=>St.of [(3,.sl 910003),(4,.ptr 4 0 0),(11,.L b7.Pv a0.S.a8),(12,.I (a0.S.a8.length:Int)),(13,.I q.1)] [(4,vS (.mp 5000008) 1),(5000008,⟨[.mapc (List.map (ent iF iF) q.2.1)],0,false,0,false⟩),(910003,⟨List.map iF q.2.2,0,true,1,true⟩)]) (Wk.trans (Y1 (t:=3) (l:=920003) (z:=1) J J) (WP (λl=>if l=910003 then 920003 else l))) λq27 x26 h hx15=>?_;obtain⟨s23,s24,s25⟩:=q27;refine S4 1 J<|g9 ?_;refine cN h (λhc h=>?_) λhc h=>?_
  ·refine c8 ?_;refine jq h (λq=>St.of [(3,.sl 33),(4,.ptr 4 0 0),(11,.L b7.Pv a0.S.a8),(12,.I (a0.S.a8.length:Int)),(13,.I s23)] [(4,vS (.mp 5000008) 1),(5000008,⟨[.mapc (List.map (ent iF iF) q.1)],0,false,0,false⟩),(33,⟨List.map iF q.2,0,true,1,true⟩)]) (λq34 h=>?_) λκ31 h=>?_
   ·obtain⟨j32,j33⟩:=q34;refine S6 2 J ?_;exact eL h (WP (λl=>if l=910003 then 33 else l))
   ·refine k7 ?_;refine S3 1 J<|iL h J J P5 a0a λv35 _ h=>S2 4 J<|S4 3 J ?_;refine cN h (λhc h=>?_) λhc h=>?_
    ·refine S3 3 J ?_;refine cA h a6P J J λv36 _ h=>S2 1 J<|S3 5 J<|a0i (es:=s24) (k:=v36) (v:=v35.Val.Serial) (E:=iF) (EK:=iF) (.inl J) J J J J J J b2o (u9 I2)<|yN<|S5 2 J<|y0 J (a0d (f:=iF) (l:=[v36]) J l7 p9 E5 J J nl J J)<|A9 h λv37 hv22 h=>d0x (f:=iF) (b:=8) [(4,.ptr 4 0 0),(11,.L b7.Pv a0.S.a8),(12,.I (a0.S.a8.length:Int)),(13,.I s23),(14,.bool (decide (s23<(a0.S.a8.length:Int)))),(15,.I s23),(16,.rptr (b7.Pc v35)),(17,b7.Pv v35),(6,.ptr 6 0 0),(5,.I s23),(18,.ptr 6 0 0),(19,.I v35.State),(20,.bool (v35.State==1)),(21,.I s23),(22,.ptr 6 0 1),(23,.I v35.Gen),(24,.I v36),(7,.I v36),(25,.mp 5000008),(26,.I v36),(27,.ptr 6 0 2),(28,.ptr 6 0 2),(29,.I v35.Val.Serial),(31,.I v36),(32,.M3 true (List.map iF [v36]))] [(6,vR (b7.Pv v35) 8),(5000008,⟨[.mapc (List.map (ent iF iF) (n8 s24 v36 v35.Val.Serial))],0,false,0,false⟩),(4,vS (.mp 5000008) 1)] J hv22 ⟨J,J,J,J,J,J,J,J,J,J,J,J,J,J,J,J,J,J,J,J,J,J,J,J,J,J,J,J,J,J,J,J,J,J,J,J,J,J,J,J,J,J,J,J,J,J,J,J,J,J,J,J,J,J,J,J,J,J,J,J,J,J,J,J,J,J,J,J,J,J,J,J,J,J,J,tr⟩ ⟨rS,a1Z J J J (λq=>nomatch q) J J J J,a1Z J J J (λq=>nomatch q) J J J J,tr⟩ J J J J (.inl ⟨_,J,J⟩) l7 p9 Z6 E5 J (λ_=>J)<|S2 1 J ?_;exact eJ h W
    ·refine c8 ?_;exact eJ h (WP (λl=>if l=33 then 910003 else l))
  ·refine w7 ?_;refine j5<|j5<|m9 ?_;have h:=xL hx15 h;exact eJ h W

set_option maxHeartbeats 40000000 in
theorem b3q {a0}:PO Tryz.prog 75 [b6.Pv a0] (a00 a0) λr=>.L iF r:=by
 refine pO Tryz.func75 λr h _ _=>?_;refine S4 2 J<|S4 1 J ?_;refine jq h (λj16=>St.of [(3,.sl 910003)] [(910003,⟨List.map iF j16,(List.map iF j16).length,true,1,true⟩)]) (λj16 h=>?_) λκ15 h=>?_
 ·refine S4 2 J ?_;refine b9 ?_;cases h;exact f1
 ·refine S3 2 J ?_;refine cF h L3 J J λv17 _ h=>nL J l7<|S2 1 J<|k7<|lq h (λq=>St.of [(1,.ptr 1 0 0),(3,.sl 910003),(10,.L iF v17),(11,.I (v17.length:Int)),(12,.I q.1)] [(1,vR (b6.Pv a0) 8),(910003,⟨List.map iF q.2,(List.map iF q.2).length,true,1,true⟩)]) (Wk.trans (Y1 (t:=3) (l:=920003) (z:=1) J J) (WP (λl=>if l=910003 then 920003 else l))) λq22 x21 h hx16=>?_;obtain⟨s19,s20⟩:=q22;refine S4 1 J<|g9 ?_;refine cN h (λhc h=>?_) λhc h=>?_
  ·refine c8 ?_;refine jq h (λj27=>St.of [(1,.ptr 1 0 0),(3,.sl 29),(10,.L iF v17),(11,.I (v17.length:Int)),(12,.I s19)] [(29,⟨List.map iF j27,(List.map iF j27).length,true,1,true⟩),(1,vR (b6.Pv a0) 8)]) (λj27 h=>?_) λκ26 h=>?_
   ·refine S6 2 J ?_;exact eL h (Wk.trans (p7 _ [29]) (WP (λl=>if l=910003 then 29 else l)))
   ·refine k7 ?_;refine sR<|iL h J J l7 p9 λv28 _ h=>S2 2 J<|S3 3 J<|cF h z7 J J λv29 _ h=>S2 6 J<|S4 3 J ?_;refine cN h (λhc h=>?_) λhc h=>?_
    ·refine S5 2 J ?_;refine y0 J (a0d (f:=iF) (l:=[v28]) J l7 p9 E5 J J nl J J)<|A9 h λv30 hv23 h=>a1H J (a1j (f:=iF) hv23 J J J J J J (.inl ⟨_,J,J⟩) l7 p9 Z6 E5 J (λ_=>J)) J J J<|S2 1 J ?_;exact eJ h (Wk.trans (p7 _ [29]) W)
    ·refine c8 ?_;exact eJ h (Wk.trans (p7 _ [910003]) (WP (λl=>if l=29 then 910003 else l)))
  ·refine w7 ?_;refine j5<|j5<|m9 ?_;have h:=xL hx16 h;exact eJ h (Wk.trans (p7 _ [910003]) W)

set_option maxHeartbeats 40000000 in
theorem a4e {a0}:PO Tryz.prog 76 [l4.Pv a0] (I6 a0) λr=>.bool r:=by
 refine pO Tryz.func76 λr h _ _=>?_;unfold I6 at h;refine S4 2 J<|S3 4 J<|o5 J (λhg=>oF J b6O J)<|o5 J (λhg=>oS (ct hg) J J b6M J)<|o5 J (λhg=>a6m (ct hg) J)<|y0 J (Q6 J J J (λq=>eqT q))<|S2 1 J<|b9 ?_;cases h;exact f1

set_option maxHeartbeats 40000000 in
theorem K7 {a0}:PO Tryz.prog 177 [c5.Pv a0] (F8 a0) λr=>.I r:=by
 refine pO Tryz.func177 λr h _ _=>?_;unfold F8 at h;refine S4 2 J<|S3 2 J<|nL J a6A<|S2 1 J<|b9 ?_;cases h;exact f1

set_option maxHeartbeats 40000000 in
theorem Q8 {a0 a1 a2}:PO Tryz.prog 178 [.L g7.Pv a0,.I a1,.I a2] (C7 a0 a1 a2) λr=>.M3 true (List.map g7.Pv r):=by
 refine pO Tryz.func178 λr h _ _=>?_;unfold C7 at h;refine S4 1 J<|S3 4 J<|A9 h λv1 hv1 h=>y0 J (c3v (f:=g7.Pv) hv1 J ⟨_,J⟩ ⟨_,J⟩ ⟨_,J⟩ J J a6A J1 (λ_=>J))<|S2 1 J<|b9 ?_;cases h;exact f1

set_option maxHeartbeats 40000000 in
theorem a4Q {a0 a1}:PO Tryz.prog 131 [c5.Pv a0,g7.Pv a1] (N4 a0 a1) λr=>.tup [c5.Pv r.1,.I r.2]:=by
 refine pO Tryz.func131 λr h _ _=>?_;unfold N4 at h;refine S4 4 J<|g9<|dr [] x6 (by kernel_rfl) (by kernel_rfl)<|S7 1 J<|A9 h λv1 hv1 h=>d2 J (a0e J K7 J hv1) J<|S8 3 J ?_;refine cN h (λhc h=>?_) λhc h=>?_
 ·refine S4 3 J ?_;refine b9 ?_;cases h;exact⟨J,[_,_],⟨oL J J J a4l a07 nl J,⟨J,tr⟩⟩,J,io⟩
 ·refine c8 ?_;refine dr [] x6 (by kernel_rfl) (by kernel_rfl)<|S7 3 J<|d2 J (a0e J K7 J hv1) J<|A9 h λv2 hv2 h=>d2f J (y9 J Q8 J hv2) J<|S7 1 J<|d1n J (a0d (f:=g7.Pv) (l:=[a1]) J a6A J1 a9j J J nl J J) J<|A9 h λv3 hv3 h=>d3 J (b7p (f:=g7.Pv) hv3 J J (.inl ⟨_,J,J⟩) a6A J1 c4O a9j J (λ_=>J)) J J J<|S7 1 J<|D7 (x':=.agg [.sl 19,.I a0.Cap]) (cl':=false) J J (.inl J) c17<|a0Q<|S4 3 J<|b9 ?_;cases h;exact⟨J,[_,_],⟨oL J J J a4l a07 nl J,⟨J,tr⟩⟩,J,io⟩

set_option maxHeartbeats 40000000 in
theorem b1z {a0 a1}:PO Tryz.prog 82 [c5.Pv a0,g7.Pv a1] (a7r a0 a1) λr=>.tup [c5.Pv r.1,.I r.2]:=by
 refine pO Tryz.func82 λr h _ _=>?_;refine S4 4 J<|S3 2 J<|cF h a4Q J J λv1 _ h=>S2 4 J<|b9 ?_;cases h;exact⟨J,[_,_],⟨oL J J J a4l a07 nl J,⟨J,tr⟩⟩,J,io⟩

set_option maxHeartbeats 40000000 in
theorem a41 {a0 a1}:PO Tryz.prog 45 [b6.Pv a0,.I a1] (O6 a0 a1) λr=>b6.Pv r:=by
 refine pO Tryz.func45 λr h _ _=>?_;refine S4 2 J<|S3 3 J<|cF h z7 J J λv1 _ h=>S2 6 J<|g9<|S3 3 J<|o5 J (λhg=>oL J J J b2m a6C nl J)<|A9 h λv2 hv2 h=>o5 J (λhg=>a0e J a4e (a3W (ct hg) J) (a1k hv2 hg))<|o5 J (λhg=>a6m (ct hg) J)<|y0 J (L1 J J J (λq=>eqF q))<|yN ?_;refine cN h (λhc h=>?_) λhc h=>?_
 ·refine S4 2 J ?_;refine b9 ?_;cases h;exact⟨J,[_],⟨oL J J J o7 n0 nl J,tr⟩,J,io⟩
 ·refine c8 ?_;refine S4 2 J<|S3 4 J<|cF h Z4 J J λv3 _ h=>S2 5 J<|S3 5 J<|y0 J (r9 (cs:=[.I 1,.I a1,.I v1.1.Prog]) J b41 a9j J J J)<|cF h b1z J J λv4 _ h=>S2 5 J<|S3 2 J<|cF h a1e J J λv5 _ h=>S2 1 J<|b9 ?_;cases h;exact⟨J,[_],⟨oL J J J o7 n0 nl J,tr⟩,J,io⟩

set_option maxHeartbeats 40000000 in
theorem a8i {a0 a1}:PO Tryz.prog 84 [b6.Pv a0,.L iF a1] (R1 a0 a1) λr=>.L iF r:=by
 refine pO Tryz.func84 λr h _ _=>?_;refine S4 2 J<|sR<|b8c (KT:=Int) (VT:=Bool) (EK:=iF) (E:=PV.bool) 5000011 J J<|S2 1 J<|S4 1 J ?_;refine jq h (λj18=>St.of [(6,.sl 910006)] [(910006,⟨List.map iF j18,(List.map iF j18).length,true,1,true⟩)]) (λj18 h=>?_) λκ17 h=>?_
 ·refine S4 2 J ?_;refine b9 ?_;cases h;exact f1
 ·refine S3 1 J ?_;refine nL J l7<|S2 1 J<|k7<|lq h (λq=>St.of [(2,.ptr 2 0 0),(5,.mp 5000011),(6,.sl 910006),(12,.L iF a1),(13,.I (a1.length:Int)),(14,.I q.1)] [(5000011,⟨[.mapc (List.map (ent iF PV.bool) q.2.1)],0,false,0,false⟩),(2,vR (b6.Pv a0) 8),(910006,⟨List.map iF q.2.2,(List.map iF q.2.2).length,true,1,true⟩)]) (Wk.trans (Y1 (t:=6) (l:=920006) (z:=1) J J) (WP (λl=>if l=910006 then 920006 else l))) λq24 x23 h hx16=>?_;obtain⟨s20,s21,s22⟩:=q24;refine S4 1 J<|g9 ?_;refine cN h (λhc h=>?_) λhc h=>?_
  ·refine c8 ?_;refine jq h (λq=>St.of [(2,.ptr 2 0 0),(5,.mp 5000011),(6,.sl 38),(12,.L iF a1),(13,.I (a1.length:Int)),(14,.I s20)] [(38,⟨List.map iF q.1,(List.map iF q.1).length,true,1,true⟩),(5000011,⟨[.mapc (List.map (ent iF PV.bool) q.2)],0,false,0,false⟩),(2,vR (b6.Pv a0) 8)]) (λq31 h=>?_) λκ28 h=>?_
   ·obtain⟨j29,j30⟩:=q31;refine S6 2 J ?_;exact eL h (Wk.trans (p7 _ [38]) (WP (λl=>if l=910006 then 38 else l)))
   ·refine k7 ?_;refine sR<|iL h J J l7 p9 λv32 _ h=>S2 2 J<|S3 3 J<|cF h z7 J J λv33 _ h=>S2 6 J<|S3 3 J<|o5 J (λhg=>om (d:=.mp 5000011) J)<|o5 J (λhg=>mI J) ?_;rcases Bool.eq_false_or_eq_true ((v33.2==0)==true) with hg24 | hg24
    ·have h:=ifT h hg24;refine c4C (es:=s21) (k:=v32) (E:=PV.bool) (EK:=iF) (d:=.bool ((y7 s21 v32).getD (false:Bool))) (congrArg some hg24) (ct hg24) J (ct hg24) a2g (u9 I2) b6Q J (lk1 _ _ _)<|y0 (congrArg some hg24) (a6m J J)<|y0 J (a5J J J hg24)<|yN ?_;refine cN h (λhc h=>?_) λhc h=>?_
     ·refine S3 2 J ?_;refine a0i (es:=s21) (k:=v32) (v:=true) (E:=PV.bool) (EK:=iF) (.inl J) J J J J J J a2g (u9 I2)<|yN<|S5 2 J<|y0 J (a0d (f:=iF) (l:=[v32]) J l7 p9 E5 J J nl J J)<|A9 h λv34 hv25 h=>a1H J (a1j (f:=iF) hv25 J J J J J J (.inl ⟨_,J,J⟩) l7 p9 Z6 E5 J (λ_=>J)) J J J<|S2 1 J ?_;exact eJ h (Wk.trans (p7 _ [38]) W)
     ·refine c8 ?_;exact eJ h (Wk.trans (p7 _ [910006]) (WP (λl=>if l=38 then 910006 else l)))
    ·have h:=ifF h hg24;refine a14 (congrArg some hg24)<|a14 (congrArg some hg24)<|y0 J (a7K J J hg24)<|yN ?_;refine F4 false J (λq=>nomatch q) (λ_=>?_);refine c8 ?_;exact eJ h (Wk.trans (p7 _ [910006]) (WP (λl=>if l=38 then 910006 else l)))
  ·refine w7 ?_;refine j5<|j5<|m9 ?_;have h:=xL hx16 h;exact eJ h (Wk.trans (p7 _ [910006]) W)

set_option maxHeartbeats 40000000 in
theorem a43 {a0 a1}:PO Tryz.prog 210 [.L iF a0,.I a1] (N8 a0 a1) λr=>.I r:=by
 refine pO Tryz.func210 λr h _ _=>?_;refine S4 1 J ?_;refine jq h (λ_=>St.of [] []) (λq6 h=>?_) λκ5 h=>?_
 ·refine S4 1 J ?_;refine b9 ?_;cases h;exact f1
 ·refine S3 1 J ?_;refine nL J l7<|S2 1 J<|k7<|lq h (λs8=>St.of [(0,.L iF a0),(1,.I a1),(7,.I (a0.length:Int)),(8,.I s8)] []) W λs8 x9 h hx8=>S4 1 J<|g9 ?_;refine cN h (λhc h=>?_) λhc h=>?_
  ·refine c8 ?_;refine g9<|k7<|S4 2 J<|S3 3 J<|iL h J J l7 p9 λv10 _ h=>S2 2 J ?_;refine cN h (λhc h=>?_) λhc h=>?_
   ·refine S4 2 J ?_;refine b9 ?_;have h:=xL hx8 h;cases h;exact f1
   ·refine c8 ?_;refine S6 2 J ?_;exact eL h W
  ·refine w7 ?_;refine j5<|j5<|m9 ?_;have h:=xL hx8 h;exact eJ h W

set_option maxHeartbeats 40000000 in
theorem M1 {a0 a1}:PO Tryz.prog 182 [.L iF a0,.I a1] (C5 a0 a1) λr=>.bool r:=by
 refine pO Tryz.func182 λr h _ _=>?_;refine S4 1 J<|S3 2 J<|cA h a43 J J λv1 _ h=>S2 2 J<|b9 ?_;cases h;exact f1

set_option maxHeartbeats 40000000 in
theorem b1Q {a0 a1}:PO Tryz.prog 181 [c7.Pv a0,.rptr [.L iF a1]] (Z5 a0 a1) λr=>.bool r:=by
 refine pO Tryz.func181 λr h _ _=>?_;unfold Z5 at h;refine S4 2 J<|S3 3 J<|o5 J (λhg=>oF J b4a J)<|o5 J (λhg=>oS (ct hg) J J L0 J)<|o5 J (λhg=>E6 (ct hg) J J)<|y0 J (Q6 J J J (λq=>eqT q))<|S1 1 J<|o5 J (λhg=>N2 J b8i J)<|o5 J (λhg=>oF J b4a J)<|o5 J (λhg=>oS (ct hg) J J L0 J)<|A9 h λv1 hv1 h=>o5 J (λhg=>a0e J M1 (a3W (ct hg) (a3W (ct hg) J)) (a1k hv1 hg))<|y0 J (Q6 J J J (λq=>eqT q))<|S2 1 J<|b9 ?_;cases h;exact f1

set_option maxHeartbeats 40000000 in
theorem a2O {a0 a1}:PO Tryz.prog 180 [.L c7.Pv a0,.fn (.func 181) [.rptr [.L iF a1]]] (G6 a0 a1) λr=>.L iF r:=by
 refine pO Tryz.func180 λr h _ _=>?_;refine S4 1 J<|S4 1 J ?_;refine jq h (λj15=>St.of [(5,.sl 910005)] [(910005,⟨List.map iF j15,(List.map iF j15).length,true,1,true⟩)]) (λj15 h=>?_) λκ14 h=>?_
 ·refine S4 2 J ?_;refine b9 ?_;cases h;exact f1
 ·refine S3 1 J ?_;refine nL J U8<|S2 1 J<|k7<|lq h (λq=>St.of [(1,.fn (.func 181) [.rptr [.L iF a1]]),(5,.sl 910005),(8,.L c7.Pv a0),(9,.I (a0.length:Int)),(10,.I q.1)] [(910005,⟨List.map iF q.2,(List.map iF q.2).length,true,1,true⟩)]) (Wk.trans (Y1 (t:=5) (l:=920005) (z:=1) J J) (WP (λl=>if l=910005 then 920005 else l))) λq20 x19 h hx14=>?_;obtain⟨s17,s18⟩:=q20;refine S4 1 J<|g9 ?_;refine cN h (λhc h=>?_) λhc h=>?_
  ·refine c8 ?_;refine jq h (λj25=>St.of [(1,.fn (.func 181) [.rptr [.L iF a1]]),(5,.sl 21),(8,.L c7.Pv a0),(9,.I (a0.length:Int)),(10,.I s17)] [(21,⟨List.map iF j25,(List.map iF j25).length,true,1,true⟩)]) (λj25 h=>?_) λκ24 h=>?_
   ·refine S6 2 J ?_;exact eL h (Wk.trans (p7 _ [21]) (WP (λl=>if l=910005 then 21 else l)))
   ·refine k7 ?_;refine S3 1 J<|iL h J J U8 V9 λv26 _ h=>S2 4 J<|S3 2 J<|cA h b1Q J J λv27 _ h=>yN ?_;refine cN h (λhc h=>?_) λhc h=>?_
    ·refine S5 2 J ?_;refine y0 J (a0d (f:=iF) (l:=[s17]) J l7 p9 E5 J J nl J J)<|A9 h λv28 hv21 h=>a1H J (a1j (f:=iF) hv21 J J J J J J (.inl ⟨_,J,J⟩) l7 p9 Z6 E5 J (λ_=>J)) J J J<|S2 1 J ?_;exact eJ h (Wk.trans (p7 _ [21]) W)
    ·refine c8 ?_;exact eJ h (Wk.trans (p7 _ [910005]) (WP (λl=>if l=21 then 910005 else l)))
  ·refine w7 ?_;refine j5<|j5<|m9 ?_;have h:=xL hx14 h;exact eJ h (Wk.trans (p7 _ [910005]) W)

set_option maxHeartbeats 40000000 in
theorem b39 {a0 a1}:PO Tryz.prog 134 [.L c7.Pv a0,.L iF a1] (a3M a0 a1) λr=>.tup [.L c7.Pv r.1,.L iF r.2]:=by
 refine pO Tryz.func134 λr h _ _=>?_;unfold a3M at h;refine S4 3 J<|S3 2 J<|A9 h λv1 hv1 h=>ycL J (y9 J a2O J hv1) J<|S2 1 J<|S3 1 J<|A9 h λv2 hv2 h=>ycN J (b4E J a6q J hv2) J J<|S2 1 J<|S4 1 J ?_;refine jq h (λq=>St.of [(7,.sl 15),(8,.sl 910008)] [(910008,⟨List.map iF q.1,(List.map iF q.1).length,true,1,true⟩),(15,⟨List.map c7.Pv q.2,0,true,3,true⟩)]) (λq24 h=>?_) λκ21 h=>?_
 ·obtain⟨j22,j23⟩:=q24;refine S4 4 J<|b9 ?_;cases h;exact f2
 ·refine S3 1 J ?_;refine nL J l7<|S2 1 J<|k7<|lq h (λq=>St.of [(7,.sl 15),(8,.sl 910008),(16,.L iF v1),(17,.I (v1.length:Int)),(18,.I q.1)] [(15,⟨List.map c7.Pv q.2.1,0,true,3,true⟩),(910008,⟨List.map iF q.2.2,(List.map iF q.2.2).length,true,1,true⟩)]) (Wk.trans (Y1 (t:=8) (l:=920008) (z:=1) J J) (WP (λl=>if l=910008 then 920008 else l))) λq30 x29 h hx18=>?_;obtain⟨s26,s27,s28⟩:=q30;refine S4 1 J<|g9 ?_;refine cN h (λhc h=>?_) λhc h=>?_
  ·refine c8 ?_;refine jq h (λq=>St.of [(7,.sl 15),(8,.sl 35),(16,.L iF v1),(17,.I (v1.length:Int)),(18,.I s26)] [(35,⟨List.map iF q.1,(List.map iF q.1).length,true,1,true⟩),(15,⟨List.map c7.Pv q.2,0,true,3,true⟩)]) (λq38 h=>?_) λκ35 h=>?_
   ·obtain⟨j36,j37⟩:=q38;refine S6 2 J ?_;exact eL h (Wk.trans (p7 _ [35]) (WP (λl=>if l=910008 then 35 else l)))
   ·refine k7 ?_;refine sR<|iL h J J l7 p9 λv39 _ h=>S2 2 J<|S3 2 J<|A9 h λv40 hv25 h=>y0 J (a8A (f:=c7.Pv) hv25 J J J J U8 V9 J)<|S1 1 J<|b3F (f:=c7.Pv) (v:=(⟨v40.Target,false,v40.Call⟩:c7)) hv25 J J (.inl J) c9y<|yN<|S3 2 J<|A9 h λv41 hv26 h=>y0 J (a8A (f:=c7.Pv) hv26 J J J J U8 V9 J)<|S1 1 J<|y0 J (c3w (f:=c7.Pv) hv26 J J J L0 J)<|S2 1 J ?_;refine cN h (λhc h=>?_) λhc h=>?_
    ·refine S5 2 J ?_;refine y0 J (a0d (f:=iF) (l:=[v39]) J l7 p9 E5 J J nl J J)<|A9 h λv42 hv27 h=>a1H J (a1j (f:=iF) hv27 J J J J J J (.inl ⟨_,J,J⟩) l7 p9 Z6 E5 J (λ_=>J)) J J J<|S2 1 J ?_;exact eJ h (Wk.trans (p7 _ [35]) W)
    ·refine c8 ?_;exact eJ h (Wk.trans (p7 _ [910008]) (WP (λl=>if l=35 then 910008 else l)))
  ·refine w7 ?_;refine j5<|j5<|m9 ?_;have h:=xL hx18 h;exact eJ h (Wk.trans (p7 _ [910008]) W)

set_option maxHeartbeats 40000000 in
theorem b0g {a0 a1}:PO Tryz.prog 85 [b6.Pv a0,.L iF a1] (a1s a0 a1) λr=>b6.Pv r:=by
 refine pO Tryz.func85 λr h _ _=>?_;refine S4 2 J<|S3 3 J<|cF h b39 J J λv1 _ h=>S2 5 J<|S4 3 J ?_;refine jq h (λj11=>St.of [(2,.ptr 2 0 0),(4,.ptr 4 0 0)] [(4,vR (.agg [.nl,.I 0,.I 0,.nl,.nl,.nl,.nl,.I 0]) 8),(2,vR (.agg [.L b7.Pv a0.S.S.a8,.I a0.S.S.Last,.I a0.S.Serial,.L iF a0.Roots,.L c7.Pv v1.1,.L b8.Pv a0.T,.L g7.Pv j11.L,.I j11.Cap]) 8)]) (λj11 h=>?_) λκ10 h=>?_
 ·refine S4 2 J ?_;refine b9 ?_;cases h;exact⟨J,[_],⟨oL J J J o7 n0 nl J,tr⟩,J,io⟩
 ·refine S3 1 J ?_;refine nL J l7<|S2 1 J<|k7<|lq h (λq=>St.of [(2,.ptr 2 0 0),(4,.ptr 4 0 0),(5,.L c7.Pv v1.1),(18,.L iF v1.2),(19,.I (v1.2.length:Int)),(20,.I q.1)] [(4,vR (.agg [.nl,.I 0,.I 0,.nl,.nl,.nl,.nl,.I 0]) 8),(2,vR (.agg [.L b7.Pv a0.S.S.a8,.I a0.S.S.Last,.I a0.S.Serial,.L iF a0.Roots,.L c7.Pv v1.1,.L b8.Pv a0.T,.L g7.Pv q.2.L,.I q.2.Cap]) 8)]) W λq16 x15 h hx11=>?_;obtain⟨s13,s14⟩:=q16;refine S4 1 J<|g9 ?_;refine cN h (λhc h=>?_) λhc h=>?_
  ·refine c8 ?_;refine g9<|k7<|sR<|iL h J J l7 p9 λv17 _ h=>S2 2 J<|b5W [] x6 (by kernel_rfl) (by kernel_rfl)<|S7 5 J<|A9 h λv18 hv13 h=>d0 J (Q5 (f:=c7.Pv) (cs:=c7.Pc v18) hv13 J J U8 V9 J J) J<|S7 2 J<|d7 J (λ_ hN=>r9 (cs:=[.I 2,.I v17,.I v18.Call]) J b41 a9j J J J) J<|A9 h λv19 hv14 h=>d2f J (y9 J b1z J hv14) J<|S7 4 J<|D7 (x':=.agg [.L b7.Pv a0.S.S.a8,.I a0.S.S.Last,.I a0.S.Serial,.L iF a0.Roots,.L c7.Pv v1.1,.L b8.Pv a0.T,.L g7.Pv v19.1.L,.I v19.1.Cap]) (cl':=true) J J (.inr J) a07<|a0Q<|S6 2 J ?_;exact eL h W
  ·refine w7 ?_;refine j5<|j5<|m9 ?_;have h:=xL hx11 h;exact eJ h W

set_option maxHeartbeats 40000000 in
theorem b6y {a0}:PO Tryz.prog 135 [.L iF a0] (a79 a0) λr=>.fn (.func 184) [.rptr [.L iF r]]:=by
 refine pO Tryz.func135 λr h _ _=>?_;unfold a79 at h;refine S4 2 J<|S4 2 J<|b9 ?_;cases h;exact f1

set_option maxHeartbeats 40000000 in
theorem b0p {a0}:PO Tryz.prog 87 [.L iF a0] (a3l a0) λr=>.L iF r:=by
 refine pO Tryz.func87 λr h _ _=>?_;refine S4 1 J<|S4 1 J ?_;refine jq h (λj10=>St.of [(3,.ptr 2001 0 0)] [(2001,vS (.sl 912501) 1),(912501,⟨List.map iF j10,(List.map iF j10).length,true,1,true⟩)]) (λj10 h=>?_) λκ9 h=>?_
 ·refine S4 2 J ?_;refine b9 ?_;cases h;exact f1
 ·refine S3 1 J ?_;refine cF h b6y J J λv11 _ h=>yN<|k7<|a2s (WPE (λl=>if l=2011 then 3 else l) [(3,.ptr 2011 0 0),(6,.fn (.func 184) [.rptr [.L iF v11]])] [(2011,vR (.nl) 1)]) ?_;refine a1m (fn:=Tryz.f184) (N1:=20) J Tryz.func184 J J nl J c4R J J (λl17 e18 o19 hR20=>?_);refine S3 1 J<|nL J l7<|S2 1 J<|k7<|lq h (λq=>St.of [(1000003,.ptr 2011 0 0),(1000006,.fn (.func 184) [.rptr [.L iF v11]]),(0,.fn (.yield l17) []),(5,.L iF v11),(6,.I (v11.length:Int)),(7,.I q.1)] [(2011,vS (.sl 912511) 1),(912511,⟨List.map iF q.2,(List.map iF q.2).length,true,1,true⟩)]) (Wk.trans (b2l (l0:=2011) (j:=0) (l:=922511) (z:=1) J J J J J) (WP (λl=>if l=912511 then 922511 else l))) λq16 x15 h hx23=>?_;obtain⟨s13,s14⟩:=q16;refine S4 1 J<|g9 ?_;refine cN h (λhc h=>?_) λhc h=>?_
  ·refine c8 ?_;refine g9<|k7<|sR<|iL h J J l7 p9 λv17 _ h=>S2 2 J<|S3 3 J<|o5 J (λhg=>om (d:=.fn (.yield l17) []) J)<|o5 J (λhg=>mI J) ?_;rcases Bool.eq_false_or_eq_true ((v17 != 0)==true) with hg25 | hg25
   ·have h:=ifT h hg25;refine O9 (WPE (λl=>if l=2019 then 912511 else l) [(1000003,.ptr 2011 0 0),(1000006,.fn (.func 184) [.rptr [.L iF v11]]),(0,.fn (.yield l17) []),(5,.L iF v11),(6,.I (v11.length:Int)),(7,.I s13),(13,.bool (v17 != 0)),(14,.fn (.yield l17) []),(15,.I v17)] [(2011,vS (.sl 2019) 1),(2019,⟨List.map iF s14,(List.map iF s14).length,true,1,true⟩)]) ?_;refine a6d hR20 (congrArg some hg25) J J J J J (λe26 o27 o28=>?_);refine S6 1 J ?_;refine⟨J,?_⟩;refine k7<|S5 2 J<|y0 J (a0d (f:=iF) (l:=[v17]) J l7 p9 E5 J J nl J J)<|A9 h λv18 hv29 h=>a1H J (a1j (f:=iF) hv29 J J J J J J (.inl ⟨_,J,J⟩) l7 p9 Z6 E5 J (λ_=>J)) J J J<|S2 1 J ?_;refine⟨J,?_⟩;refine O9 (WPE (λl=>if l=2020 then 11 else l) [(1000003,.ptr 2011 0 0),(1000006,.fn (.func 184) [.rptr [.L iF v11]]),(0,.fn (.yield l17) []),(5,.L iF v11),(6,.I (v11.length:Int)),(7,.I s13),(13,.bool (v17 != 0)),(16,.bool true)] [(2011,vS (.sl 2020) 1),(2020,⟨List.map iF v18,s14.length,true,1,true⟩)])<|y0 (congrArg some hg25) (a6m J J)<|y0 J (a5J J J hg25)<|yN ?_;refine F4 false J (λq=>nomatch q) (λ_=>?_);refine c8<|S6 2 J ?_;exact eL h (Wk.trans (p7 _ [2020]) (WP (λl=>if l=912511 then 2020 else l)))
   ·have h:=ifF h hg25;refine a14 (congrArg some hg25)<|a14 (congrArg some hg25)<|y0 J (a7K J J hg25)<|yN ?_;refine F4 false J (λq=>nomatch q) (λ_=>?_);refine c8<|S6 2 J ?_;exact eL h (Wk.trans (p7 _ [912511]) W)
  ·refine w7 ?_;refine j5<|j5<|m9 ?_;refine .inl ⟨J,?_⟩;have h:=xL hx23 h;exact eJ h (Wk.trans (p7 _ [912511]) (WP (λl=>if l=2001 then 2011 else if l=912501 then 912511 else l)))

set_option maxHeartbeats 40000000 in
theorem b0D {a0 a1}:PO Tryz.prog 88 [.L b8.Pv a0,.L iF a1] (U0 a0 a1) λr=>.tup [.L b8.Pv r.1,.L iF r.2]:=by
 refine pO Tryz.func88 λr h _ _=>?_;refine S4 2 J<|S4 1 J ?_;refine jq h (λq=>St.of [(0,.L b8.Pv q.1),(6,.sl 910006)] [(910006,⟨List.map iF q.2,(List.map iF q.2).length,true,1,true⟩)]) (λq20 h=>?_) λκ17 h=>?_
 ·obtain⟨j18,j19⟩:=q20;refine S4 4 J<|b9 ?_;cases h;exact f2
 ·refine S3 1 J ?_;refine nL J l7<|S2 1 J<|k7<|lq h (λq=>St.of [(0,.L b8.Pv q.1),(6,.sl 910006),(12,.L iF a1),(13,.I (a1.length:Int)),(14,.I q.2.1)] [(910006,⟨List.map iF q.2.2,(List.map iF q.2.2).length,true,1,true⟩)]) (Wk.trans (Y1 (t:=6) (l:=920006) (z:=1) J J) (WP (λl=>if l=910006 then 920006 else l))) λq26 x25 h hx14=>?_;obtain⟨s22,s23,s24⟩:=q26;refine S4 1 J<|g9 ?_;refine cN h (λhc h=>?_) λhc h=>?_
  ·refine c8 ?_;refine jq h (λq=>St.of [(0,.L b8.Pv q.1),(6,.sl 31),(12,.L iF a1),(13,.I (a1.length:Int)),(14,.I s23)] [(31,⟨List.map iF q.2,(List.map iF q.2).length,true,1,true⟩)]) (λq33 h=>?_) λκ30 h=>?_
   ·obtain⟨j31,j32⟩:=q33;refine S6 2 J ?_;exact eL h (Wk.trans (p7 _ [31]) (WP (λl=>if l=910006 then 31 else l)))
   ·refine k7 ?_;refine sR<|iL h J J l7 p9 λv34 _ h=>S2 2 J<|S3 2 J<|cF h a9D J J λv35 _ h=>S2 7 J<|S4 2 J ?_;refine cN h (λhc h=>?_) λhc h=>?_
    ·refine S5 3 J ?_;refine y0 J (a0d (f:=iF) (l:=[v35.2.1]) J l7 p9 E5 J J nl J J)<|A9 h λv36 hv21 h=>a1H J (a1j (f:=iF) hv21 J J J J J J (.inl ⟨_,J,J⟩) l7 p9 Z6 E5 J (λ_=>J)) J J J<|S2 2 J ?_;exact eJ h (Wk.trans (p7 _ [31]) W)
    ·refine c8 ?_;exact eJ h (Wk.trans (p7 _ [910006]) (WP (λl=>if l=31 then 910006 else l)))
  ·refine w7 ?_;refine j5<|j5<|m9 ?_;have h:=xL hx14 h;exact eJ h (Wk.trans (p7 _ [910006]) W)

set_option maxHeartbeats 40000000 in
theorem a5Y {a0 a1}:PO Tryz.prog 137 [c4.Pv a0,.I a1] (P3 a0 a1) λr=>.tup [c4.Pv r.1,.I r.2]:=by
 refine pO Tryz.func137 λr h _ _=>?_;refine S4 3 J<|S3 2 J<|cF h a1E J J λv1 _ h=>S2 6 J<|g9<|S4 2 J ?_;refine cN h (λhc h=>?_) λhc h=>?_
 ·refine S4 4 J ?_;refine b9 ?_;cases h;exact⟨J,[_,_],⟨oL J J J a2z a06 nl J,⟨J,tr⟩⟩,J,io⟩
 ·refine c8 ?_;refine dr [] x6 (by kernel_rfl) (by kernel_rfl)<|S7 2 J<|A9 h λv2 hv2 h=>d2 J (a0e J a6Q J hv2) J<|S7 1 J<|A9 h λv3 hv3 h=>d2 J (a0e J a8x J hv3) J<|S7 1 J<|d7 J (λ_ hN=>r9 (cs:=[.I 2,.I v3,.I v1.1.Serial,.I v1.1.Strong,.I v1.1.Weak,.I v1.1.Prog,.bool v1.1.Started,.L iF v1.1.Fields]) J b42 b0w J J J) J<|A9 h λv4 hv4 h=>d2f J (y9 J F7 J hv4) J<|D7 (x':=c4.Pv v4) (cl':=true) J J (.inr J) a06<|S8 1 J<|b9 ?_;cases h;exact⟨J,[_,_],⟨oL J J J a2z a06 nl J,⟨J,tr⟩⟩,J,io⟩

set_option maxHeartbeats 40000000 in
theorem b1a {a0 a1}:PO Tryz.prog 89 [b6.Pv a0,.I a1] (U6 a0 a1) λr=>b6.Pv r:=by
 refine pO Tryz.func89 λr h _ _=>?_;refine S4 2 J<|S3 3 J<|cF h z7 J J λv1 _ h=>S2 6 J<|S3 1 J<|a7v (x':=.agg [.I v1.1.Serial,.I v1.1.Strong,.I v1.1.Weak,.I v1.1.Prog,.bool v1.1.Started,.nl]) (cl':=true) J J (.inl J) b0v<|S1 1 J<|a7v (x':=.agg [.I v1.1.Serial,.I 0,.I v1.1.Weak,.I v1.1.Prog,.bool v1.1.Started,.nl]) (cl':=true) J J (.inl J) p9<|yN<|S3 4 J<|cF h Z4 J J λv2 _ h=>S2 5 J<|S3 4 J<|cF h a5Y J J λv3 _ h=>S2 6 J<|g9<|S4 3 J ?_;refine cN h (λhc h=>?_) λhc h=>?_
 ·refine S5 4 J ?_;refine cF h a1u J J λv4 _ h=>S2 6 J<|S4 2 J<|b9 ?_;cases h;exact⟨J,[_],⟨oL J J J o7 n0 nl J,tr⟩,J,io⟩
 ·refine c8 ?_;refine S4 2 J<|b9 ?_;cases h;exact⟨J,[_],⟨oL J J J o7 n0 nl J,tr⟩,J,io⟩

end Go.Proofs.YtjpgbnlcefhaiaaGreat.Ok
