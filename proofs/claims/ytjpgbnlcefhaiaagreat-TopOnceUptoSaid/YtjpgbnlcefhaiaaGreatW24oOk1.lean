/-
 The functions of the program do as the plain functions do.
-/
import Derived.Test.YtjpgbnlcefhaiaaGreatW24oPwC
import Derived.Test.YtjpgbnlcefhaiaaGreatW24oPwD
import Derived.Test.YtjpgbnlcefhaiaaGreatSrt
import Derived.Test.YtjpgbnlcefhaiaaGreatSrtI
import Derived.Test.YtjpgbnlcefhaiaaGreatW24oSh
import Derived.Test.YtjpgbnlcefhaiaaGreatProg
set_option linter.unusedVariables false
set_option linter.unusedSimpArgs false
set_option linter.unusedSectionVars false
namespace Go.Proofs.YtjpgbnlcefhaiaaGreat.Ok
open Go Go.Pw Go.Sh Go.Proofs
set_option maxRecDepth 100000
set_option maxHeartbeats 4000000
abbrev _root_.Go.Sh.c5.Pc(x:c5):List PV:=[.I x.Kind,.I x.A,.I x.B,.I x.C]
abbrev _root_.Go.Sh.c5.Pv(x:c5):PV:=.agg x.Pc
abbrev _root_.Go.Sh.o8.Pc(x:o8):List PV:=[.I x.Kind,.I x.A,.I x.B,.I x.C]
abbrev _root_.Go.Sh.o8.Pv(x:o8):PV:=.agg x.Pc
abbrev _root_.Go.Sh.l5.Pc(x:l5):List PV:=[.I x.Serial,.I x.Strong,.I x.Weak,.I x.Prog,.bool x.Started,.L iF x.Fields]
abbrev _root_.Go.Sh.l5.Pv(x:l5):PV:=.agg x.Pc
abbrev _root_.Go.Sh.b7.Pc(x:b7):List PV:=[.I x.State,.I x.Gen,.I x.Val.Serial,.I x.Val.Strong,.I x.Val.Weak,.I x.Val.Prog,.bool x.Val.Started,.L iF x.Val.Fields]
abbrev _root_.Go.Sh.b7.Pv(x:b7):PV:=.agg x.Pc
abbrev _root_.Go.Sh.e6.Pc(x:e6):List PV:=[.I x.Target,.bool x.Intact,.I x.Call]
abbrev _root_.Go.Sh.e6.Pv(x:e6):PV:=.agg x.Pc
abbrev _root_.Go.Sh.b8.Pc(x:b8):List PV:=[.I x.State,.I x.Key,.I x.Val]
abbrev _root_.Go.Sh.b8.Pv(x:b8):PV:=.agg x.Pc
abbrev _root_.Go.Sh.g7.Pc(x:g7):List PV:=[.I x.Kind,.I x.At,.I x.Prog]
abbrev _root_.Go.Sh.g7.Pv(x:g7):PV:=.agg x.Pc
abbrev _root_.Go.Sh.g5.Pc(x:g5):List PV:=[fvE x.part,.I x.least,.I x.most,.I x.e]
abbrev _root_.Go.Sh.g5.Pv(x:g5):PV:=.agg x.Pc
abbrev _root_.Go.Sh.c7.Pc(x:c7):List PV:=[.L b7.Pv x.a8,.I x.Last]
abbrev _root_.Go.Sh.c7.Pv(x:c7):PV:=.agg x.Pc
abbrev _root_.Go.Sh.a7.Pc(x:a7):List PV:=[.L b7.Pv x.S.a8,.I x.S.Last,.I x.Serial]
abbrev _root_.Go.Sh.a7.Pv(x:a7):PV:=.agg x.Pc
abbrev _root_.Go.Sh.c9.Pc(x:c9):List PV:=[.L g7.Pv x.L,.I x.Cap]
abbrev _root_.Go.Sh.c9.Pv(x:c9):PV:=.agg x.Pc
abbrev _root_.Go.Sh.b6.Pc(x:b6):List PV:=[.L b7.Pv x.S.S.a8,.I x.S.S.Last,.I x.S.Serial,.L iF x.Roots,.L e6.Pv x.a8,.L b8.Pv x.T,.L g7.Pv x.Q.L,.I x.Q.Cap]
abbrev _root_.Go.Sh.b6.Pv(x:b6):PV:=.agg x.Pc
abbrev _root_.Go.Sh.m8.Pc(x:m8):List PV:=[.L b7.Pv x.X.S.S.a8,.I x.X.S.S.Last,.I x.X.S.Serial,.L iF x.X.Roots,.L e6.Pv x.X.a8,.L b8.Pv x.X.T,.L g7.Pv x.X.Q.L,.I x.X.Q.Cap,.L (Ls c5.Pv) x.Progs]
abbrev _root_.Go.Sh.m8.Pv(x:m8):PV:=.agg x.Pc
abbrev _root_.Go.Sh.l4.Pc(x:l4):List PV:=[.I x.V,.I x.E]
abbrev _root_.Go.Sh.l4.Pv(x:l4):PV:=.agg x.Pc
abbrev _root_.Go.Sh.o6.Pc(x:o6):List PV:=[.L b7.Pv x.x.S.S.a8,.I x.x.S.S.Last,.I x.x.S.Serial,.L iF x.x.Roots,.L e6.Pv x.x.a8,.L b8.Pv x.x.T,.L g7.Pv x.x.Q.L,.I x.x.Q.Cap,.I x.o.Kind,.I x.o.A,.I x.o.B,.I x.o.C]
abbrev _root_.Go.Sh.o6.Pv(x:o6):PV:=.agg x.Pc
abbrev _root_.Go.Sh.F5.Pc(x:F5):List PV:=[.I x.r,.I x.h]
abbrev _root_.Go.Sh.F5.Pv(x:F5):PV:=.agg x.Pc
abbrev _root_.Go.Sh.E3.Pc(x:E3):List PV:=[.I x.h,.I x.k,.I x.v]
abbrev _root_.Go.Sh.E3.Pv(x:E3):PV:=.agg x.Pc
abbrev _root_.Go.Sh.F4.Pc(x:F4):List PV:=[.L b8.Pv x.t]
abbrev _root_.Go.Sh.F4.Pv(x:F4):PV:=.agg x.Pc
abbrev _root_.Go.Sh.m7.Pc(x:m7):List PV:=[.I x.Key,.I x.Val]
abbrev _root_.Go.Sh.m7.Pv(x:m7):PV:=.agg x.Pc
abbrev _root_.Go.Sh.j5.Pc(x:j5):List PV:=[.L iF x.L,.I x.Cap]
abbrev _root_.Go.Sh.j5.Pv(x:j5):PV:=.agg x.Pc
def a86(t:Nat):Nat:=if t=85 then 4 else if t=89 then 0 else if t=93 then 1 else 0
theorem I9:I7 Tryz.prog 3=some false:=by kernel_rfl
theorem b7f:I7 Tryz.prog 4=some false:=by kernel_rfl
theorem c8a:I7 Tryz.prog 25=some false:=by kernel_rfl
theorem a2V:I7 Tryz.prog 27=some true:=by kernel_rfl
theorem a5C:I7 Tryz.prog 29=some true:=by kernel_rfl
theorem b8P:I7 Tryz.prog 30=some false:=by kernel_rfl
theorem c8b:I7 Tryz.prog 31=some false:=by kernel_rfl
theorem b5q:I7 Tryz.prog 32=some false:=by kernel_rfl
theorem a4J:I7 Tryz.prog 35=some true:=by kernel_rfl
theorem o9:I7 Tryz.prog 37=some true:=by kernel_rfl
theorem a13:I7 Tryz.prog 40=some true:=by kernel_rfl
theorem b0T:I7 Tryz.prog 45=some false:=by kernel_rfl
theorem a5D:I7 Tryz.prog 47=some true:=by kernel_rfl
theorem b2L:I7 Tryz.prog 54=some true:=by kernel_rfl
theorem c2r:I7 Tryz.prog 57=some true:=by kernel_rfl
theorem b5r:I7 Tryz.prog 65=some true:=by kernel_rfl
theorem c5u:I7 Tryz.prog 100=some false:=by kernel_rfl
theorem c5v:I7 Tryz.prog 102=some true:=by kernel_rfl
theorem a3f:I7 Tryz.prog 144=some true:=by kernel_rfl
theorem a1o:I7 Tryz.prog 154=some true:=by kernel_rfl
theorem b98:I7 Tryz.prog 201=some false:=by kernel_rfl
theorem a7S:I7 Tryz.prog 292=some true:=by kernel_rfl
theorem Y5:J7 Tryz.prog 3=some 8:=by kernel_rfl
theorem c8c:J7 Tryz.prog 47=some 16:=by kernel_rfl
theorem c2s:J7 Tryz.prog 56=some 80:=by kernel_rfl
theorem c2t:J7 Tryz.prog 65=some 32:=by kernel_rfl
theorem c5w:J7 Tryz.prog 100=some 24:=by kernel_rfl
theorem c5x:J7 Tryz.prog 102=some 32:=by kernel_rfl
theorem c5y:J7 Tryz.prog 154=some 24:=by kernel_rfl
theorem b99:J7 Tryz.prog 183=some 24:=by kernel_rfl
theorem c0a:J7 Tryz.prog 256=some 24:=by kernel_rfl
theorem c0b:J7 Tryz.prog 308=some 16:=by kernel_rfl
theorem b2M:z7 Tryz.prog 22=some 30:=by kernel_rfl
theorem Q6:z7 Tryz.prog 25=some 56:=by kernel_rfl
theorem l7:z7 Tryz.prog 30=some 3:=by kernel_rfl
theorem W2:z7 Tryz.prog 31=some 183:=by kernel_rfl
theorem a0X:z7 Tryz.prog 32=some 256:=by kernel_rfl
theorem a6Z:z7 Tryz.prog 33=some 154:=by kernel_rfl
theorem a5G:z7 Tryz.prog 38=some 63:=by kernel_rfl
theorem a4K:z7 Tryz.prog 41=some 47:=by kernel_rfl
theorem W3:z7 Tryz.prog 63=some 65:=by kernel_rfl
theorem a5H:z7 Tryz.prog 67=some 100:=by kernel_rfl
theorem a5E:z7 Tryz.prog 100=some 102:=by kernel_rfl
theorem a0a:z7 Tryz.prog 138=some 144:=by kernel_rfl
theorem a5F:z7 Tryz.prog 305=some 308:=by kernel_rfl
theorem c2u:a0J Tryz.prog 27 0=some (0,25):=by kernel_rfl
theorem b7g:a0J Tryz.prog 37 1=some (3,30):=by kernel_rfl
theorem c2v:a0J Tryz.prog 37 2=some (4,31):=by kernel_rfl
theorem c2w:a0J Tryz.prog 37 4=some (6,35):=by kernel_rfl
theorem a9H:a0J Tryz.prog 47 0=some (0,3):=by kernel_rfl
theorem c2x:a0J Tryz.prog 47 1=some (1,45):=by kernel_rfl
theorem c2y:a0J Tryz.prog 54 1=some (1,3):=by kernel_rfl
theorem c2z:a0J Tryz.prog 54 2=some (2,3):=by kernel_rfl
theorem b7h:a0J Tryz.prog 54 4=some (4,4):=by kernel_rfl
theorem b7i:a0J Tryz.prog 56 0=some (0,3):=by kernel_rfl
theorem c2A:a0J Tryz.prog 56 2=some (2,54):=by kernel_rfl
theorem a9I:a0J Tryz.prog 65 0=some (0,3):=by kernel_rfl
theorem c1t:a0J Tryz.prog 102 0=some (0,3):=by kernel_rfl
theorem c1u:a0J Tryz.prog 144 2=some (2,3):=by kernel_rfl
theorem b4C:a0J Tryz.prog 183 0=some (0,3):=by kernel_rfl
theorem c1v:a0J Tryz.prog 183 1=some (1,4):=by kernel_rfl
theorem c1w:a0J Tryz.prog 256 1=some (1,3):=by kernel_rfl
theorem c1x:a0J Tryz.prog 308 0=some (0,3):=by kernel_rfl
theorem b4D:a0J Tryz.prog 308 1=some (1,3):=by kernel_rfl
theorem d0v:c43 Tryz.prog 3=some .i64:=by kernel_rfl
theorem c8d:A1 Tryz.prog 35:=kC Tryz.func35 J
theorem c8e:A1 Tryz.prog 48:=kC Tryz.func48 J
theorem c8f:A1 Tryz.prog 51:=kC Tryz.func51 J
theorem c8g:A1 Tryz.prog 52:=kC Tryz.func52 J
theorem c2B:A1 Tryz.prog 86:=kC Tryz.func86 J
theorem c8h:A1 Tryz.prog 92:=kC Tryz.func92 J
theorem c5z:A1 Tryz.prog 167:=kC Tryz.func167 J
theorem c5A:A1 Tryz.prog 174:=kC Tryz.func174 J
theorem c5B:A1 Tryz.prog 184:=kC Tryz.func184 J
theorem c5C:A1 Tryz.prog 195:=kC Tryz.func195 J
theorem c5D:A1 Tryz.prog 197:=kC Tryz.func197 J
theorem c5E:A1 Tryz.prog 221:=kC Tryz.func221 J
theorem c5F:A1 Tryz.prog 223:=kC Tryz.func223 J
theorem c0c:A1 Tryz.prog 224:=kC Tryz.func224 J
theorem c0d:A1 Tryz.prog 227:=kC Tryz.func227 J
theorem c5G:A1 Tryz.prog 247:=kC Tryz.func247 J
theorem c0e:A1 Tryz.prog 248:=kC Tryz.func248 J
theorem Y6:b0I Tryz.prog 109=some (3,107):=by kernel_rfl
theorem b2N:b0I Tryz.prog 123=some (3,3):=by kernel_rfl
theorem Q7:b0I Tryz.prog 140=some (3,138):=by kernel_rfl
theorem a2y:b0I Tryz.prog 201=some (3,4):=by kernel_rfl
theorem c2C:C8 Tryz.prog 27=some (λi=>(#[(0,1),(1,1)]:Array (Nat × Nat))[i]?):=by kernel_rfl
theorem c2D:C8 Tryz.prog 29=some (λi=>(#[(0,2),(2,1)]:Array (Nat × Nat))[i]?):=by kernel_rfl
theorem c8i:C8 Tryz.prog 35=some (λi=>(#[(0,1),(1,1)]:Array (Nat × Nat))[i]?):=by kernel_rfl
theorem c2E:C8 Tryz.prog 37=some (λi=>(#[(0,3),(3,1),(4,1),(5,1),(6,2)]:Array (Nat × Nat))[i]?):=by kernel_rfl
theorem b8Q:C8 Tryz.prog 40=some (λi=>(#[(0,8),(8,1)]:Array (Nat × Nat))[i]?):=by kernel_rfl
theorem c8j:C8 Tryz.prog 47=some (λi=>(#[(0,1),(1,1)]:Array (Nat × Nat))[i]?):=by kernel_rfl
theorem c8k:C8 Tryz.prog 54=some (λi=>(#[(0,1),(1,1),(2,1),(3,1),(4,1),(5,1)]:Array (Nat × Nat))[i]?):=by kernel_rfl
theorem b5t:C8 Tryz.prog 56=some (λi=>(#[(0,1),(1,1),(2,6)]:Array (Nat × Nat))[i]?):=by kernel_rfl
theorem c8l:C8 Tryz.prog 57=some (λi=>some (i*1,1)):=by kernel_rfl
theorem b5u:C8 Tryz.prog 65=some (λi=>(#[(0,1),(1,1),(2,1),(3,1)]:Array (Nat × Nat))[i]?):=by kernel_rfl
theorem c8m:C8 Tryz.prog 85=some (λi=>(#[(0,4)]:Array (Nat × Nat))[i]?):=by kernel_rfl
theorem c8n:C8 Tryz.prog 89=some (λi=>(#[]:Array (Nat × Nat))[i]?):=by kernel_rfl
theorem c8o:C8 Tryz.prog 93=some (λi=>(#[(0,1)]:Array (Nat × Nat))[i]?):=by kernel_rfl
theorem c5H:C8 Tryz.prog 113=some (λi=>(#[(0,8),(8,4)]:Array (Nat × Nat))[i]?):=by kernel_rfl
theorem a1p:C8 Tryz.prog 144=some (λi=>(#[(0,1),(1,1),(2,1),(3,1)]:Array (Nat × Nat))[i]?):=by kernel_rfl
theorem b5s:C8 Tryz.prog 154=some (λi=>(#[(0,1),(1,1),(2,1)]:Array (Nat × Nat))[i]?):=by kernel_rfl
theorem c5I:C8 Tryz.prog 183=some (λi=>(#[(0,1),(1,1),(2,1)]:Array (Nat × Nat))[i]?):=by kernel_rfl
theorem c5J:C8 Tryz.prog 234=some (λi=>(#[(0,1),(1,1),(2,1)]:Array (Nat × Nat))[i]?):=by kernel_rfl
theorem c5K:C8 Tryz.prog 242=some (λi=>(#[(0,1)]:Array (Nat × Nat))[i]?):=by kernel_rfl
theorem c0f:C8 Tryz.prog 256=some (λi=>(#[(0,1),(1,1),(2,1)]:Array (Nat × Nat))[i]?):=by kernel_rfl
theorem c5L:C8 Tryz.prog 261=some (λi=>(#[(0,1)]:Array (Nat × Nat))[i]?):=by kernel_rfl
theorem c5M:C8 Tryz.prog 265=some (λi=>(#[(0,1),(1,1)]:Array (Nat × Nat))[i]?):=by kernel_rfl
theorem c5N:C8 Tryz.prog 292=some (λi=>(#[(0,1),(1,1)]:Array (Nat × Nat))[i]?):=by kernel_rfl
theorem c0g:C8 Tryz.prog 308=some (λi=>(#[(0,1),(1,1)]:Array (Nat × Nat))[i]?):=by kernel_rfl
theorem c8p:b06 Tryz.prog 57=some [1,1,1,1]:=by kernel_rfl
theorem c2F:a9n Tryz.prog 85=true:=by kernel_rfl
theorem c2G:a9n Tryz.prog 89=true:=by kernel_rfl
theorem c2H:a9n Tryz.prog 93=true:=by kernel_rfl
theorem c2I:b9U Tryz.prog 57=some (4,3):=by kernel_rfl
theorem r7:o7 Tryz.prog 3=some 1:=by kernel_rfl
theorem d0w:o7 Tryz.prog 4=some 1:=by kernel_rfl
theorem a1q:o7 Tryz.prog 27=some 2:=by kernel_rfl
theorem a5J:o7 Tryz.prog 29=some 3:=by kernel_rfl
theorem a87:o7 Tryz.prog 30=some 1:=by kernel_rfl
theorem c2J:o7 Tryz.prog 33=some 1:=by kernel_rfl
theorem a1r:o7 Tryz.prog 35=some 2:=by kernel_rfl
theorem n8:o7 Tryz.prog 37=some 8:=by kernel_rfl
theorem P2:o7 Tryz.prog 40=some 9:=by kernel_rfl
theorem Q8:o7 Tryz.prog 47=some 2:=by kernel_rfl
theorem a60:o7 Tryz.prog 54=some 6:=by kernel_rfl
theorem a0w:o7 Tryz.prog 56=some 8:=by kernel_rfl
theorem c2K:o7 Tryz.prog 57=some 4:=by kernel_rfl
theorem b2O:o7 Tryz.prog 63=some 1:=by kernel_rfl
theorem a0x:o7 Tryz.prog 65=some 4:=by kernel_rfl
theorem c8q:o7 Tryz.prog 89=some 0:=by kernel_rfl
theorem a5I:o7 Tryz.prog 100=some 1:=by kernel_rfl
theorem a7T:o7 Tryz.prog 102=some 4:=by kernel_rfl
theorem H8:o7 Tryz.prog 144=some 4:=by kernel_rfl
theorem K0:o7 Tryz.prog 154=some 3:=by kernel_rfl
theorem X6:o7 Tryz.prog 183=some 3:=by kernel_rfl
theorem a0S:o7 Tryz.prog 256=some 3:=by kernel_rfl
theorem a4i:o7 Tryz.prog 292=some 2:=by kernel_rfl
theorem a9J:o7 Tryz.prog 308=some 2:=by kernel_rfl
theorem J0:Tryz.prog.underlying 3=some (.int .i64):=by kernel_rfl
theorem d0x:Tryz.prog.underlying 5=some (.int .u8):=by kernel_rfl
theorem D6:y5 Tryz.prog 3=some ((.I 0)):=by kernel_rfl
theorem b7j:y5 Tryz.prog 4=some ((.bool false)):=by kernel_rfl
theorem c2L:y5 Tryz.prog 27=some ((.agg #[(.slice none 0 0),(.I 0)])):=by kernel_rfl
theorem c2M:y5 Tryz.prog 29=some ((.agg #[(.slice none 0 0),(.I 0),(.I 0)])):=by kernel_rfl
theorem b8R:y5 Tryz.prog 30=some ((.slice none 0 0)):=by kernel_rfl
theorem c8r:y5 Tryz.prog 35=some ((.agg #[(.slice none 0 0),(.I 0)])):=by kernel_rfl
theorem c2N:y5 Tryz.prog 37=some ((.agg #[(.slice none 0 0),(.I 0),(.I 0),(.slice none 0 0),(.slice none 0 0),(.slice none 0 0),(.slice none 0 0),(.I 0)])):=by kernel_rfl
theorem b8S:y5 Tryz.prog 40=some ((.agg #[(.slice none 0 0),(.I 0),(.I 0),(.slice none 0 0),(.slice none 0 0),(.slice none 0 0),(.slice none 0 0),(.I 0),(.slice none 0 0)])):=by kernel_rfl
theorem b8T:y5 Tryz.prog 47=some ((.agg #[(.I 0),(.I 0)])):=by kernel_rfl
theorem c8s:y5 Tryz.prog 54=some ((.agg #[(.I 0),(.I 0),(.I 0),(.I 0),(.bool false),(.slice none 0 0)])):=by kernel_rfl
theorem b0U:y5 Tryz.prog 56=some ((.agg #[(.I 0),(.I 0),(.I 0),(.I 0),(.I 0),(.I 0),(.bool false),(.slice none 0 0)])):=by kernel_rfl
theorem c8t:y5 Tryz.prog 57=some ((.agg #[(.I 0),(.I 0),(.I 0),(.I 0)])):=by kernel_rfl
theorem c8u:y5 Tryz.prog 63=some ((.slice none 0 0)):=by kernel_rfl
theorem a88:y5 Tryz.prog 65=some ((.agg #[(.I 0),(.I 0),(.I 0),(.I 0)])):=by kernel_rfl
theorem c2O:y5 Tryz.prog 85=some ((.agg #[(.I 0),(.I 0),(.I 0),(.I 0)])):=by kernel_rfl
theorem c2P:y5 Tryz.prog 89=some ((.agg #[])):=by kernel_rfl
theorem c2Q:y5 Tryz.prog 93=some ((.agg #[(.I 0)])):=by kernel_rfl
theorem c0h:y5 Tryz.prog 100=some ((.slice none 0 0)):=by kernel_rfl
theorem c0i:y5 Tryz.prog 102=some ((.agg #[(.I 0),(.I 0),(.I 0),(.I 0)])):=by kernel_rfl
theorem c5O:y5 Tryz.prog 107=some (.nilFunc):=by kernel_rfl
theorem c5P:y5 Tryz.prog 113=some ((.agg #[(.slice none 0 0),(.I 0),(.I 0),(.slice none 0 0),(.slice none 0 0),(.slice none 0 0),(.slice none 0 0),(.I 0),(.I 0),(.I 0),(.I 0),(.I 0)])):=by kernel_rfl
theorem c5Q:y5 Tryz.prog 138=some ((.slice none 0 0)):=by kernel_rfl
theorem G7:y5 Tryz.prog 144=some ((.agg #[.nilFunc,(.I 0),(.I 0),(.I 0)])):=by kernel_rfl
theorem a9K:y5 Tryz.prog 154=some ((.agg #[(.I 0),(.I 0),(.I 0)])):=by kernel_rfl
theorem b5v:y5 Tryz.prog 183=some ((.agg #[(.I 0),(.bool false),(.I 0)])):=by kernel_rfl
theorem c5R:y5 Tryz.prog 234=some ((.agg #[(.I 0),(.I 0),(.I 0)])):=by kernel_rfl
theorem c5S:y5 Tryz.prog 242=some ((.agg #[(.slice none 0 0)])):=by kernel_rfl
theorem b2f:y5 Tryz.prog 256=some ((.agg #[(.I 0),(.I 0),(.I 0)])):=by kernel_rfl
theorem c5T:y5 Tryz.prog 261=some ((.agg #[.nilFunc])):=by kernel_rfl
theorem c5U:y5 Tryz.prog 265=some ((.agg #[(.I 0),(.I 0)])):=by kernel_rfl
theorem c5V:y5 Tryz.prog 292=some ((.agg #[(.slice none 0 0),(.I 0)])):=by kernel_rfl
theorem a7U:y5 Tryz.prog 308=some ((.agg #[(.I 0),(.I 0)])):=by kernel_rfl
theorem x4:Tryz.prog.follows .mixedOrders=true:=by kernel_rfl
def tb:TB:=⟨[((27,0),(0,25)),((27,1),(1,3)),((29,0),(0,27)),((29,1),(2,3)),((35,0),(0,33)),((35,1),(1,3)),((37,0),(0,29)),((37,1),(3,30)),((37,2),(4,31)),((37,3),(5,32)),((37,4),(6,35)),((40,0),(0,37)),((40,1),(8,38)),((47,0),(0,3)),((47,1),(1,45)),((54,0),(0,3)),((54,1),(1,3)),((54,2),(2,3)),((54,3),(3,3)),((54,4),(4,4)),((54,5),(5,30)),((56,0),(0,3)),((56,1),(1,3)),((56,2),(2,54)),((65,0),(0,3)),((65,1),(1,3)),((65,2),(2,3)),((65,3),(3,3)),((85,0),(0,65)),((93,0),(0,3)),((102,0),(0,3)),((102,1),(1,3)),((102,2),(2,3)),((102,3),(3,3)),((113,0),(0,37)),((113,1),(8,65)),((144,0),(0,142)),((144,1),(1,3)),((144,3),(3,45)),((154,0),(0,3)),((154,1),(1,3)),((154,2),(2,3)),((183,0),(0,3)),((183,1),(1,4)),((183,2),(2,3)),((234,0),(0,3)),((234,1),(1,3)),((234,2),(2,3)),((242,0),(0,32)),((256,0),(0,3)),((256,1),(1,3)),((256,2),(2,3)),((261,0),(0,259)),((265,0),(0,3)),((265,1),(1,3)),((292,0),(0,30)),((292,1),(1,3)),((308,0),(0,3)),((308,1),(1,3))],[(3,false),(4,false),(25,false),(27,true),(29,true),(30,false),(31,false),(32,false),(33,false),(35,true),(37,true),(38,false),(40,true),(45,false),(47,true),(54,true),(56,true),(57,true),(63,false),(65,true),(100,false),(102,true),(113,true),(123,false),(142,false),(144,true),(154,true),(183,true),(201,false),(256,true),(259,false),(261,true),(292,true),(305,false),(308,true),(316,false)],[(3,1),(4,1),(25,1),(27,2),(29,3),(30,1),(31,1),(32,1),(35,2),(37,8),(40,9),(45,1),(47,2),(54,6),(56,8),(57,4),(65,4),(85,4),(93,1),(102,4),(113,12),(123,1),(144,4),(154,3),(183,3),(201,1),(256,3),(261,1),(292,2),(305,1),(308,2)],[(3,.I 0),(4,.bool false),(27,.agg [.lst true (List.map b7.Pv []),.I 0]),(29,.agg [.lst true (List.map b7.Pv []),.I 0,.I 0]),(30,.lst true (List.map iF [])),(32,.lst true (List.map b8.Pv [])),(35,.agg [.lst true (List.map g7.Pv []),.I 0]),(37,.agg [.lst true (List.map b7.Pv []),.I 0,.I 0,.lst true (List.map iF []),.lst true (List.map e6.Pv []),.lst true (List.map b8.Pv []),.lst true (List.map g7.Pv []),.I 0]),(40,.agg [.lst true (List.map b7.Pv []),.I 0,.I 0,.lst true (List.map iF []),.lst true (List.map e6.Pv []),.lst true (List.map b8.Pv []),.lst true (List.map g7.Pv []),.I 0,.lst true (List.map (Ls c5.Pv) [])]),(45,.I 0),(47,.agg [.I 0,.I 0]),(54,.agg [.I 0,.I 0,.I 0,.I 0,.bool false,.lst true (List.map iF [])]),(56,.agg [.I 0,.I 0,.I 0,.I 0,.I 0,.I 0,.bool false,.lst true (List.map iF [])]),(57,.agg [.I 0,.I 0,.I 0,.I 0]),(65,.agg [.I 0,.I 0,.I 0,.I 0]),(85,.agg [.I 0,.I 0,.I 0,.I 0]),(89,.agg []),(93,.agg [.I 0]),(123,.abs b8N),(144,.agg [.nilfn,.I 0,.I 0,.I 0]),(154,.agg [.I 0,.I 0,.I 0]),(183,.agg [.I 0,.bool false,.I 0]),(201,.abs b8N),(256,.agg [.I 0,.I 0,.I 0]),(261,.agg [.nilfn]),(292,.agg [.lst true (List.map iF []),.I 0]),(305,.lst true (List.map m7.Pv [])),(308,.agg [.I 0,.I 0])]⟩
theorem Tb:TB.Ok Tryz.prog tb:=⟨by kernel_rfl,by kernel_rfl,by kernel_rfl,by kernel_rfl⟩
section
variable{X:Ctx}{ops:Array Oper}{K:Ctx→St→Prop}{i n:Nat}{l l':List Oper}{env env':Nat→PV}{σ σ':Nat→Option Row}{Q:PX→Ctx→St→Prop}{y:Code}{KD:St→Prop}{bar:List Nat}
theorem S1(n:Nat)(h:run tb n l env σ=some (l',env',σ'))(k:Sq X ops (i+n) l' K ⟨env',σ'⟩)(hb:TB.Ok X.P tb:=by exact Tb):Sq X ops i l K ⟨env,σ⟩:=seg hb n h k
theorem S2(n:Nat)(h:run tb n l env σ=some ([],env',σ'))(k:K X ⟨env',σ'⟩)(hb:TB.Ok X.P tb:=by exact Tb):Sq X ops i l K ⟨env,σ⟩:=seg hb n h (yN k)
theorem S3{id:Nat}(n:Nat)(h:run tb n l env σ=some (l',env',σ'))(k:Sq X l.toArray (0+n) l' (λX' s=>T2 X' y Q s) ⟨env',σ'⟩)(hd:a2C X.N l.toArray=true:=by kernel_rfl)(hb:TB.Ok X.P tb:=by exact Tb):T2 X (.seq (.region id l.toArray false) y) Q ⟨env,σ⟩:=sr hd (seg hb n h k)
theorem S4{id:Nat}(n:Nat)(h:run tb n l env σ=some ([],env',σ'))(k:T2 X y Q ⟨env',σ'⟩)(hd:a2C X.N l.toArray=true:=by kernel_rfl)(hb:TB.Ok X.P tb:=by exact Tb):T2 X (.seq (.region id l.toArray false) y) Q ⟨env,σ⟩:=sr hd (seg hb n h (yN k))
theorem S5{id:Nat}(n:Nat)(h:run tb n l env σ=some (l',env',σ'))(k:Sq X l.toArray (0+n) l' (Q .normal) ⟨env',σ'⟩)(hd:a2C X.N l.toArray=true:=by kernel_rfl)(hb:TB.Ok X.P tb:=by exact Tb):T2 X (.region id l.toArray false) Q ⟨env,σ⟩:=sr1 hd (seg hb n h k)
theorem S6{id:Nat}(n:Nat)(h:run tb n l env σ=some ([],env',σ'))(k:Q .normal X ⟨env',σ'⟩)(hd:a2C X.N l.toArray=true:=by kernel_rfl)(hb:TB.Ok X.P tb:=by exact Tb):T2 X (.region id l.toArray false) Q ⟨env,σ⟩:=sr1 hd (seg hb n h (yN k))
theorem S7(n:Nat)(h:c65 tb bar n i l env σ=some (l',env',σ'))(k:Ex X.P ops bar true (i+n) l' ⟨env',σ'⟩ KD)(hb:TB.Ok X.P tb:=by exact Tb):Ex X.P ops bar true i l ⟨env,σ⟩ KD:=dG hb n h k
theorem S8(n:Nat)(h:c65 tb bar n i l env σ=some ([],env',σ'))(k:KD ⟨env',σ'⟩)(hb:TB.Ok X.P tb:=by exact Tb):Ex X.P ops bar true i l ⟨env,σ⟩ KD:=dG hb n h k
end
theorem c96:b5p Tryz.prog (Tryz.sortF_ren.f 6):=c2c Tryz.sortF
theorem c7b:b2e Tryz.prog (Tryz.sortI_ren.f 5):=b9S Tryz.sortI
theorem b8I{a0}:PO Tryz.prog 23 [.L (Ls c5.Pv) a0] (a7O a0) λr=>.L (Ls o8.Pv) r:=by
 refine pO Tryz.func23 λr h _ _=>?_;refine S4 1 J<|sR<|y0 J (a5d J a5H a5I)<|S2 1 J ?_;refine jq h (λj47=>St.of [(3,.sl 910003)] [(910003,⟨List.map (Ls o8.Pv) j47,(List.map (Ls o8.Pv) j47).length,true,1,true⟩)]) (λj47 h=>?_) λκ46 h=>?_
 ·refine S4 2 J ?_;refine b9 ?_;cases h;exact f1
 ·refine S4 1 J ?_;refine k7<|lq h (λq=>St.of [(0,.L (Ls c5.Pv) a0),(3,.sl 910003),(4,.I q.1)] [(910003,⟨List.map (Ls o8.Pv) q.2,(List.map (Ls o8.Pv) q.2).length,true,1,true⟩)]) (Wk.trans (T0 (t:=3) (l:=920003) (z:=1) J J) (WP (λl=>if l=910003 then 920003 else l))) λq52 x51 h hx36=>?_;obtain⟨s49,s50⟩:=q52;refine g9<|S3 2 J<|nL J a5G<|S2 1 J ?_;refine cN h (λhc h=>?_) λhc h=>?_
  ·refine c8 ?_;refine jq h (λj73=>St.of [(0,.L (Ls c5.Pv) a0),(3,.sl 37),(4,.I s49)] [(37,⟨List.map (Ls o8.Pv) j73,s50.length,true,1,true⟩)]) (λj73 h=>?_) λκ72 h=>?_
   ·refine S6 3 J ?_;exact eL h (Wk.trans (p6 _ [37]) (WP (λl=>if l=910003 then 37 else l)))
   ·refine k7 ?_;refine sR<|y0 J (a5d J a5E a7T)<|S2 1 J ?_;refine jq h (λj83=>St.of [(0,.L (Ls c5.Pv) a0),(3,.sl 910003),(4,.I s49),(5,.sl 910005)] [(910005,⟨List.map o8.Pv j83,(List.map o8.Pv j83).length,true,4,true⟩),(910003,⟨List.map (Ls o8.Pv) s50,(List.map (Ls o8.Pv) s50).length,true,1,true⟩)]) (λj83 h=>?_) λκ82 h=>?_
    ·refine S5 2 J ?_;refine P1 (c75 35 J)<|y0 J (T4 (f:=(Ls o8.Pv)) (l:=[j83]) J a5H a5I c0h J J nl J J)<|A9 h λv84 hv59 h=>a0R J (a0t (f:=(Ls o8.Pv)) hv59 J J J J J J (.inl ⟨_,J,J⟩) a5H a5I c5w c0h J (λ_=>J)) J J J<|S2 1 J ?_;exact eJ h W
    ·refine S4 1 J ?_;refine k7<|lq h (λq=>St.of [(0,.L (Ls c5.Pv) a0),(3,.sl 910003),(4,.I s49),(5,.sl 910005),(6,.I q.1)] [(910003,⟨List.map (Ls o8.Pv) s50,(List.map (Ls o8.Pv) s50).length,true,1,true⟩),(910005,⟨List.map o8.Pv q.2,(List.map o8.Pv q.2).length,true,4,true⟩)]) (Wk.trans (T0 (t:=5) (l:=920005) (z:=4) J J) (Wk.trans (p6 _ [910003]) (WP (λl=>if l=910005 then 920005 else l)))) λq89 x88 h hx62=>?_;obtain⟨s86,s87⟩:=q89;refine g9<|S3 3 J<|iL h J J a5G b2O λv90 hv63 h=>S1 1 J<|nL J W3<|S2 1 J ?_;refine cN h (λhc h=>?_) λhc h=>?_
     ·refine c8 ?_;refine g9<|k7<|S5 3 J<|y0 J (K9 (f:=(Ls c5.Pv)) (cs:=[.L c5.Pv v90]) hv63 J J a5G b2O J J)<|S1 2 J<|iL h J J W3 a0x λv91 _ h=>S1 1 J<|y0 J (T4 (f:=o8.Pv) (l:=[(⟨v91.Kind,v91.A,v91.B,v91.C⟩:o8)]) J a5E a7T c0i J J nl J J)<|A9 h λv92 hv65 h=>a0R J (a0t (f:=o8.Pv) hv65 J J J J J J (.inl ⟨_,J,J⟩) a5E a7T c5x c0i J (λ_=>J)) J J J<|S2 1 J<|S6 3 J ?_;exact eL h (Wk.trans (p6 _ [910003,33]) (WP (λl=>if l=910005 then 33 else l)))
     ·refine s7 ?_;refine g6<|g6<|n0 ?_;have h:=xL hx62 h;exact eJ h (Wk.trans (p6 _ [910003,910005]) W)
  ·refine s7 ?_;refine g6<|g6<|n0 ?_;have h:=xL hx36 h;exact eJ h (Wk.trans (p6 _ [910003]) W)

theorem b6x{a0}:PO Tryz.prog 36 [o8.Pv a0] (N9 a0) λr=>.bool r:=by
 refine pO Tryz.func36 λr h _ _=>?_;unfold N9 at h;refine S4 2 J<|S3 4 J<|n7 J (λhg=>oF J c1t J)<|n7 J (λhg=>oS (ct hg) J J I9 J)<|n7 J (λhg=>D4 (ct hg) J J)<|y0 J (H3 J J J (λq=>eqT q))<|S2 1 J<|b9 ?_;cases h;exact f1

theorem M2{a0 a1 a2 a3}:PO Tryz.prog 57 [.I a0,.I a1,.I a2,.I a3] (a0E a0 a1 a2 a3) λr=>.I r:=by
 refine pO Tryz.func57 λr h _ _=>?_;refine S4 1 J<|g9<|S3 4 J<|n7 J (λhg=>mI J)<|n7 J (λhg=>mI J)<|n7 J (λhg=>D4 (ct hg) (ct hg) J)<|y0 J (K3 J J J (λq=>eqF q))<|yN ?_;refine cN h (λhc h=>?_) λhc h=>?_
 ·refine S4 2 J ?_;refine b9 ?_;cases h;exact f1
 ·refine c8 ?_;refine S4 1 J<|b9 ?_;cases h;exact f1

theorem U1{a0 a1 a2}:PO Tryz.prog 58 [.I a0,.I a1,.I a2] (V8 a0 a1 a2) λr=>.I r:=by
 refine pO Tryz.func58 λr h _ _=>?_;refine S4 1 J<|g9<|S4 2 J ?_;refine cN h (λhc h=>?_) λhc h=>?_
 ·refine S4 2 J ?_;refine b9 ?_;cases h;exact f1
 ·refine c8 ?_;refine g9<|S4 2 J ?_;refine cN h (λhc h=>?_) λhc h=>?_
  ·refine S4 2 J ?_;refine b9 ?_;cases h;exact f1
  ·refine c8 ?_;refine S4 2 J<|b9 ?_;cases h;exact f1

theorem b6w{a0}:PO Tryz.prog 37 [o8.Pv a0] (a0k a0) λr=>.I r:=by
 refine pO Tryz.func37 λr h _ _=>?_;refine S4 2 J<|S3 2 J<|cA h M2 J J λv1 _ h=>S2 1 J<|S3 2 J<|cA h M2 J J λv2 _ h=>S2 1 J<|g9<|S4 2 J<|k7<|S4 2 J ?_;refine cN h (λhc h=>?_) λhc h=>?_
 ·refine dr [] x4 (by kernel_rfl) (by kernel_rfl) ?_;refine S7 3 J<|A9 h λv3 hv3 h=>d2 J (M1 J M2 J hv3) J<|S7 2 J<|A9 h λv4 hv4 h=>d2 J (M1 J M2 J hv4) J<|A9 h λv5 hv5 h=>d2 J (M1 J U1 J hv5) J<|S8 1 J<|b9 ?_;cases h;exact f1
 ·refine jq h (λj7=>St.of [(1,.ptr 1 0 0),(3,.I v1),(4,.I v2),(12,.I a0.Kind),(23,.bool j7)] [(1,vR (o8.Pv a0) 4)]) (λj7 h=>?_) λκ6 h=>?_
  ·refine cN h (λhc h=>?_) λhc h=>?_
   ·refine S3 2 J ?_;refine cA h U1 J J λv8 _ h=>S2 1 J<|b9 ?_;cases h;exact f1
   ·refine S4 2 J ?_;refine cN h (λhc h=>?_) λhc h=>?_
    ·refine S4 2 J ?_;refine b9 ?_;cases h;exact f1
    ·refine S4 2 J ?_;refine cN h (λhc h=>?_) λhc h=>?_
     ·refine S3 4 J ?_;refine cA h M2 J J λv9 _ h=>cA h U1 J J λv10 _ h=>S2 1 J<|b9 ?_;cases h;exact f1
     ·refine S4 2 J ?_;refine cN h (λhc h=>?_) λhc h=>?_
      ·refine dr [] x4 (by kernel_rfl) (by kernel_rfl) ?_;refine S7 3 J<|A9 h λv11 hv10 h=>d2 J (M1 J M2 J hv10) J<|S7 2 J<|A9 h λv12 hv11 h=>d2 J (M1 J M2 J hv11) J<|A9 h λv13 hv12 h=>d2 J (M1 J U1 J hv12) J<|S8 1 J<|b9 ?_;cases h;exact f1
      ·refine S4 2 J ?_;refine cN h (λhc h=>?_) λhc h=>?_
       ·refine dr [] x4 (by kernel_rfl) (by kernel_rfl) ?_;refine S7 2 J<|A9 h λv14 hv13 h=>d2 J (M1 J M2 J hv13) J<|S7 2 J<|A9 h λv15 hv14 h=>d2 J (M1 J M2 J hv14) J<|S7 2 J<|A9 h λv16 hv15 h=>d2 J (M1 J M2 J hv15) J<|A9 h λv17 hv16 h=>d2 J (M1 J U1 J hv16) J<|S8 1 J<|b9 ?_;cases h;exact f1
       ·refine S4 2 J ?_;refine cN h (λhc h=>?_) λhc h=>?_
        ·refine S3 3 J ?_;refine cA h M2 J J λv18 _ h=>cA h U1 J J λv19 _ h=>S2 1 J<|b9 ?_;cases h;exact f1
        ·refine S4 2 J ?_;refine cN h (λhc h=>?_) λhc h=>?_
         ·refine S3 3 J ?_;refine cA h M2 J J λv20 _ h=>cA h U1 J J λv21 _ h=>S2 1 J<|b9 ?_;cases h;exact f1
         ·refine S4 2 J ?_;refine cN h (λhc h=>?_) λhc h=>?_
          ·refine S4 1 J ?_;refine b9 ?_;cases h;exact f1
          ·refine S4 2 J ?_;refine cN h (λhc h=>?_) λhc h=>?_
           ·refine S3 2 J ?_;refine cA h M2 J J λv22 _ h=>S2 1 J<|b9 ?_;cases h;exact f1
           ·refine c8 ?_;refine S4 1 J<|b9 ?_;cases h;exact f1
  ·refine S4 2 J ?_;refine cN h (λhc h=>?_) λhc h=>?_
   ·refine c8 ?_;exact eJ h W
   ·refine S4 2 J ?_;refine cN h (λhc h=>?_) λhc h=>?_
    ·refine c8 ?_;exact eJ h W
    ·refine S6 2 J ?_;exact eJ h W

theorem b6y{a0}:PO Tryz.prog 22 [.L (Ls o8.Pv) a0] (a2h a0) λr=>.bool r:=by
 refine pO Tryz.func22 λr h _ _=>?_;refine S4 1 J<|g9<|S3 1 J<|nL J a5H<|S2 1 J ?_;refine cN h (λhc h=>?_) λhc h=>?_
 ·refine S4 1 J ?_;refine b9 ?_;cases h;exact f1
 ·refine c8 ?_;refine jq h (λ_=>St.of [] []) (λq21 h=>?_) λκ20 h=>?_
  ·refine S4 1 J ?_;refine b9 ?_;cases h;exact f1
  ·refine S4 1 J ?_;refine k7<|lq h (λs23=>St.of [(0,.L (Ls o8.Pv) a0),(3,.I s23)] []) W λs23 x24 h hx22=>g9<|S3 2 J<|nL J a5H<|S2 1 J ?_;refine cN h (λhc h=>?_) λhc h=>?_
   ·refine c8 ?_;refine jq h (λ_=>St.of [(0,.L (Ls o8.Pv) a0),(3,.I s23)] []) (λq33 h=>?_) λκ32 h=>?_
    ·refine S6 3 J ?_;exact eL h W
    ·refine k7 ?_;refine g9<|S3 2 J<|iL h J J a5H a5I λv34 hv31 h=>S1 1 J<|nL J a5E<|S2 1 J ?_;refine cN h (λhc h=>?_) λhc h=>?_
     ·refine S4 1 J ?_;refine b9 ?_;have h:=xL hx22 h;cases h;exact f1
     ·refine c8 ?_;refine S4 1 J<|k7<|lq h (λs36=>St.of [(0,.L (Ls o8.Pv) a0),(3,.I s23),(4,.I s36)] []) W λs36 x37 h hx34=>g9<|S3 3 J<|y0 J (K9 (f:=(Ls o8.Pv)) (cs:=[.L o8.Pv v34]) hv31 J J a5H a5I J J)<|S1 1 J<|nL J a5E<|S2 1 J ?_;refine cN h (λhc h=>?_) λhc h=>?_
      ·refine c8 ?_;refine g9<|k7<|S3 2 J<|y0 J (K9 (f:=(Ls o8.Pv)) (cs:=[.L o8.Pv v34]) hv31 J J a5H a5I J J)<|S1 2 J<|iL h J J a5E a7T λv38 hv35 h=>S1 1 J<|cA h b6x J J λv39 _ h=>S1 2 J<|n7 J (λhg=>om (d:=.L (Ls o8.Pv) a0) J)<|n7 J (λhg=>mI J)<|n7 J (λhg=>K9 (f:=(Ls o8.Pv)) (cs:=[.L o8.Pv v34]) hv31 (ct hg) (ct hg) a5H a5I J J)<|n7 J (λhg=>O2 (ct hg) c5u J)<|n7 J (λhg=>mI J)<|n7 J (λhg=>K9 (f:=o8.Pv) (cs:=o8.Pc v38) hv35 (ct hg) (ct hg) a5E a7T J J)<|n7 J (λhg=>b7V (ct hg) c5v a7T nl J)<|A9 h λv40 hv37 h=>n7 J (λhg=>M1 J b6w (a0q (ct hg) J) (a0u hv37 hg))<|n7 J (λhg=>D4 (ct hg) J J)<|y0 J (K3 J J J (λq=>eqF q))<|yN ?_;refine cN h (λhc h=>?_) λhc h=>?_
       ·refine S4 1 J ?_;refine b9 ?_;have h:=xL hx34 h;have h:=xL hx22 h;cases h;exact f1
       ·refine c8 ?_;refine S6 3 J ?_;exact eL h W
      ·refine s7 ?_;refine g6<|g6<|n0 ?_;have h:=xL hx34 h;exact eJ h W
   ·refine s7 ?_;refine g6<|g6<|n0 ?_;have h:=xL hx22 h;exact eJ h W

theorem b4i{a0}:PO Tryz.prog 59 [c5.Pv a0] (a14 a0) λr=>.bool r:=by
 refine pO Tryz.func59 λr h _ _=>?_;unfold a14 at h;refine S4 2 J<|S3 4 J<|n7 J (λhg=>oF J a9I J)<|n7 J (λhg=>oS (ct hg) J J I9 J)<|n7 J (λhg=>D4 (ct hg) J J)<|y0 J (H3 J J J (λq=>eqT q))<|S2 1 J<|b9 ?_;cases h;exact f1

theorem x8:PO Tryz.prog 113 [.fn (.func 114) []] (W7) λr=>g5.Pv r:=by
 refine pO Tryz.func113 λr h _ _=>?_;unfold W7 at h;refine S4 1 J<|S3 1 J<|y0 J (s6 (cs:=[.fn (.func 114) [],.I 0,.I 5,.I 6]) J a1p G7 J J J)<|P1 (a6O 4 (d':=.agg [fvE (some 114),.I 0,.I 5,.I 6]) J)<|S2 1 J<|b9 ?_;cases h;exact⟨J,[_],⟨oL J J J a3f H8 nl J,tr⟩,J,io⟩

theorem X7:PO Tryz.prog 116 [.fn (.func 117) []] (P4) λr=>g5.Pv r:=by
 refine pO Tryz.func116 λr h _ _=>?_;unfold P4 at h;refine S4 1 J<|S3 1 J<|y0 J (s6 (cs:=[.fn (.func 117) [],.I (-1),.I 5,.I 13]) J a1p G7 J J J)<|P1 (a6O 4 (d':=.agg [fvE (some 117),.I (-1),.I 5,.I 13]) J)<|S2 1 J<|b9 ?_;cases h;exact⟨J,[_],⟨oL J J J a3f H8 nl J,tr⟩,J,io⟩

theorem C2{a0}:PO Tryz.prog 112 [.L g5.Pv a0] (G4 a0) λr=>.L g5.Pv r:=by
 refine pO Tryz.func112 λr h _ _=>?_;unfold G4 at h;refine S4 1 J<|S4 2 J<|b9 ?_;cases h;exact f1

theorem I0:PO Tryz.prog 113 [.fn (.func 115) []] (W8) λr=>g5.Pv r:=by
 refine pO Tryz.func113 λr h _ _=>?_;unfold W8 at h;refine S4 1 J<|S3 1 J<|y0 J (s6 (cs:=[.fn (.func 115) [],.I 0,.I 5,.I 6]) J a1p G7 J J J)<|P1 (a6O 4 (d':=.agg [fvE (some 115),.I 0,.I 5,.I 6]) J)<|S2 1 J<|b9 ?_;cases h;exact⟨J,[_],⟨oL J J J a3f H8 nl J,tr⟩,J,io⟩

theorem a4f:PO Tryz.prog 118 [.fn (.func 117) []] (T8) λr=>g5.Pv r:=by
 refine pO Tryz.func118 λr h _ _=>?_;unfold T8 at h;refine S4 1 J<|S3 1 J<|y0 J (s6 (cs:=[.fn (.func 117) [],.I 0,.I 3,.I 5]) J a1p G7 J J J)<|P1 (a6O 4 (d':=.agg [fvE (some 117),.I 0,.I 3,.I 5]) J)<|S2 1 J<|b9 ?_;cases h;exact⟨J,[_],⟨oL J J J a3f H8 nl J,tr⟩,J,io⟩

theorem a4e:PO Tryz.prog 118 [.fn (.func 115) []] (T7) λr=>g5.Pv r:=by
 refine pO Tryz.func118 λr h _ _=>?_;unfold T7 at h;refine S4 1 J<|S3 1 J<|y0 J (s6 (cs:=[.fn (.func 115) [],.I 0,.I 3,.I 5]) J a1p G7 J J J)<|P1 (a6O 4 (d':=.agg [fvE (some 115),.I 0,.I 3,.I 5]) J)<|S2 1 J<|b9 ?_;cases h;exact⟨J,[_],⟨oL J J J a3f H8 nl J,tr⟩,J,io⟩

theorem a15:PO Tryz.prog 119 [.fn (.func 117) []] (L4) λr=>g5.Pv r:=by
 refine pO Tryz.func119 λr h _ _=>?_;unfold L4 at h;refine S4 1 J<|S3 1 J<|y0 J (s6 (cs:=[.fn (.func 117) [],.I (-1),.I 5,.I 6]) J a1p G7 J J J)<|P1 (a6O 4 (d':=.agg [fvE (some 117),.I (-1),.I 5,.I 6]) J)<|S2 1 J<|b9 ?_;cases h;exact⟨J,[_],⟨oL J J J a3f H8 nl J,tr⟩,J,io⟩

theorem a4N:PO Tryz.prog 120 [.fn (.func 114) []] (W5) λr=>g5.Pv r:=by
 refine pO Tryz.func120 λr h _ _=>?_;unfold W5 at h;refine S4 1 J<|S3 1 J<|y0 J (s6 (cs:=[.fn (.func 114) [],.I 0,.I 5,.I 7]) J a1p G7 J J J)<|P1 (a6O 4 (d':=.agg [fvE (some 114),.I 0,.I 5,.I 7]) J)<|S2 1 J<|b9 ?_;cases h;exact⟨J,[_],⟨oL J J J a3f H8 nl J,tr⟩,J,io⟩

theorem Q9:PO Tryz.prog 119 [.fn (.func 115) []] (L3) λr=>g5.Pv r:=by
 refine pO Tryz.func119 λr h _ _=>?_;unfold L3 at h;refine S4 1 J<|S3 1 J<|y0 J (s6 (cs:=[.fn (.func 115) [],.I (-1),.I 5,.I 6]) J a1p G7 J J J)<|P1 (a6O 4 (d':=.agg [fvE (some 115),.I (-1),.I 5,.I 6]) J)<|S2 1 J<|b9 ?_;cases h;exact⟨J,[_],⟨oL J J J a3f H8 nl J,tr⟩,J,io⟩

theorem a4O:PO Tryz.prog 120 [.fn (.func 115) []] (W6) λr=>g5.Pv r:=by
 refine pO Tryz.func120 λr h _ _=>?_;unfold W6 at h;refine S4 1 J<|S3 1 J<|y0 J (s6 (cs:=[.fn (.func 115) [],.I 0,.I 5,.I 7]) J a1p G7 J J J)<|P1 (a6O 4 (d':=.agg [fvE (some 115),.I 0,.I 5,.I 7]) J)<|S2 1 J<|b9 ?_;cases h;exact⟨J,[_],⟨oL J J J a3f H8 nl J,tr⟩,J,io⟩

theorem b13:PO Tryz.prog 64 [] (a5P) λr=>.abs (U6 (List.map (ent iF (Ls g5.Pv)) r)):=by
 refine pO Tryz.func64 λr h _ _=>?_;refine S4 1 J<|sR<|b8J (KT:=Int) (VT:=List g5) (EK:=iF) (E:=(Ls g5.Pv)) 5000001 J J<|cF h x8 J J λv1 hv1 h=>y0 J (s6 (cs:=[.fn (.func 115) [],.I 0,.I 4,.I 1]) J a1p G7 J J J)<|P1 (a6O 3 (d':=.agg [fvE (some 115),.I 0,.I 4,.I 1]) J)<|cF h X7 J J λv2 hv2 h=>y0 J (T4 (f:=g5.Pv) (l:=[v1,(⟨(some 115),0,4,1⟩:g5),v2]) J a0a H8 G7 J J nl J J)<|cF h C2 J J λv3 _ h=>a0G (es:=[]) (k:=1) (v:=v3) (E:=(Ls g5.Pv)) (EK:=iF) (.inr J) J J J J J J Q7 (y6 J0)<|yc J (A3 J x8 J hv1)<|cF h I0 J J λv4 hv4 h=>y0 J (T4 (f:=g5.Pv) (l:=[v1,v4]) J a0a H8 G7 J J nl J J)<|cF h C2 J J λv5 hv5 h=>a0G (es:=(o0 [] 1 v3)) (k:=2) (v:=v5) (E:=(Ls g5.Pv)) (EK:=iF) (.inr J) J J J J J J Q7 (y6 J0)<|yc J (A3 J x8 J hv1)<|y0 J (T4 (f:=g5.Pv) (l:=[v1]) J a0a H8 G7 J J nl J J)<|cF h C2 J J λv6 _ h=>a0G (es:=(o0 (o0 [] 1 v3) 2 v5)) (k:=3) (v:=v6) (E:=(Ls g5.Pv)) (EK:=iF) (.inr J) J J J J J J Q7 (y6 J0)<|yc J (A3 J x8 J hv1)<|yc J (A3 J I0 J hv4)<|cF h a4f J J λv7 _ h=>y0 J (T4 (f:=g5.Pv) (l:=[v1,v4,v7]) J a0a H8 G7 J J nl J J)<|cF h C2 J J λv8 _ h=>a0G (es:=(o0 (o0 (o0 [] 1 v3) 2 v5) 3 v6)) (k:=4) (v:=v8) (E:=(Ls g5.Pv)) (EK:=iF) (.inr J) J J J J J J Q7 (y6 J0)<|yc J (A3 J x8 J hv1)<|cF h a4e J J λv9 _ h=>cF h a15 J J λv10 _ h=>y0 J (T4 (f:=g5.Pv) (l:=[v1,v9,v10]) J a0a H8 G7 J J nl J J)<|cF h C2 J J λv11 _ h=>?_;refine a0G (es:=(o0 (o0 (o0 (o0 [] 1 v3) 2 v5) 3 v6) 4 v8)) (k:=5) (v:=v11) (E:=(Ls g5.Pv)) (EK:=iF) (.inr J) J J J J J J Q7 (y6 J0)<|cF h a4N J J λv12 _ h=>cF h Q9 J J λv13 hv13 h=>yc J (A3 J X7 J hv2)<|y0 J (T4 (f:=g5.Pv) (l:=[v12,v13,v2]) J a0a H8 G7 J J nl J J)<|cF h C2 J J λv14 _ h=>a0G (es:=(o0 (o0 (o0 (o0 (o0 [] 1 v3) 2 v5) 3 v6) 4 v8) 5 v11)) (k:=6) (v:=v14) (E:=(Ls g5.Pv)) (EK:=iF) (.inr J) J J J J J J Q7 (y6 J0)<|yc J (A3 J x8 J hv1)<|cF h a4O J J λv15 _ h=>y0 J (T4 (f:=g5.Pv) (l:=[v1,v15]) J a0a H8 G7 J J nl J J)<|cF h C2 J J λv16 _ h=>a0G (es:=(o0 (o0 (o0 (o0 (o0 (o0 [] 1 v3) 2 v5) 3 v6) 4 v8) 5 v11) 6 v14)) (k:=7) (v:=v16) (E:=(Ls g5.Pv)) (EK:=iF) (.inr J) J J J J J J Q7 (y6 J0)<|yc J (A3 J x8 J hv1)<|yc J (A3 J Q9 J hv13)<|y0 J (T4 (f:=g5.Pv) (l:=[v1,v13]) J a0a H8 G7 J J nl J J)<|cF h C2 J J λv17 _ h=>a0G (es:=(o0 (o0 (o0 (o0 (o0 (o0 (o0 [] 1 v3) 2 v5) 3 v6) 4 v8) 5 v11) 6 v14) 7 v16)) (k:=8) (v:=v17) (E:=(Ls g5.Pv)) (EK:=iF) (.inr J) J J J J J J Q7 (y6 J0)<|yc J (A3 J x8 J hv1)<|yc J (A3 J I0 J hv4)<|y0 J (T4 (f:=g5.Pv) (l:=[v1,v4]) J a0a H8 G7 J J nl J J)<|yc J (A3 J C2 J hv5)<|a0G (es:=(o0 (o0 (o0 (o0 (o0 (o0 (o0 (o0 [] 1 v3) 2 v5) 3 v6) 4 v8) 5 v11) 6 v14) 7 v16) 8 v17)) (k:=9) (v:=v5) (E:=(Ls g5.Pv)) (EK:=iF) (.inr J) J J J J J J Q7 (y6 J0)<|yc J (A3 J x8 J hv1)<|yc J (A3 J I0 J hv4)<|y0 J (T4 (f:=g5.Pv) (l:=[v1,v4]) J a0a H8 G7 J J nl J J)<|yc J (A3 J C2 J hv5)<|a0G (es:=(o0 (o0 (o0 (o0 (o0 (o0 (o0 (o0 (o0 [] 1 v3) 2 v5) 3 v6) 4 v8) 5 v11) 6 v14) 7 v16) 8 v17) 9 v5)) (k:=10) (v:=v5) (E:=(Ls g5.Pv)) (EK:=iF) (.inr J) J J J J J J Q7 (y6 J0)<|cF h C2 J J λv18 _ h=>a0G (es:=(o0 (o0 (o0 (o0 (o0 (o0 (o0 (o0 (o0 (o0 [] 1 v3) 2 v5) 3 v6) 4 v8) 5 v11) 6 v14) 7 v16) 8 v17) 9 v5) 10 v5)) (k:=11) (v:=v18) (E:=(Ls g5.Pv)) (EK:=iF) (.inr J) J J J J J J Q7 (y6 J0)<|y0 J (s6 (cs:=[.fn (.func 114) [],.I 0,.I 200,.I 12]) J a1p G7 J J J) ?_;refine P1 (a6O 46 (d':=.agg [fvE (some 114),.I 0,.I 200,.I 12]) J)<|y0 J (T4 (f:=g5.Pv) (l:=[(⟨(some 114),0,200,12⟩:g5)]) J a0a H8 G7 J J nl J J)<|cF h C2 J J λv19 _ h=>a0G (es:=(o0 (o0 (o0 (o0 (o0 (o0 (o0 (o0 (o0 (o0 (o0 [] 1 v3) 2 v5) 3 v6) 4 v8) 5 v11) 6 v14) 7 v16) 8 v17) 9 v5) 10 v5) 11 v18)) (k:=12) (v:=v19) (E:=(Ls g5.Pv)) (EK:=iF) (.inr J) J J J J J J Q7 (y6 J0)<|S2 2 J<|a2L (b91 0 5000001 J J)<|b9 ?_;cases h;exact f1

theorem a8O{a0}:PO Tryz.prog 114 [c5.Pv a0] (a9d a0) λr=>.I r:=by
 refine pO Tryz.func114 λr h _ _=>?_;unfold a9d at h;refine S4 2 J<|S4 3 J<|b9 ?_;cases h;exact f1

theorem a8P{a0}:PO Tryz.prog 115 [c5.Pv a0] (a9e a0) λr=>.I r:=by
 refine pO Tryz.func115 λr h _ _=>?_;unfold a9e at h;refine S4 2 J<|S4 3 J<|b9 ?_;cases h;exact f1

theorem a8Q{a0}:PO Tryz.prog 117 [c5.Pv a0] (a9f a0) λr=>.I r:=by
 refine pO Tryz.func117 λr h _ _=>?_;unfold a9f at h;refine S4 2 J<|S4 3 J<|b9 ?_;cases h;exact f1

theorem b9d{f:Fv}{a0:c5}{r:Int}(h:a92 f a0=some r):∃n,f=some n∧A1 Tryz.prog n∧W1 Tryz.prog n [c5.Pv a0] (.I r):=by
 unfold a92 at h;by_cases e114:f=some 114
 ·rw[if_pos e114] at h;exact⟨114,e114,(@a8O a0).1,(@a8O a0).2 _ h⟩
 rw[if_neg e114] at h;by_cases e115:f=some 115
 ·rw[if_pos e115] at h;exact⟨115,e115,(@a8P a0).1,(@a8P a0).2 _ h⟩
 rw[if_neg e115] at h;by_cases e117:f=some 117
 ·rw[if_pos e117] at h;exact⟨117,e117,(@a8Q a0).1,(@a8Q a0).2 _ h⟩
 rw[if_neg e117] at h;cases h

theorem a4M{a0}:PO Tryz.prog 40 [c5.Pv a0] (P3 a0) λr=>.I r:=by
 refine pO Tryz.func40 λr h _ _=>?_;unfold P3 at h;refine S4 2 J<|dr [] x4 (by kernel_rfl) (by kernel_rfl)<|A9 h λv1 hv1 h=>d2f J (A3 J b13 J hv1) J<|S7 2 J<|d4 J (b7U (es:=v1) (k:=a0.Kind) (E:=(Ls g5.Pv)) (EK:=iF) (d:=.tup [.L g5.Pv ((A0 v1 a0.Kind).getD ([]:List g5)),.bool ((A0 v1 a0.Kind).isSome)]) J J Q7 (y6 J0) c5Q J (lk2 _ _ ([]:List g5))) J<|S8 5 J<|g9<|S4 2 J ?_;refine cN h (λhc h=>?_) λhc h=>?_
 ·refine S4 1 J ?_;refine b9 ?_;cases h;exact f1
 ·refine c8 ?_;refine jq h (λ_=>St.of [] []) (λq9 h=>?_) λκ8 h=>?_
  ·refine S4 1 J ?_;refine b9 ?_;cases h;exact f1
  ·refine S3 1 J ?_;refine nL J a0a<|S2 1 J<|k7<|lq h (λs11=>St.of [(1,.ptr 1 0 0),(17,.L g5.Pv ((A0 v1 a0.Kind).getD ([]:List g5))),(18,.I (((A0 v1 a0.Kind).getD ([]:List g5)).length:Int)),(19,.I s11)] [(1,vR (c5.Pv a0) 4)]) W λs11 x12 h hx13=>S4 1 J<|g9 ?_;refine cN h (λhc h=>?_) λhc h=>?_
   ·refine c8 ?_;refine g9<|k7<|sR<|iL h J J a0a H8 λv13 _ h=>S2 3 J<|S3 3 J ?_;obtain⟨v14,hv15,h⟩:=a9M h;obtain⟨n15,he16,hk17,hp18⟩:=b9d hv15;refine P1 (c74 24 J he16)<|y0 J (b9s J hk17 J hp18)<|S2 1 J<|S3 5 J<|n7 J (λhg=>mI J)<|n7 J (λhg=>oF J c1u J)<|n7 J (λhg=>oS (ct hg) J J I9 J)<|n7 J (λhg=>D4 (ct hg) (ct hg) J)<|y0 J (K3 J J J (λq=>eqF q))<|yN ?_;refine cN h (λhc h=>?_) λhc h=>?_
    ·refine S4 3 J ?_;refine b9 ?_;have h:=xL hx13 h;cases h;exact f1
    ·refine c8 ?_;refine S6 2 J ?_;exact eL h W
   ·refine s7 ?_;refine g6<|g6<|n0 ?_;have h:=xL hx13 h;exact eJ h W

theorem b4j{a0}:PO Tryz.prog 38 [.L (Ls c5.Pv) a0] (a0Y a0) λr=>.bool r:=by
 refine pO Tryz.func38 λr h _ _=>?_;refine S4 1 J<|g9<|S3 1 J<|nL J a5G<|S2 1 J ?_;refine cN h (λhc h=>?_) λhc h=>?_
 ·refine S4 1 J ?_;refine b9 ?_;cases h;exact f1
 ·refine c8 ?_;refine jq h (λ_=>St.of [] []) (λq21 h=>?_) λκ20 h=>?_
  ·refine S4 1 J ?_;refine b9 ?_;cases h;exact f1
  ·refine S3 1 J ?_;refine nL J a5G<|S2 1 J<|k7<|lq h (λs23=>St.of [(10,.L (Ls c5.Pv) a0),(11,.I (a0.length:Int)),(12,.I s23)] []) W λs23 x24 h hx22=>S4 1 J<|g9 ?_;refine cN h (λhc h=>?_) λhc h=>?_
   ·refine c8 ?_;refine jq h (λ_=>St.of [(10,.L (Ls c5.Pv) a0),(11,.I (a0.length:Int)),(12,.I s23)] []) (λq33 h=>?_) λκ32 h=>?_
    ·refine S6 2 J ?_;exact eL h W
    ·refine k7 ?_;refine sR<|iL h J J a5G b2O λv34 _ h=>S2 2 J<|g9<|S3 1 J<|nL J W3<|S2 1 J ?_;refine cN h (λhc h=>?_) λhc h=>?_
     ·refine S4 1 J ?_;refine b9 ?_;have h:=xL hx22 h;cases h;exact f1
     ·refine c8 ?_;refine S3 1 J<|nL J W3<|S2 1 J<|k7<|lq h (λs36=>St.of [(10,.L (Ls c5.Pv) a0),(11,.I (a0.length:Int)),(12,.I s23),(19,.L c5.Pv v34),(20,.I (v34.length:Int)),(21,.I s36)] []) W λs36 x37 h hx34=>S4 1 J<|g9 ?_;refine cN h (λhc h=>?_) λhc h=>?_
      ·refine c8 ?_;refine g9<|k7<|sR<|iL h J J W3 a0x λv38 _ h=>S2 3 J<|S3 1 J<|cA h b4i J J λv39 _ h=>S1 2 J<|n7 J (λhg=>oL J J J b5r a0x nl J)<|A9 h λv40 hv37 h=>n7 J (λhg=>M1 J a4M (a0q (ct hg) J) (a0u hv37 hg))<|n7 J (λhg=>D4 (ct hg) J J)<|y0 J (K3 J J J (λq=>eqF q))<|yN ?_;refine cN h (λhc h=>?_) λhc h=>?_
       ·refine S4 1 J ?_;refine b9 ?_;have h:=xL hx34 h;have h:=xL hx22 h;cases h;exact f1
       ·refine c8 ?_;refine S6 2 J ?_;exact eL h W
      ·refine s7 ?_;refine g6<|g6<|n0 ?_;have h:=xL hx34 h;exact eJ h W
   ·refine s7 ?_;refine g6<|g6<|n0 ?_;have h:=xL hx22 h;exact eJ h W

theorem a6V{a0 a1}:PO Tryz.prog 110 [.I a0,.I a1] (U3 a0 a1) λr=>c7.Pv r:=by
 refine pO Tryz.func110 λr h _ _=>?_;refine S4 1 J<|g9<|S3 3 J<|n7 J (λhg=>mI J)<|n7 J (λhg=>D4 (ct hg) J J)<|y0 J (K3 J J J (λq=>eqF q))<|S1 1 J<|n7 J (λhg=>mI J)<|n7 J (λhg=>D4 (ct hg) J J)<|y0 J (K3 J J J (λq=>eqF q))<|S1 1 J<|n7 J (λhg=>mI J)<|n7 J (λhg=>D4 (ct hg) J J)<|y0 J (K3 J J J (λq=>eqF q))<|yN ?_;refine cN h (λhc h=>?_) λhc h=>?_
 ·refine sR ?_;refine y0 J (s6 (cs:=[.nl,.I 0]) J c2C c2L J J J)<|a7Q (x':=.agg [.nl,.I 0]) (cl':=true) J J (.inl J) a1q<|yN<|b9 ?_;cases h;exact⟨J,[_],⟨oL J J J a2V a1q nl J,tr⟩,J,io⟩
 ·refine c8 ?_;refine S3 1 J<|A9 h λv1 hv1 h=>y1 J (b9t (f:=b7.Pv) hv1 J J J Q6 a0w b0U c2s J J J) J<|S1 1 J<|y0 J (s6 (cs:=[.sl 21,.I a1]) J c2C c2L J J J)<|S2 1 J<|b9 ?_;cases h;exact⟨J,[_],⟨oL J J J a2V a1q nl J,tr⟩,J,io⟩

theorem b6T{a0 a1}:PO Tryz.prog 60 [.I a0,.I a1] (a3F a0 a1) λr=>a7.Pv r:=by
 refine pO Tryz.func60 λr h _ _=>?_;refine S4 1 J<|S3 2 J<|cF h a6V J J λv1 _ h=>y0 J (s6 (cs:=[.L b7.Pv v1.a8,.I v1.Last,.I 0]) J c2D c2M J J J)<|S2 1 J<|b9 ?_;cases h;exact⟨J,[_],⟨oL J J J a5C a5J nl J,tr⟩,J,io⟩

theorem b8D{a0}:PO Tryz.prog 61 [.I a0] (b8C a0) λr=>.L e6.Pv r:=by
 refine pO Tryz.func61 λr h _ _=>?_;refine S4 1 J<|g9<|S3 3 J<|n7 J (λhg=>mI J)<|n7 J (λhg=>D4 (ct hg) J J)<|y0 J (K3 J J J (λq=>eqF q))<|yN ?_;refine cN h (λhc h=>?_) λhc h=>?_
 ·refine S4 1 J ?_;refine b9 ?_;cases h;exact f1
 ·refine c8 ?_;refine S3 1 J<|A9 h λv1 hv1 h=>y1 J (b9t (f:=e6.Pv) hv1 J J J W2 X6 b5v b99 J J J) J<|S2 1 J ?_;refine jq h (λj9=>St.of [(3,.sl 12)] [(12,⟨List.map e6.Pv j9,0,true,3,true⟩)]) (λj9 h=>?_) λκ8 h=>?_
  ·refine S4 2 J ?_;refine b9 ?_;cases h;exact f1
  ·refine S3 1 J ?_;refine y0 J (c4a (f:=e6.Pv) J J J W2)<|S2 1 J<|k7<|lq h (λq=>St.of [(3,.sl 12),(14,.I (v1.length:Int)),(15,.I q.1)] [(12,⟨List.map e6.Pv q.2,0,true,3,true⟩)]) W λq14 x13 h hx9=>?_;obtain⟨s11,s12⟩:=q14;refine S4 1 J<|g9 ?_;refine cN h (λhc h=>?_) λhc h=>?_
   ·refine c8 ?_;refine g9<|k7<|S4 2 J<|S5 2 J<|A9 h λv15 hv10 h=>y0 J (a8Y (f:=e6.Pv) hv10 J J J J W2 X6 J)<|S1 1 J<|b38 (f:=e6.Pv) (v:=(⟨v15.Target,v15.Intact,(-1)⟩:e6)) hv10 J J (.inl J) r7<|yN<|S6 2 J ?_;exact eL h W
   ·refine s7 ?_;refine g6<|g6<|n0 ?_;have h:=xL hx9 h;exact eJ h W

theorem b7C{a0}:PO Tryz.prog 62 [.I a0] (b0a a0) λr=>.L b8.Pv r:=by
 refine pO Tryz.func62 λr h _ _=>?_;refine S4 1 J<|g9<|S3 3 J<|n7 J (λhg=>mI J)<|n7 J (λhg=>D4 (ct hg) J J)<|y0 J (K3 J J J (λq=>eqF q))<|yN ?_;refine cN h (λhc h=>?_) λhc h=>?_
 ·refine S4 1 J ?_;refine b9 ?_;cases h;exact f1
 ·refine c8 ?_;refine S3 1 J<|A9 h λv1 hv1 h=>y1 J (b9t (f:=b8.Pv) hv1 J J J a0X a0S b2f c0a J J J) J<|S2 1 J<|b9 ?_;cases h;exact f1

theorem a6d{a0}:PO Tryz.prog 111 [.I a0] (a0C a0) λr=>c9.Pv r:=by
 refine pO Tryz.func111 λr h _ _=>?_;unfold a0C at h;refine S4 1 J<|S3 1 J<|y0 J (s6 (cs:=[.nl,.I a0]) J c8i c8r J J J)<|a7Q (x':=.agg [.nl,.I a0]) (cl':=true) J J (.inl J) a1r<|yN<|b9 ?_;cases h;exact⟨J,[_],⟨oL J J J a4J a1r nl J,tr⟩,J,io⟩

theorem b8t:PO Tryz.prog 63 [] (b8s) λr=>c9.Pv r:=by
 refine pO Tryz.func63 λr h _ _=>?_;refine S4 1 J<|sR<|cF h a6d J J λv1 _ h=>S2 1 J<|b9 ?_;cases h;exact⟨J,[_],⟨oL J J J a4J a1r nl J,tr⟩,J,io⟩

theorem b7E{a0 a1 a2}:PO Tryz.prog 39 [.I a0,.I a1,.I a2] (a2F a0 a1 a2) λr=>b6.Pv r:=by
 refine pO Tryz.func39 λr h _ _=>?_;refine S4 1 J<|g9<|S3 3 J<|n7 J (λhg=>mI J)<|n7 J (λhg=>D4 (ct hg) J J)<|y0 J (K3 J J J (λq=>eqF q))<|S1 1 J<|n7 J (λhg=>mI J)<|n7 J (λhg=>D4 (ct hg) J J)<|y0 J (K3 J J J (λq=>eqF q))<|S1 1 J<|n7 J (λhg=>mI J)<|n7 J (λhg=>D4 (ct hg) J J)<|y0 J (K3 J J J (λq=>eqF q))<|S1 1 J<|n7 J (λhg=>mI J)<|n7 J (λhg=>D4 (ct hg) J J)<|y0 J (K3 J J J (λq=>eqF q))<|S1 1 J<|n7 J (λhg=>mI J)<|n7 J (λhg=>D4 (ct hg) J J)<|y0 J (K3 J J J (λq=>eqF q))<|yN ?_;refine cN h (λhc h=>?_) λhc h=>?_
 ·refine sR ?_;refine y0 J (s6 (cs:=[.nl,.I 0,.I 0,.nl,.nl,.nl,.nl,.I 0]) J c2E c2N J J J)<|a7Q (x':=.agg [.nl,.I 0,.I 0,.nl,.nl,.nl,.nl,.I 0]) (cl':=true) J J (.inl J) n8<|yN<|b9 ?_;cases h;exact⟨J,[_],⟨oL J J J o9 n8 nl J,tr⟩,J,io⟩
 ·refine c8 ?_;refine dr [] x4 (by kernel_rfl) (by kernel_rfl)<|S7 2 J<|A9 h λv1 hv1 h=>d2f J (A3 J b6T J hv1) J<|A9 h λv2 hv2 h=>d1 J (b9t (f:=iF) hv2 J J J l7 r7 D6 Y5 J J J) J J J<|A9 h λv3 hv3 h=>d2f J (A3 J b8D J hv3) J<|S7 1 J<|A9 h λv4 hv4 h=>d2f J (A3 J b7C J hv4) J<|A9 h λv5 hv5 h=>d2f J (A3 J b8t J hv5) J<|d7 J (λ_ hN=>s6 (cs:=[.L b7.Pv v1.S.a8,.I v1.S.Last,.I v1.Serial,.sl 33,.L e6.Pv v3,.L b8.Pv v4,.L g7.Pv v5.L,.I v5.Cap]) J c2E c2N J J J) J<|D7 (x':=.agg [.L b7.Pv v1.S.a8,.I v1.S.Last,.I v1.Serial,.sl 33,.L e6.Pv v3,.L b8.Pv v4,.L g7.Pv v5.L,.I v5.Cap]) (cl':=false) J J (.inr J) n8<|a1t<|b9 ?_;cases h;exact⟨J,[_],⟨oL J J J o9 n8 nl J,tr⟩,J,io⟩

theorem a8T{a0 a1 a2 a3}:PO Tryz.prog 24 [.I a0,.I a1,.I a2,.L (Ls c5.Pv) a3] (Y8 a0 a1 a2 a3) λr=>.tup [m8.Pv r.1,.I r.2]:=by
 refine pO Tryz.func24 λr h _ _=>?_;refine S4 2 J<|g9<|S3 1 J<|cA h b4j J J λv1 _ h=>S2 1 J ?_;refine cN h (λhc h=>?_) λhc h=>?_
 ·refine sR ?_;refine y0 J (s6 (cs:=[.nl,.I 0,.I 0,.nl,.nl,.nl,.nl,.I 0,.nl]) J b8Q b8S J J J)<|a7Q (x':=.agg [.nl,.I 0,.I 0,.nl,.nl,.nl,.nl,.I 0,.nl]) (cl':=true) J J (.inl J) P2<|S2 1 J<|b9 ?_;cases h;exact⟨J,[_,_],⟨oL J J J a13 P2 nl J,⟨J,tr⟩⟩,J,io⟩
 ·refine c8 ?_;refine S3 3 J<|cF h b7E J J λv2 _ h=>S2 2 J<|g9<|S3 2 J<|nL J l7<|S2 1 J ?_;refine cN h (λhc h=>?_) λhc h=>?_
  ·refine sR ?_;refine y0 J (s6 (cs:=[.nl,.I 0,.I 0,.nl,.nl,.nl,.nl,.I 0,.nl]) J b8Q b8S J J J)<|a7Q (x':=.agg [.nl,.I 0,.I 0,.nl,.nl,.nl,.nl,.I 0,.nl]) (cl':=true) J J (.inl J) P2<|S2 1 J<|b9 ?_;cases h;exact⟨J,[_,_],⟨oL J J J a13 P2 nl J,⟨J,tr⟩⟩,J,io⟩
  ·refine c8 ?_;refine S3 2 J<|y0 J (s6 (cs:=[.L b7.Pv v2.S.S.a8,.I v2.S.S.Last,.I v2.S.Serial,.L iF v2.Roots,.L e6.Pv v2.a8,.L b8.Pv v2.T,.L g7.Pv v2.Q.L,.I v2.Q.Cap,.L (Ls c5.Pv) a3]) J b8Q b8S J J J)<|S2 2 J<|b9 ?_;cases h;exact⟨J,[_,_],⟨oL J J J a13 P2 nl J,⟨J,tr⟩⟩,J,io⟩

theorem b8H{a0 a1}:PO Tryz.prog 16 [.I a0,.I a1] (b0Q a0 a1) λr=>m8.Pv r:=by
 refine pO Tryz.func16 λr h _ _=>?_;refine S4 1 J<|S3 2 J<|cF h a8T J J λv1 _ h=>S2 6 J<|S4 2 J<|b9 ?_;cases h;exact⟨J,[_],⟨oL J J J a13 P2 nl J,tr⟩,J,io⟩

theorem O0{a0 a1 a2 a3}:PO Tryz.prog 18 [.I a0,.I a1,.I a2,.I a3] (a1b a0 a1 a2 a3) λr=>.lst true (List.map iF r):=by
 refine pO Tryz.func18 λr h _ _=>?_;unfold a1b at h;refine S4 1 J<|S3 4 J<|y0 J (T4 (f:=iF) (l:=[a0,a1,a2,a3]) J l7 r7 D6 J J nl J J)<|S2 1 J<|b9 ?_;cases h;exact f1

theorem b2R{a0}:PO Tryz.prog 27 [.L iF a0] (T5 a0) λr=>.tup [c5.Pv r.1,.I r.2]:=by
 refine pO Tryz.func27 λr h _ _=>?_;refine S4 2 J<|g9<|S3 1 J<|nL J l7<|S2 1 J ?_;refine cN h (λhc h=>?_) λhc h=>?_
 ·refine sR ?_;refine y0 J (s6 (cs:=[.I 0,.I 0,.I 0,.I 0]) J b5u a88 J J J)<|S2 2 J<|b9 ?_;cases h;exact⟨J,[_,_],⟨oL J J J b5r a0x nl J,⟨J,tr⟩⟩,J,io⟩
 ·refine c8 ?_;refine dr [] x4 (by kernel_rfl) (by kernel_rfl)<|S7 1 J<|A9 h λv1 hv1 h=>d0 J (K9 (f:=iF) (cs:=[.I v1]) hv1 J J l7 r7 J J) J<|S7 2 J<|A9 h λv2 hv2 h=>d0 J (K9 (f:=iF) (cs:=[.I v2]) hv2 J J l7 r7 J J) J<|S7 2 J<|A9 h λv3 hv3 h=>d0 J (K9 (f:=iF) (cs:=[.I v3]) hv3 J J l7 r7 J J) J<|S7 2 J<|A9 h λv4 hv4 h=>d0 J (K9 (f:=iF) (cs:=[.I v4]) hv4 J J l7 r7 J J) J<|S7 1 J<|d7 J (λ_ hN=>s6 (cs:=[.I v1,.I v2,.I v3,.I v4]) J b5u a88 J J J) J<|S7 1 J<|D7 (x':=.agg [.I v1,.I v2,.I v3,.I v4]) (cl':=true) J J (.inl J) a0x<|a1t<|g9<|S3 1 J<|cA h a4M J J λv5 _ h=>S2 1 J<|S4 2 J ?_;refine cN h (λhc h=>?_) λhc h=>?_
  ·refine sR ?_;refine y0 J (s6 (cs:=[.I 0,.I 0,.I 0,.I 0]) J b5u a88 J J J)<|S2 3 J<|b9 ?_;cases h;exact⟨J,[_,_],⟨oL J J J b5r a0x nl J,⟨J,tr⟩⟩,J,io⟩
  ·refine c8 ?_;refine S4 3 J<|b9 ?_;cases h;exact⟨J,[_,_],⟨oL J J J b5r a0x nl J,⟨J,tr⟩⟩,J,io⟩

theorem b15{a0}:PO Tryz.prog 28 [c5.Pv a0] (a5S a0) λr=>ifE a86 r:=by
 refine pO Tryz.func28 λr h _ _=>?_;refine S4 2 J<|g9<|S4 2 J<|k7<|S4 2 J ?_;refine cN h (λhc h=>?_) λhc h=>?_
 ·refine sR ?_;refine y0 J (s6 (cs:=[]) J c8n c2P J J J)<|y0 J (b9u (n:=a86) (T:=89) (xs:=[]) J c2G J)<|S2 1 J<|b9 ?_;cases h;exact f1
 ·refine S4 2 J ?_;refine cN h (λhc h=>?_) λhc h=>?_
  ·refine S3 2 J ?_;refine y0 J (s6 (cs:=[.I a0.A]) J c8o c2Q J J J)<|y0 J (b9u (n:=a86) (T:=93) (xs:=[a0.A]) J c2H J)<|S2 1 J<|b9 ?_;cases h;exact f1
  ·refine c8 ?_;refine S3 1 J<|y0 J (s6 (cs:=[.I a0.Kind,.I a0.A,.I a0.B,.I a0.C]) J c8m c2O J J J)<|y0 J (b9u (n:=a86) (T:=85) (xs:=[a0.Kind,a0.A,a0.B,a0.C]) J c2F J)<|S2 1 J<|b9 ?_;cases h;exact f1

theorem b1a:PO Tryz.prog 41 [] (a2u) λr=>.abs (U6 (List.map (ent iF fvE) r)):=by
 refine pO Tryz.func41 λr h _ _=>?_;unfold a2u at h;refine S4 1 J<|sR<|b8J (KT:=Int) (VT:=Fv) (EK:=iF) (E:=fvE) 5000001 J J<|a4Z (es:=[]) (k:=1) (v:=(some 65)) (E:=fvE) (EK:=iF) (.inr J) J J J J J J Y6 (y6 J0)<|a4Z (es:=(o0 [] 1 (some 65))) (k:=2) (v:=(some 66)) (E:=fvE) (EK:=iF) (.inr J) J J J J J J Y6 (y6 J0)<|a4Z (es:=(o0 (o0 [] 1 (some 65)) 2 (some 66))) (k:=3) (v:=(some 67)) (E:=fvE) (EK:=iF) (.inr J) J J J J J J Y6 (y6 J0)<|a4Z (es:=(o0 (o0 (o0 [] 1 (some 65)) 2 (some 66)) 3 (some 67))) (k:=4) (v:=(some 68)) (E:=fvE) (EK:=iF) (.inr J) J J J J J J Y6 (y6 J0)<|a4Z (es:=(o0 (o0 (o0 (o0 [] 1 (some 65)) 2 (some 66)) 3 (some 67)) 4 (some 68))) (k:=5) (v:=(some 69)) (E:=fvE) (EK:=iF) (.inr J) J J J J J J Y6 (y6 J0)<|a4Z (es:=(o0 (o0 (o0 (o0 (o0 [] 1 (some 65)) 2 (some 66)) 3 (some 67)) 4 (some 68)) 5 (some 69))) (k:=6) (v:=(some 70)) (E:=fvE) (EK:=iF) (.inr J) J J J J J J Y6 (y6 J0)<|a4Z (es:=(o0 (o0 (o0 (o0 (o0 (o0 [] 1 (some 65)) 2 (some 66)) 3 (some 67)) 4 (some 68)) 5 (some 69)) 6 (some 70))) (k:=7) (v:=(some 71)) (E:=fvE) (EK:=iF) (.inr J) J J J J J J Y6 (y6 J0)<|a4Z (es:=(o0 (o0 (o0 (o0 (o0 (o0 (o0 [] 1 (some 65)) 2 (some 66)) 3 (some 67)) 4 (some 68)) 5 (some 69)) 6 (some 70)) 7 (some 71))) (k:=8) (v:=(some 72)) (E:=fvE) (EK:=iF) (.inr J) J J J J J J Y6 (y6 J0)<|a4Z (es:=(o0 (o0 (o0 (o0 (o0 (o0 (o0 (o0 [] 1 (some 65)) 2 (some 66)) 3 (some 67)) 4 (some 68)) 5 (some 69)) 6 (some 70)) 7 (some 71)) 8 (some 72))) (k:=9) (v:=(some 73)) (E:=fvE) (EK:=iF) (.inr J) J J J J J J Y6 (y6 J0)<|a4Z (es:=(o0 (o0 (o0 (o0 (o0 (o0 (o0 (o0 (o0 [] 1 (some 65)) 2 (some 66)) 3 (some 67)) 4 (some 68)) 5 (some 69)) 6 (some 70)) 7 (some 71)) 8 (some 72)) 9 (some 73))) (k:=10) (v:=(some 74)) (E:=fvE) (EK:=iF) (.inr J) J J J J J J Y6 (y6 J0)<|S2 2 J<|a2L (b91 0 5000001 J J)<|b9 ?_;cases h;exact f1

theorem b9Z{a0}:PO Tryz.prog 161 [.I a0] (b61 a0) λr=>.tup [.L iF r.1,.I r.2]:=by
 refine pO Tryz.func161 λr h _ _=>?_;refine S4 2 J<|g9<|S3 3 J<|n7 J (λhg=>mI J)<|n7 J (λhg=>D4 (ct hg) J J)<|y0 J (K3 J J J (λq=>eqF q))<|yN ?_;refine cN h (λhc h=>?_) λhc h=>?_
 ·refine S4 2 J ?_;refine b9 ?_;cases h;exact f2
 ·refine c8 ?_;refine S3 1 J<|A9 h λv1 hv1 h=>y1 J (b9t (f:=iF) hv1 J J J l7 r7 D6 Y5 J J J) J<|S2 2 J<|b9 ?_;cases h;exact f2

theorem a7K{a0}:PO Tryz.prog 162 [.I a0] (O9 a0) λr=>.bool r:=by
 refine pO Tryz.func162 λr h _ _=>?_;unfold O9 at h;refine S4 1 J<|S3 3 J<|n7 J (λhg=>mI J)<|n7 J (λhg=>D4 (ct hg) J J)<|y0 J (H3 J J J (λq=>eqT q))<|S2 1 J<|b9 ?_;cases h;exact f1

theorem a6p{a0}:PO Tryz.prog 202 [c7.Pv a0] (L2 a0) λr=>.fn (.func 221) [.rptr (c7.Pc r)]:=by
 refine pO Tryz.func202 λr h _ _=>?_;unfold L2 at h;refine S4 2 J<|S4 2 J<|b9 ?_;cases h;exact f1

theorem J6{a0}:PON Tryz.prog 208 [.L b7.Pv a0] (u4 a0) λr=>⟨List.map b7.Pv r,0,true,8,true⟩:=by
 refine pON Tryz.func208 λr h _ _=>?_;unfold u4 at h;refine S4 1 J<|g9<|S3 1 J<|b65 J Q6 λb hb=>yN ?_;refine F8 b J (λhc=>?_) (λhc=>?_)
 ·obtain rfl:a0 = []:=by simpa using hb hc
  refine S4 1 J<|a2L (T0 (t:=2) (l:=920000) (z:=8) J J)<|b9 ?_;cases h;exact⟨J,_,_,J,J,J,J⟩
 ·refine c8 ?_;refine sR<|y0 J (a5d J Q6 a0w)<|S1 1 J<|y1 J (b45 (f:=b7.Pv) h J J (.inl ⟨_,J,J⟩) Q6 a0w c2s b0U J (λ_=>J)) J<|S2 1 J<|b9 ?_;exact⟨J,_,_,J,J,J,J⟩

theorem G1{a0 a1 a2}:PO Tryz.prog 176 [c7.Pv a0,.I a1,b7.Pv a2] (B1 a0 a1 a2) λr=>c7.Pv r:=by
 refine pO Tryz.func176 λr h _ _=>?_;unfold B1 at h;refine S4 3 J<|S3 2 J<|A9 h λv1 hv1 h=>ycN J (b46 J J6 J hv1) J J<|S2 2 J<|S3 4 J<|A9 h λv2 hv2 h=>y0 J (a8Y (f:=b7.Pv) hv2 J J J J Q6 a0w J)<|b38 (f:=b7.Pv) (v:=a2) hv2 J J (.inr J) a0w<|yN<|S4 2 J<|b9 ?_;cases h;exact⟨J,[_],⟨oL J J J a2V a1q nl J,tr⟩,J,io⟩

theorem a7d{a0 a1}:PO Tryz.prog 50 [.I a0,.I a1] (a1g a0 a1) λr=>.I r:=by
 refine pO Tryz.func50 λr h _ _=>?_;refine S4 1 J<|g9<|S3 3 J<|n7 J (λhg=>mI J)<|n7 J (λhg=>D4 (ct hg) J J)<|y0 J (K3 J J J (λq=>eqF q))<|S1 1 J<|n7 J (λhg=>mI J)<|n7 J (λhg=>D4 (ct hg) J J)<|y0 J (K3 J J J (λq=>eqF q))<|S1 1 J<|n7 J (λhg=>mI J)<|n7 J (λhg=>D4 (ct hg) J J)<|y0 J (K3 J J J (λq=>eqF q))<|yN ?_;refine cN h (λhc h=>?_) λhc h=>?_
 ·refine S4 1 J ?_;refine b9 ?_;cases h;exact f1
 ·refine c8 ?_;refine S4 7 J<|b9 ?_;cases h;exact f1

theorem a6o{a0 a1}:PO Tryz.prog 163 [c7.Pv a0,l5.Pv a1] (G3 a0 a1) λr=>.tup [c7.Pv r.1,.I r.2.1,.I r.2.2]:=by
 refine pO Tryz.func163 λr h _ _=>?_;refine S4 5 J ?_;refine jq h (λ_=>St.of [(2,.ptr 2005 0 0),(4,.ptr 2003 0 0),(5,.ptr 2002 0 0),(6,.ptr 2001 0 0)] [(2001,vR (.I 0) 1),(2002,vR (.I 0) 1),(2003,vR (.agg [.nl,.I 0]) 2),(2005,vR (c7.Pv a0) 2)]) (λq10 h=>?_) λκ9 h=>?_
 ·refine S4 4 J ?_;refine b9 ?_;cases h;exact⟨J,[_,_,_],⟨oL J J J a2V a1q nl J,⟨oS J J J I9 J,⟨oS J J J b0T J,tr⟩⟩⟩,J,io⟩
 ·refine S3 1 J ?_;refine cF h a6p J J λv11 _ h=>yN<|k7<|a2L (WPE (λl=>if l=2006 then 6 else if l=2007 then 5 else if l=2008 then 4 else if l=2009 then 3 else if l=2010 then 2 else l) [(2,.ptr 2010 0 0),(3,.ptr 2009 0 0),(4,.ptr 2008 0 0),(5,.ptr 2007 0 0),(6,.ptr 2006 0 0),(10,.fn (.func 221) [.rptr (c7.Pc v11)])] [(2006,vR (.I 0) 1),(2007,vR (.I 0) 1),(2008,vR (.agg [.nl,.I 0]) 2),(2009,vR (l5.Pv a1) 6),(2010,vR (c7.Pv a0) 2)]) ?_;refine a1G (fn:=Tryz.f221) (N1:=23) J Tryz.func221 J J nl J c5E J J (λl19 e20 o21 hR22=>?_);refine S3 2 J<|nL J Q6<|S2 1 J<|k7<|lq h (λs13=>St.of [(1000002,.ptr 2010 0 0),(1000003,.ptr 2009 0 0),(1000004,.ptr 2008 0 0),(1000005,.ptr 2007 0 0),(1000006,.ptr 2006 0 0),(1000010,.fn (.func 221) [.rptr (c7.Pc v11)]),(0,.fn (.yield l19) []),(6,.L b7.Pv v11.a8),(7,.I (v11.a8.length:Int)),(8,.I s13)] [(2006,vR (.I 0) 1),(2007,vR (.I 0) 1),(2008,vR (.agg [.nl,.I 0]) 2),(2009,vR (l5.Pv a1) 6),(2010,vR (c7.Pv a0) 2)]) W λs13 x14 h hx25=>S4 1 J<|g9 ?_;refine cN h (λhc h=>?_) λhc h=>?_
  ·refine c8 ?_;refine g9<|k7<|S3 1 J<|iL h J J Q6 a0w λv15 _ h=>S2 4 J<|S3 4 J<|n7 J (λhg=>om (d:=.fn (.yield l19) []) J)<|n7 J (λhg=>mI J) ?_;rcases Bool.eq_false_or_eq_true ((v15.State==0)==true) with hg27 | hg27
   ·have h:=ifT h hg27;refine P1 (WE [(1000002,.ptr 2010 0 0),(1000003,.ptr 2009 0 0),(1000004,.ptr 2008 0 0),(1000005,.ptr 2007 0 0),(1000006,.ptr 2006 0 0),(1000010,.fn (.func 221) [.rptr (c7.Pc v11)]),(0,.fn (.yield l19) []),(6,.L b7.Pv v11.a8),(7,.I (v11.a8.length:Int)),(8,.I s13),(16,.bool (v15.State==0)),(17,.fn (.yield l19) []),(18,.I s13)] [(2006,vR (.I 0) 1),(2007,vR (.I 0) 1),(2008,vR (.agg [.nl,.I 0]) 2),(2009,vR (l5.Pv a1) 6),(2010,vR (c7.Pv a0) 2)]) ?_;refine a6A hR22 (congrArg some hg27) J J J J J (λe28 o29 o30=>?_);refine S6 1 J ?_;refine⟨J,?_⟩;refine k7<|S3 3 J<|iL h J J Q6 a0w λv16 _ h=>S2 3 J<|S3 4 J<|y0 J (s6 (cs:=[.I 1,.I v16.Gen,.I a1.Serial,.I a1.Strong,.I a1.Weak,.I a1.Prog,.bool a1.Started,.L iF a1.Fields]) J b5t b0U J J J)<|cF h G1 J J λv17 _ h=>S1 2 J<|cA h a7d J J λv18 _ h=>S2 3 J<|b9 ?_;refine⟨J,?_⟩;refine P1 (WE [(1000002,.ptr 2010 0 0),(1000003,.ptr 2009 0 0),(1000004,.ptr 2008 0 0),(1000005,.ptr 2007 0 0),(1000006,.ptr 2006 0 0),(1000010,.fn (.func 221) [.rptr (c7.Pc v11)]),(0,.fn (.yield l19) []),(6,.L b7.Pv v11.a8),(7,.I (v11.a8.length:Int)),(8,.I s13),(16,.bool (v15.State==0)),(19,.bool false)] [(2006,vR (.I 0) 1),(2007,vR (.I v18) 1),(2008,vR (c7.Pv v17) 2),(2009,vR (l5.Pv a1) 6),(2010,vR (c7.Pv a0) 2)])<|y0 (congrArg some hg27) (a3X J J)<|y0 J (a6b J J hg27)<|yN ?_;refine F8 true J (λ_=>?_) (λq=>nomatch q);refine b9 ?_;refine .inr ⟨.ret,J,c6j ?_⟩;have h:=xL hx25 h;cases h;exact⟨J,[_,_,_],⟨oL J J J a2V a1q nl J,⟨oS J J J I9 J,⟨oS J J J b0T J,tr⟩⟩⟩,J,io⟩
   ·have h:=ifF h hg27;refine a1S (congrArg some hg27)<|a1S (congrArg some hg27)<|y0 J (a8d J J hg27)<|yN ?_;refine F8 false J (λq=>nomatch q) (λ_=>?_);refine c8<|S6 2 J ?_;exact eL h W
  ·refine s7 ?_;refine g6<|g6<|n0 ?_;refine .inl ⟨J,?_⟩;have h:=xL hx25 h;exact eJ h (WP (λl=>if l=2005 then 2010 else if l=2003 then 2008 else if l=2002 then 2007 else if l=2001 then 2006 else l))

theorem b4x{a0 a1 a2}:PO Tryz.prog 121 [a7.Pv a0,.I a1,.I a2] (Q0 a0 a1 a2) λr=>.tup [a7.Pv r.1,.I r.2.1,.I r.2.2]:=by
 refine pO Tryz.func121 λr h _ _=>?_;refine S4 4 J<|S3 1 J<|cF h b9Z J J λv1 _ h=>S2 5 J<|g9<|S4 2 J ?_;refine cN h (λhc h=>?_) λhc h=>?_
 ·refine S4 5 J ?_;refine b9 ?_;cases h;exact⟨J,[_,_,_],⟨oL J J J a5C a5J nl J,⟨J,⟨J,tr⟩⟩⟩,J,io⟩
 ·refine c8 ?_;refine g9<|S3 1 J<|cA h a7K J J λv2 _ h=>S2 1 J ?_;refine cN h (λhc h=>?_) λhc h=>?_
  ·refine S4 4 J ?_;refine b9 ?_;cases h;exact⟨J,[_,_,_],⟨oL J J J a5C a5J nl J,⟨J,⟨J,tr⟩⟩⟩,J,io⟩
  ·refine c8 ?_;refine S3 7 J<|y0 J (s6 (cs:=[.I (u5 (a0.Serial+1)),.I 0,.I 0,.I a2,.bool false,.L iF v1.1]) J c8k c8s J J J)<|cF h a6o J J λv3 _ h=>S2 8 J<|g9<|S4 2 J ?_;refine cN h (λhc h=>?_) λhc h=>?_
   ·refine S4 5 J ?_;refine b9 ?_;cases h;exact⟨J,[_,_,_],⟨oL J J J a5C a5J nl J,⟨J,⟨J,tr⟩⟩⟩,J,io⟩
   ·refine c8 ?_;refine S3 4 J<|y0 J (s6 (cs:=[.L b7.Pv v3.1.a8,.I v3.1.Last,.I (u5 (a0.Serial+1))]) J c2D c2M J J J)<|S2 4 J<|b9 ?_;cases h;exact⟨J,[_,_,_],⟨oL J J J a5C a5J nl J,⟨J,⟨J,tr⟩⟩⟩,J,io⟩

theorem a6F{a0}:PO Tryz.prog 213 [.I a0] (a1x a0) λr=>.tup [.I r.1,.I r.2.1,.bool r.2.2]:=by
 refine pO Tryz.func213 λr h _ _=>?_;refine S4 3 J<|g9<|S4 2 J ?_;refine cN h (λhc h=>?_) λhc h=>?_
 ·refine S4 3 J ?_;refine b9 ?_;cases h;exact f3
 ·refine c8 ?_;refine S3 2 J<|A9 h λv1 hv1 h=>y0 J (b3n J J hv1)<|A9 h λv2 hv2 h=>y0 J (b3n J J hv2)<|S1 2 J<|A9 h λv3 hv3 h=>y0 J (b3n J J hv3)<|S2 2 J<|g9<|S3 3 J<|n7 J (λhg=>mI J)<|n7 J (λhg=>D4 (ct hg) J J)<|y0 J (K3 J J J (λq=>eqF q))<|yN ?_;refine cN h (λhc h=>?_) λhc h=>?_
  ·refine S4 3 J ?_;refine b9 ?_;cases h;exact f3
  ·refine c8 ?_;refine S4 5 J<|b9 ?_;cases h;exact f3

theorem a7e{a0}:PO Tryz.prog 187 [.I a0] (a2E a0) λr=>.I r:=by
 refine pO Tryz.func187 λr h _ _=>?_;refine S4 1 J<|S3 1 J<|cA h a6F J J λv1 _ h=>S2 7 J<|S4 2 J<|b9 ?_;cases h;exact f1

theorem a8V{a0}:PO Tryz.prog 188 [.I a0] (a3O a0) λr=>.I r:=by
 refine pO Tryz.func188 λr h _ _=>?_;refine S4 1 J<|S3 1 J<|cA h a6F J J λv1 _ h=>S2 7 J<|S4 2 J<|b9 ?_;cases h;exact f1

theorem G0{a0 a1}:PO Tryz.prog 155 [c7.Pv a0,.I a1] (r8 a0 a1) λr=>.tup [.I r.1,.I r.2]:=by
 refine pO Tryz.func155 λr h _ _=>?_;refine S4 3 J<|g9<|S4 2 J ?_;refine cN h (λhc h=>?_) λhc h=>?_
 ·refine S4 2 J ?_;refine b9 ?_;cases h;exact f2
 ·refine c8 ?_;refine S3 1 J<|cA h a7e J J λv1 _ h=>S2 1 J<|g9<|S3 3 J<|n7 J (λhg=>mI J)<|n7 J (λhg=>oF J c2u J)<|n7 J (λhg=>oS (ct hg) J J c8a J)<|n7 J (λhg=>a6J (f:=b7.Pv) (ct hg) Q6)<|n7 J (λhg=>D4 (ct hg) (ct hg) J)<|y0 J (K3 J J J (λq=>eqF q))<|yN ?_;refine cN h (λhc h=>?_) λhc h=>?_
  ·refine S4 2 J ?_;refine b9 ?_;cases h;exact f2
  ·refine c8 ?_;refine S3 3 J<|iL h J J Q6 a0w λv2 _ h=>S2 3 J<|g9<|dr [] x4 (by kernel_rfl) (by kernel_rfl)<|S7 3 J<|A9 h λv3 hv3 h=>d2 J (M1 J a8V J hv3) J<|S7 2 J<|a9U J (λhg _ hN=>oF J b7i J) J<|b4K J (λhg=>oS (ct hg) J J I9 J) J<|a9U J (λhg _ hN=>D4 (ct hg) J J) J<|a9U J (λhg _ hN=>om (d:=.bool (v2.State != 1)) (ct hg)) J<|a9U (a4a J J J) (λhg _ hN=>oF J b7i J) J<|b4K (a4a J J J) (λhg=>oS (ct hg) J J I9 J) J<|a9U (a4a J J J) (λhg _ hN=>D4 (ct hg) J J) J<|a9U J (λhg _ hN=>H3 (ct hg) J J (λq=>c8x hg (eqT q))) J<|d7 J (λ_ hN=>K3 J J J (λq=>eqF q)) J<|a1t ?_;refine cN h (λhc h=>?_) λhc h=>?_
   ·refine S4 2 J ?_;refine b9 ?_;cases h;exact f2
   ·refine c8 ?_;refine S4 3 J<|b9 ?_;cases h;exact f2

theorem a11{a0 a1}:PO Tryz.prog 98 [c7.Pv a0,.I a1] (B7 a0 a1) λr=>.tup [l5.Pv r.1,.I r.2]:=by
 refine pO Tryz.func98 λr h _ _=>?_;refine S4 3 J<|S4 1 J<|S3 2 J<|cA h G0 J J λv1 _ h=>S2 5 J<|g9<|S4 2 J ?_;refine cN h (λhc h=>?_) λhc h=>?_
 ·refine S3 2 J ?_;refine a7Q (x':=.agg [.I 0,.I 0,.I 0,.I 0,.bool false,.nl]) (cl':=true) J J (.inl J) a60<|S2 1 J<|b9 ?_;cases h;exact⟨J,[_,_],⟨oL J J J b2L a60 nl J,⟨J,tr⟩⟩,J,io⟩
 ·refine c8 ?_;refine g9<|S3 3 J<|iL h J J Q6 a0w λv2 hv2 h=>S2 3 J ?_;refine cN h (λhc h=>?_) λhc h=>?_
  ·refine S3 1 J ?_;refine a7Q (x':=.agg [.I 0,.I 0,.I 0,.I 0,.bool false,.nl]) (cl':=true) J J (.inl J) a60<|S2 1 J<|b9 ?_;cases h;exact⟨J,[_,_],⟨oL J J J b2L a60 nl J,⟨J,tr⟩⟩,J,io⟩
  ·refine c8 ?_;refine S3 3 J<|y0 J (K9 (f:=b7.Pv) (cs:=b7.Pc v2) hv2 J J Q6 a0w J J)<|S2 4 J<|b9 ?_;cases h;exact⟨J,[_,_],⟨oL J J J b2L a60 nl J,⟨J,tr⟩⟩,J,io⟩

theorem A6{a0 a1}:PO Tryz.prog 54 [a7.Pv a0,.I a1] (r9 a0 a1) λr=>.tup [l5.Pv r.1,.I r.2]:=by
 refine pO Tryz.func54 λr h _ _=>?_;refine S4 3 J<|S3 3 J<|cF h a11 J J λv1 _ h=>S2 4 J<|b9 ?_;cases h;exact⟨J,[_,_],⟨oL J J J b2L a60 nl J,⟨J,tr⟩⟩,J,io⟩

theorem b3d{a0 a1}:PO Tryz.prog 204 [b6.Pv a0,.I a1] (a4q a0 a1) λr=>.bool r:=by
 refine pO Tryz.func204 λr h _ _=>?_;refine S4 2 J<|S3 3 J<|cF h A6 J J λv1 _ h=>S2 6 J<|S4 3 J<|b9 ?_;cases h;exact f1

theorem R4{a0 a1}:PO Tryz.prog 165 [b6.Pv a0,.I a1] (I1 a0 a1) λr=>.bool r:=by
 refine pO Tryz.func165 λr h _ _=>?_;unfold I1 at h;refine S4 2 J<|S3 3 J<|n7 J (λhg=>oL J J J o9 n8 nl J)<|n7 J (λhg=>mI J)<|A9 h λv1 hv1 h=>n7 J (λhg=>M1 J b3d (a0q (ct hg) (a0q (ct hg) J)) (a0u hv1 hg))<|y0 J (K3 J J J (λq=>eqF q))<|S2 1 J<|b9 ?_;cases h;exact f1

theorem Y7{a0}:PO Tryz.prog 209 [.I a0] (D5 a0) λr=>.bool r:=by
 refine pO Tryz.func209 λr h _ _=>?_;unfold D5 at h;refine S4 1 J<|S4 3 J<|b9 ?_;cases h;exact f1

theorem a9S{a0}:PO Tryz.prog 179 [.I a0] (a3I a0) λr=>.tup [.I r.1,.I r.2]:=by
 refine pO Tryz.func179 λr h _ _=>?_;refine S4 2 J<|g9<|S3 1 J<|cA h Y7 J J λv1 _ h=>yN ?_;refine cN h (λhc h=>?_) λhc h=>?_
 ·refine S4 2 J ?_;refine b9 ?_;cases h;exact f2
 ·refine c8 ?_;refine S3 1 J<|y0 J (c4b J J J)<|S2 3 J<|b9 ?_;cases h;exact f2

theorem b5F{a0}:PO Tryz.prog 133 [.I a0] (a7V a0) λr=>.I r:=by
 refine pO Tryz.func133 λr h _ _=>?_;refine S4 1 J<|S3 1 J<|cA h a9S J J λv1 _ h=>S2 5 J<|S4 2 J<|b9 ?_;cases h;exact f1

theorem a6W{a0 a1 a2}:PO Tryz.prog 130 [c7.Pv a0,.I a1,l5.Pv a2] (H5 a0 a1 a2) λr=>.tup [c7.Pv r.1,.I r.2]:=by
 refine pO Tryz.func130 λr h _ _=>?_;refine S4 4 J<|S3 2 J<|cA h G0 J J λv1 _ h=>S2 5 J<|g9<|S4 2 J ?_;refine cN h (λhc h=>?_) λhc h=>?_
 ·refine S4 4 J ?_;refine b9 ?_;cases h;exact⟨J,[_,_],⟨oL J J J a2V a1q nl J,⟨J,tr⟩⟩,J,io⟩
 ·refine c8 ?_;refine S3 3 J<|iL h J J Q6 a0w λv2 _ h=>S2 3 J<|S4 3 J<|S3 3 J<|cF h G1 J J λv3 _ h=>S2 2 J<|b9 ?_;cases h;exact⟨J,[_,_],⟨oL J J J a2V a1q nl J,⟨J,tr⟩⟩,J,io⟩

theorem a0o{a0 a1 a2}:PO Tryz.prog 81 [a7.Pv a0,.I a1,l5.Pv a2] (H6 a0 a1 a2) λr=>.tup [a7.Pv r.1,.I r.2]:=by
 refine pO Tryz.func81 λr h _ _=>?_;refine S4 4 J<|S4 1 J<|S3 4 J<|cF h a6W J J λv1 _ h=>S2 6 J<|S4 4 J<|b9 ?_;cases h;exact⟨J,[_,_],⟨oL J J J a5C a5J nl J,⟨J,tr⟩⟩,J,io⟩

theorem a3Q{a0 a1}:PO Tryz.prog 132 [b6.Pv a0,.I a1,.fn (.func 133) []] (R3 a0 a1) λr=>b6.Pv r:=by
 refine pO Tryz.func132 λr h _ _=>?_;refine S4 2 J<|S3 3 J<|cF h A6 J J λv1 _ h=>S2 6 J<|g9<|S4 2 J ?_;refine cN h (λhc h=>?_) λhc h=>?_
 ·refine S3 3 J ?_;refine cA h b5F J J λv2 _ h=>S2 2 J<|S5 4 J<|cF h a0o J J λv3 _ h=>S2 5 J<|S4 2 J<|b9 ?_;cases h;exact⟨J,[_],⟨oL J J J o9 n8 nl J,tr⟩,J,io⟩
 ·refine c8 ?_;refine S4 2 J<|b9 ?_;cases h;exact⟨J,[_],⟨oL J J J o9 n8 nl J,tr⟩,J,io⟩

theorem a1z{a0 a1}:PO Tryz.prog 83 [b6.Pv a0,.I a1] (Z0 a0 a1) λr=>b6.Pv r:=by
 refine pO Tryz.func83 λr h _ _=>?_;refine S4 2 J<|S3 2 J<|cF h a3Q J J λv1 _ h=>S2 1 J<|b9 ?_;cases h;exact⟨J,[_],⟨oL J J J o9 n8 nl J,tr⟩,J,io⟩

theorem a4X{a0}:PON Tryz.prog 219 [.L iF a0] (J5 a0) λr=>⟨List.map iF r,0,true,1,true⟩:=by
 refine pON Tryz.func219 λr h _ _=>?_;unfold J5 at h;refine S4 1 J<|g9<|S3 1 J<|b65 J l7 λb hb=>yN ?_;refine F8 b J (λhc=>?_) (λhc=>?_)
 ·obtain rfl:a0 = []:=by simpa using hb hc
  refine S4 1 J<|a2L (T0 (t:=2) (l:=920000) (z:=1) J J)<|b9 ?_;cases h;exact⟨J,_,_,J,J,J,J⟩
 ·refine c8 ?_;refine sR<|y0 J (a5d J l7 r7)<|S1 1 J<|y1 J (b45 (f:=iF) h J J (.inl ⟨_,J,J⟩) l7 r7 Y5 D6 J (λ_=>J)) J<|S2 1 J<|b9 ?_;exact⟨J,_,_,J,J,J,J⟩

theorem a6T{a0 a1}:PO Tryz.prog 197 [F5.Pv a0,b6.Pv a1] (M4 a0 a1) λr=>b6.Pv r:=by
 refine pO Tryz.func197 λr h _ _=>?_;unfold M4 at h;refine S4 3 J<|S3 2 J<|A9 h λv1 hv1 h=>ycN J (b46 J a4X J hv1) J J<|S2 2 J<|S3 6 J<|A9 h λv2 hv2 h=>y0 J (a8Y (f:=iF) hv2 J J J J l7 r7 J)<|b38 (f:=iF) (v:=a0.h) hv2 J J (.inl J) r7<|yN<|S4 2 J<|b9 ?_;cases h;exact⟨J,[_],⟨oL J J J o9 n8 nl J,tr⟩,J,io⟩

theorem a8B{a0}:PO Tryz.prog 189 [.I a0] (a16 a0) λr=>.tup [.I r.1,.I r.2]:=by
 refine pO Tryz.func189 λr h _ _=>?_;refine S4 2 J<|g9<|S3 1 J<|cA h Y7 J J λv1 _ h=>yN ?_;refine cN h (λhc h=>?_) λhc h=>?_
 ·refine S4 2 J ?_;refine b9 ?_;cases h;exact f2
 ·refine c8 ?_;refine g9<|S4 2 J ?_;refine cN h (λhc h=>?_) λhc h=>?_
  ·refine S4 2 J ?_;refine b9 ?_;cases h;exact f2
  ·refine c8 ?_;refine S4 4 J<|b9 ?_;cases h;exact f2

theorem b5E{a0}:PO Tryz.prog 140 [.I a0] (b0Y a0) λr=>.tup [.I r.1,.I r.2]:=by
 refine pO Tryz.func140 λr h _ _=>?_;refine S4 2 J<|S3 1 J<|cA h a8B J J λv1 _ h=>S2 5 J<|S4 4 J<|b9 ?_;cases h;exact f2

theorem b0d{a0}:PO Tryz.prog 139 [.I a0] (a1y a0) λr=>.I r:=by
 refine pO Tryz.func139 λr h _ _=>?_;refine S4 1 J<|S3 1 J<|cA h b5E J J λv1 _ h=>S2 5 J<|g9<|S4 2 J ?_;refine cN h (λhc h=>?_) λhc h=>?_
 ·refine S4 2 J ?_;refine b9 ?_;cases h;exact f1
 ·refine c8 ?_;refine S4 2 J<|b9 ?_;cases h;exact f1

theorem a1U{a0 a1}:PO Tryz.prog 132 [b6.Pv a0,.I a1,.fn (.func 139) []] (K6 a0 a1) λr=>b6.Pv r:=by
 refine pO Tryz.func132 λr h _ _=>?_;refine S4 2 J<|S3 3 J<|cF h A6 J J λv1 _ h=>S2 6 J<|g9<|S4 2 J ?_;refine cN h (λhc h=>?_) λhc h=>?_
 ·refine S3 3 J ?_;refine cA h b0d J J λv2 _ h=>S2 2 J<|S5 4 J<|cF h a0o J J λv3 _ h=>S2 5 J<|S4 2 J<|b9 ?_;cases h;exact⟨J,[_],⟨oL J J J o9 n8 nl J,tr⟩,J,io⟩
 ·refine c8 ?_;refine S4 2 J<|b9 ?_;cases h;exact⟨J,[_],⟨oL J J J o9 n8 nl J,tr⟩,J,io⟩

theorem U8{a0 a1}:PO Tryz.prog 90 [b6.Pv a0,.I a1] (B0 a0 a1) λr=>b6.Pv r:=by
 refine pO Tryz.func90 λr h _ _=>?_;refine S4 2 J<|S3 2 J<|cF h a1U J J λv1 _ h=>S2 1 J<|b9 ?_;cases h;exact⟨J,[_],⟨oL J J J o9 n8 nl J,tr⟩,J,io⟩

theorem a03{a0 a1 a2 a3}:PO Tryz.prog 166 [b6.Pv a0,.I a1,.I a2,.abs (BFn 197 [F5.Pv a3])] (D1 a0 a1 a2 a3) λr=>b6.Pv r:=by
 refine pO Tryz.func166 λr h _ _=>?_;refine S4 2 J<|S3 3 J<|cF h a1z J J λv1 _ h=>A9 h λv2 hv2 h=>b64 (xs:=[b6.Pv v1]) J J c5D J (a6T.2 _ hv2)<|S1 1 J<|cF h U8 J J λv3 _ h=>S2 1 J<|b9 ?_;cases h;exact⟨J,[_],⟨oL J J J o9 n8 nl J,tr⟩,J,io⟩

theorem a51{a0 a1 a2}:PO Tryz.prog 145 [b6.Pv a0,.I a1,.I a2] (a0g a0 a1 a2) λr=>.tup [b6.Pv r.1,.I r.2]:=by
 refine pO Tryz.func145 λr h _ _=>?_;refine S4 3 J<|g9<|S3 3 J<|n7 J (λhg=>mI J)<|n7 J (λhg=>oF J b7g J)<|n7 J (λhg=>oS (ct hg) J J b8P J)<|n7 J (λhg=>a6J (f:=iF) (ct hg) l7)<|n7 J (λhg=>D4 (ct hg) (ct hg) J)<|y0 J (K3 J J J (λq=>eqF q))<|yN ?_;refine cN h (λhc h=>?_) λhc h=>?_
 ·refine S4 3 J ?_;refine b9 ?_;cases h;exact⟨J,[_,_],⟨oL J J J o9 n8 nl J,⟨J,tr⟩⟩,J,io⟩
 ·refine c8 ?_;refine g9<|S3 2 J<|cA h R4 J J λv1 _ h=>S2 1 J ?_;refine cN h (λhc h=>?_) λhc h=>?_
  ·refine S4 3 J ?_;refine b9 ?_;cases h;exact⟨J,[_,_],⟨oL J J J o9 n8 nl J,⟨J,tr⟩⟩,J,io⟩
  ·refine c8 ?_;refine dr [] x4 (by kernel_rfl) (by kernel_rfl)<|S7 4 J<|A9 h λv2 hv2 h=>d0 J (K9 (f:=iF) (cs:=[.I v2]) hv2 J J l7 r7 J J) J<|S7 4 J<|d7 J (λ_ hN=>s6 (cs:=[.I a1,.I a2]) J c5M c5U J J J) J<|d7 J (λ_ hN=>b1f (d:=.agg [.I a1,.I a2]) J) J<|A9 h λv3 hv3 h=>d2f J (A3 J a03 J hv3) J<|D7 (x':=b6.Pv v3) (cl':=true) J J (.inr J) n8<|S8 1 J<|b9 ?_;cases h;exact⟨J,[_,_],⟨oL J J J o9 n8 nl J,⟨J,tr⟩⟩,J,io⟩

theorem E6{a0 a1 a2}:PO Tryz.prog 122 [o6.Pv a0,.I a1,.I a2] (A2 a0 a1 a2) λr=>.tup [b6.Pv r.1,.I r.2]:=by
 refine pO Tryz.func122 λr h _ _=>?_;refine S4 3 J<|g9<|S4 2 J ?_;refine cN h (λhc h=>?_) λhc h=>?_
 ·refine S4 5 J ?_;refine b9 ?_;cases h;exact⟨J,[_,_],⟨oL J J J o9 n8 nl J,⟨J,tr⟩⟩,J,io⟩
 ·refine c8 ?_;refine S3 6 J<|cF h a51 J J λv1 _ h=>S2 4 J<|b9 ?_;cases h;exact⟨J,[_,_],⟨oL J J J o9 n8 nl J,⟨J,tr⟩⟩,J,io⟩

theorem a1D{a0}:PO Tryz.prog 65 [o6.Pv a0] (Q1 a0) λr=>.tup [b6.Pv r.1,.I r.2]:=by
 refine pO Tryz.func65 λr h _ _=>?_;refine S4 3 J<|S3 9 J<|cF h b4x J J λv1 _ h=>S2 8 J<|g9<|S4 2 J ?_;refine cN h (λhc h=>?_) λhc h=>?_
 ·refine S4 5 J ?_;refine b9 ?_;cases h;exact⟨J,[_,_],⟨oL J J J o9 n8 nl J,⟨J,tr⟩⟩,J,io⟩
 ·refine c8 ?_;refine S4 4 J<|S3 2 J<|cF h E6 J J λv2 _ h=>S2 4 J<|b9 ?_;cases h;exact⟨J,[_,_],⟨oL J J J o9 n8 nl J,⟨J,tr⟩⟩,J,io⟩

theorem K7{a0 a1}:PO Tryz.prog 78 [b6.Pv a0,.I a1] (I3 a0 a1) λr=>.I r:=by
 refine pO Tryz.func78 λr h _ _=>?_;refine S4 2 J<|g9<|S3 3 J<|n7 J (λhg=>mI J)<|n7 J (λhg=>oF J b7g J)<|n7 J (λhg=>oS (ct hg) J J b8P J)<|n7 J (λhg=>a6J (f:=iF) (ct hg) l7)<|n7 J (λhg=>D4 (ct hg) (ct hg) J)<|y0 J (K3 J J J (λq=>eqF q))<|yN ?_;refine cN h (λhc h=>?_) λhc h=>?_
 ·refine S4 1 J ?_;refine b9 ?_;cases h;exact f1
 ·refine c8 ?_;refine S3 3 J<|iL h J J l7 r7 λv1 _ h=>S2 2 J<|b9 ?_;cases h;exact f1

theorem a0s{a0}:PO Tryz.prog 66 [o6.Pv a0] (F7 a0) λr=>.tup [b6.Pv r.1,.I r.2]:=by
 refine pO Tryz.func66 λr h _ _=>?_;unfold F7 at h;refine S4 3 J<|dr [] x4 (by kernel_rfl) (by kernel_rfl)<|S7 6 J<|A9 h λv1 hv1 h=>d2 J (M1 J K7 J hv1) J<|A9 h λv2 hv2 h=>d2f J (A3 J E6 J hv2) J<|S7 2 J<|D7 (x':=b6.Pv v2.1) (cl':=true) J J (.inr J) n8<|S8 1 J<|b9 ?_;cases h;exact⟨J,[_,_],⟨oL J J J o9 n8 nl J,⟨J,tr⟩⟩,J,io⟩

theorem a2H{a0}:PO Tryz.prog 67 [o6.Pv a0] (X8 a0) λr=>.tup [b6.Pv r.1,.I r.2]:=by
 refine pO Tryz.func67 λr h _ _=>?_;refine S4 3 J<|S3 1 J<|cF h E6 J J λv1 _ h=>S2 4 J<|b9 ?_;cases h;exact⟨J,[_,_],⟨oL J J J o9 n8 nl J,⟨J,tr⟩⟩,J,io⟩

theorem O1{a0 a1}:PO Tryz.prog 123 [b6.Pv a0,.I a1] (J3 a0 a1) λr=>.tup [.I r.1,.I r.2]:=by
 refine pO Tryz.func123 λr h _ _=>?_;refine S4 3 J<|S3 2 J<|cA h K7 J J λv1 _ h=>S2 1 J<|g9<|S4 2 J ?_;refine cN h (λhc h=>?_) λhc h=>?_
 ·refine S4 2 J ?_;refine b9 ?_;cases h;exact f2
 ·refine c8 ?_;refine S4 3 J<|b9 ?_;cases h;exact f2

theorem b32{a0 a1}:PO Tryz.prog 203 [.L iF a0,.I a1] (a6x a0 a1) λr=>.bool r:=by
 refine pO Tryz.func203 λr h _ _=>?_;unfold a6x at h;refine S4 1 J<|S3 3 J<|n7 J (λhg=>mI J)<|n7 J (λhg=>om (d:=.L iF a0) J)<|n7 J (λhg=>a6J (f:=iF) (ct hg) l7)<|n7 J (λhg=>D4 (ct hg) (ct hg) J)<|y0 J (H3 J J J (λq=>eqT q))<|S2 1 J<|b9 ?_;cases h;exact f1

theorem c2l{a0 a1}:PO Tryz.prog 164 [.L iF a0,.I a1] (b1H a0 a1) λr=>.tup [.I r.1,.I r.2]:=by
 refine pO Tryz.func164 λr h _ _=>?_;refine S4 2 J<|g9<|S3 2 J<|cA h b32 J J λv1 _ h=>S2 1 J ?_;refine cN h (λhc h=>?_) λhc h=>?_
 ·refine S4 2 J ?_;refine b9 ?_;cases h;exact f2
 ·refine c8 ?_;refine S3 2 J<|iL h J J l7 r7 λv2 _ h=>S2 3 J<|b9 ?_;cases h;exact f2

theorem a7J{a0 a1 a2}:PO Tryz.prog 124 [a7.Pv a0,.I a1,.I a2] (Z7 a0 a1 a2) λr=>.tup [.I r.1,.I r.2]:=by
 refine pO Tryz.func124 λr h _ _=>?_;refine S4 3 J<|S3 2 J<|cF h A6 J J λv1 _ h=>S2 6 J<|g9<|S4 2 J ?_;refine cN h (λhc h=>?_) λhc h=>?_
 ·refine S4 3 J ?_;refine b9 ?_;cases h;exact f2
 ·refine c8 ?_;refine S3 3 J<|cA h c2l J J λv2 _ h=>S2 4 J<|b9 ?_;cases h;exact f2

theorem a2I{a0}:PO Tryz.prog 68 [o6.Pv a0] (X9 a0) λr=>.tup [b6.Pv r.1,.I r.2]:=by
 refine pO Tryz.func68 λr h _ _=>?_;refine S4 3 J<|S3 5 J<|cA h O1 J J λv1 _ h=>S2 5 J<|g9<|S4 2 J ?_;refine cN h (λhc h=>?_) λhc h=>?_
 ·refine S4 5 J ?_;refine b9 ?_;cases h;exact⟨J,[_,_],⟨oL J J J o9 n8 nl J,⟨J,tr⟩⟩,J,io⟩
 ·refine c8 ?_;refine dr [] x4 (by kernel_rfl) (by kernel_rfl)<|S7 8 J<|A9 h λv2 hv2 h=>d2 J (M1 J a7J J hv2) J<|S7 2 J<|A9 h λv3 hv3 h=>d2f J (A3 J E6 J hv3) J<|S7 2 J<|D7 (x':=b6.Pv v3.1) (cl':=true) J J (.inr J) n8<|S8 1 J<|b9 ?_;cases h;exact⟨J,[_,_],⟨oL J J J o9 n8 nl J,⟨J,tr⟩⟩,J,io⟩

theorem b8A{a0 a1 a2}:PO Tryz.prog 222 [.L iF a0,.I a1,.I a2] (b31 a0 a1 a2) λr=>.tup [.L iF r.1,.I r.2]:=by
 refine pO Tryz.func222 λr h _ _=>?_;refine S4 2 J<|g9<|S3 2 J<|cA h b32 J J λv1 _ h=>S2 1 J ?_;refine cN h (λhc h=>?_) λhc h=>?_
 ·refine S4 3 J ?_;refine b9 ?_;cases h;exact f2
 ·refine c8 ?_;refine S3 1 J<|nL J l7<|A9 h λv2 hv2 h=>y1 J (b9t (f:=iF) hv2 J J J l7 r7 D6 Y5 J J J) J<|S2 1 J<|S3 2 J<|A9 h λv3 hv3 h=>d1s (f:=iF) hv3 J J J (.inl ⟨_,J,J⟩) l7 r7 (λ_=>J) (by decide)<|yN<|S3 3 J<|A9 h λv4 hv4 h=>y0 J (a8Y (f:=iF) hv4 J J J J l7 r7 J)<|b38 (f:=iF) (v:=a2) hv4 J J (.inl J) r7<|yN<|S4 3 J<|b9 ?_;cases h;exact f2

theorem b6U{a0 a1 a2 a3}:PO Tryz.prog 205 [a7.Pv a0,.I a1,.I a2,.I a3] (a8u a0 a1 a2 a3) λr=>.tup [a7.Pv r.1,.I r.2]:=by
 refine pO Tryz.func205 λr h _ _=>?_;refine S4 3 J<|S3 2 J<|cF h A6 J J λv1 _ h=>S2 6 J<|g9<|S4 2 J ?_;refine cN h (λhc h=>?_) λhc h=>?_
 ·refine S4 4 J ?_;refine b9 ?_;cases h;exact⟨J,[_,_],⟨oL J J J a5C a5J nl J,⟨J,tr⟩⟩,J,io⟩
 ·refine c8 ?_;refine g9<|S3 4 J<|cF h b8A J J λv2 _ h=>S2 6 J<|S4 2 J ?_;refine cN h (λhc h=>?_) λhc h=>?_
  ·refine S4 4 J ?_;refine b9 ?_;cases h;exact⟨J,[_,_],⟨oL J J J a5C a5J nl J,⟨J,tr⟩⟩,J,io⟩
  ·refine c8 ?_;refine S3 3 J<|cF h a0o J J λv3 _ h=>S2 4 J<|b9 ?_;cases h;exact⟨J,[_,_],⟨oL J J J a5C a5J nl J,⟨J,tr⟩⟩,J,io⟩

theorem a52{a0 a1}:PO Tryz.prog 167 [E3.Pv a0,b6.Pv a1] (a0z a0 a1) λr=>b6.Pv r:=by
 refine pO Tryz.func167 λr h _ _=>?_;refine S4 3 J<|S3 8 J<|cF h b6U J J λv1 _ h=>S2 5 J<|S4 2 J<|b9 ?_;cases h;exact⟨J,[_],⟨oL J J J o9 n8 nl J,tr⟩,J,io⟩

theorem a0K{a0 a1 a2 a3}:PO Tryz.prog 166 [b6.Pv a0,.I a1,.I a2,.abs (BFn 167 [E3.Pv a3])] (F6 a0 a1 a2 a3) λr=>b6.Pv r:=by
 refine pO Tryz.func166 λr h _ _=>?_;refine S4 2 J<|S3 3 J<|cF h a1z J J λv1 _ h=>A9 h λv2 hv2 h=>b64 (xs:=[b6.Pv v1]) J J c5z J (a52.2 _ hv2)<|S1 1 J<|cF h U8 J J λv3 _ h=>S2 1 J<|b9 ?_;cases h;exact⟨J,[_],⟨oL J J J o9 n8 nl J,tr⟩,J,io⟩

theorem b4q{a0 a1 a2 a3}:PO Tryz.prog 125 [b6.Pv a0,.I a1,.I a2,.I a3] (a2a a0 a1 a2 a3) λr=>.tup [b6.Pv r.1,.I r.2]:=by
 refine pO Tryz.func125 λr h _ _=>?_;refine S4 3 J<|S3 4 J<|cA h a7J J J λv1 _ h=>S2 5 J<|g9<|S4 2 J ?_;refine cN h (λhc h=>?_) λhc h=>?_
 ·refine S4 4 J ?_;refine b9 ?_;cases h;exact⟨J,[_,_],⟨oL J J J o9 n8 nl J,⟨J,tr⟩⟩,J,io⟩
 ·refine c8 ?_;refine g9<|S3 2 J<|cA h R4 J J λv2 _ h=>S2 1 J ?_;refine cN h (λhc h=>?_) λhc h=>?_
  ·refine S4 3 J ?_;refine b9 ?_;cases h;exact⟨J,[_,_],⟨oL J J J o9 n8 nl J,⟨J,tr⟩⟩,J,io⟩
  ·refine c8 ?_;refine S3 6 J<|y0 J (s6 (cs:=[.I a1,.I a2,.I a3]) J c5J c5R J J J)<|y0 J (b1f (d:=.agg [.I a1,.I a2,.I a3]) J)<|cF h a0K J J λv3 _ h=>S2 2 J<|b9 ?_;cases h;exact⟨J,[_,_],⟨oL J J J o9 n8 nl J,⟨J,tr⟩⟩,J,io⟩

theorem a10{a0}:PO Tryz.prog 69 [o6.Pv a0] (U0 a0) λr=>.tup [b6.Pv r.1,.I r.2]:=by
 refine pO Tryz.func69 λr h _ _=>?_;refine S4 3 J<|S3 5 J<|cA h O1 J J λv1 _ h=>S2 5 J<|g9<|S4 2 J ?_;refine cN h (λhc h=>?_) λhc h=>?_
 ·refine S4 5 J ?_;refine b9 ?_;cases h;exact⟨J,[_,_],⟨oL J J J o9 n8 nl J,⟨J,tr⟩⟩,J,io⟩
 ·refine c8 ?_;refine dr [] x4 (by kernel_rfl) (by kernel_rfl)<|S7 11 J<|A9 h λv2 hv2 h=>d2 J (M1 J K7 J hv2) J<|A9 h λv3 hv3 h=>d2f J (A3 J b4q J hv3) J<|S7 2 J<|D7 (x':=b6.Pv v3.1) (cl':=true) J J (.inr J) n8<|S8 1 J<|b9 ?_;cases h;exact⟨J,[_,_],⟨oL J J J o9 n8 nl J,⟨J,tr⟩⟩,J,io⟩

theorem b9V{a0 a1}:PO Tryz.prog 206 [c9.Pv a0,.I a1] (b2F a0 a1) λr=>.fn (.func 223) [.rptr (c9.Pc r.1),.rptr [.I r.2]]:=by
 refine pO Tryz.func206 λr h _ _=>?_;unfold b2F at h;refine S4 3 J<|S4 2 J<|b9 ?_;cases h;exact f1

theorem b4y{a0 a1}:PO Tryz.prog 168 [c9.Pv a0,.I a1] (a38 a0 a1) λr=>.bool r:=by
 refine pO Tryz.func168 λr h _ _=>?_;refine S4 3 J ?_;refine jq h (λ_=>St.of [(4,.ptr 2001 0 0)] [(2001,vR (.bool false) 1)]) (λq7 h=>?_) λκ6 h=>?_
 ·refine S4 1 J ?_;refine b9 ?_;cases h;exact⟨J,[_],⟨oS J J J b7f J,tr⟩,J,io⟩
 ·refine S3 1 J ?_;refine cF h b9V J J λv8 _ h=>yN<|k7<|a2L (WPE (λl=>if l=2003 then 4 else if l=2004 then 3 else l) [(3,.ptr 2004 0 0),(4,.ptr 2003 0 0),(7,.fn (.func 223) [.rptr (c9.Pc v8.1),.rptr [.I v8.2]])] [(2003,vR (.bool false) 1),(2004,vR (.I a1) 1)]) ?_;refine a1G (fn:=Tryz.f223) (N1:=24) J Tryz.func223 J J nl J c5F J J (λl16 e17 o18 hR19=>?_);refine S3 2 J<|nL J a6Z<|S2 1 J<|k7<|lq h (λs10=>St.of [(1000003,.ptr 2004 0 0),(1000004,.ptr 2003 0 0),(1000007,.fn (.func 223) [.rptr (c9.Pc v8.1),.rptr [.I v8.2]]),(0,.fn (.yield l16) []),(2,.rptr [.I v8.2]),(7,.L g7.Pv v8.1.L),(8,.I (v8.1.L.length:Int)),(9,.I s10)] [(2003,vR (.bool false) 1),(2004,vR (.I a1) 1)]) W λs10 x11 h hx22=>S4 1 J<|g9 ?_;refine cN h (λhc h=>?_) λhc h=>?_
  ·refine c8 ?_;refine g9<|k7<|sR<|iL h J J a6Z K0 λv12 _ h=>S2 3 J<|S3 5 J<|n7 J (λhg=>om (d:=.fn (.yield l16) []) J)<|n7 J (λhg=>oL J J J a1o K0 nl J) ?_;rcases Bool.eq_false_or_eq_true ((v12.Kind==v8.2)==true) with hg24 | hg24
   ·have h:=ifT h hg24;refine P1 (WE [(1000003,.ptr 2004 0 0),(1000004,.ptr 2003 0 0),(1000007,.fn (.func 223) [.rptr (c9.Pc v8.1),.rptr [.I v8.2]]),(0,.fn (.yield l16) []),(2,.rptr [.I v8.2]),(7,.L g7.Pv v8.1.L),(8,.I (v8.1.L.length:Int)),(9,.I s10),(17,.bool (v12.Kind==v8.2)),(18,.fn (.yield l16) []),(19,g7.Pv v12)] [(2003,vR (.bool false) 1),(2004,vR (.I a1) 1)]) ?_;refine a6A hR19 (congrArg some hg24) J J J J J (λe25 o26 o27=>?_);refine S6 2 J ?_;refine⟨J,?_⟩;refine k7<|S4 4 J ?_;refine cN h (λhc h=>?_) λhc h=>?_
    ·refine S4 1 J ?_;refine b9 ?_;refine⟨J,?_⟩;refine P1 (WE [(1000003,.ptr 2004 0 0),(1000004,.ptr 2003 0 0),(1000007,.fn (.func 223) [.rptr (c9.Pc v8.1),.rptr [.I v8.2]]),(0,.fn (.yield l16) []),(2,.rptr [.I v8.2]),(7,.L g7.Pv v8.1.L),(8,.I (v8.1.L.length:Int)),(9,.I s10),(17,.bool (v12.Kind==v8.2)),(20,.bool false)] [(2003,vR (.bool true) 1),(2004,vR (.I a1) 1)])<|y0 (congrArg some hg24) (a3X J J)<|y0 J (a6b J J hg24)<|yN ?_;refine F8 true J (λ_=>?_) (λq=>nomatch q);refine b9 ?_;refine .inr ⟨.ret,J,c6j ?_⟩;have h:=xL hx22 h;cases h;exact⟨J,[_],⟨oS J J J b7f J,tr⟩,J,io⟩
    ·refine c8 ?_;refine⟨J,?_⟩;refine P1 (WE [(1000003,.ptr 2004 0 0),(1000004,.ptr 2003 0 0),(1000007,.fn (.func 223) [.rptr (c9.Pc v8.1),.rptr [.I v8.2]]),(0,.fn (.yield l16) []),(2,.rptr [.I v8.2]),(7,.L g7.Pv v8.1.L),(8,.I (v8.1.L.length:Int)),(9,.I s10),(17,.bool (v12.Kind==v8.2)),(20,.bool true)] [(2003,vR (.bool false) 1),(2004,vR (.I a1) 1)])<|y0 (congrArg some hg24) (a3X J J)<|y0 J (a6b J J hg24)<|yN ?_;refine F8 false J (λq=>nomatch q) (λ_=>?_);refine c8<|S6 2 J ?_;exact eL h W
   ·have h:=ifF h hg24;refine a1S (congrArg some hg24)<|a1S (congrArg some hg24)<|y0 J (a8d J J hg24)<|yN ?_;refine F8 false J (λq=>nomatch q) (λ_=>?_);refine c8<|S6 2 J ?_;exact eL h W
  ·refine s7 ?_;refine g6<|g6<|n0 ?_;refine .inl ⟨J,?_⟩;have h:=xL hx22 h;exact eJ h (WP (λl=>if l=2001 then 2003 else l))

theorem b1Z{a0 a1}:PO Tryz.prog 172 [.L e6.Pv a0,.I a1] (a5z a0 a1) λr=>.bool r:=by
 refine pO Tryz.func172 λr h _ _=>?_;unfold a5z at h;refine S4 1 J<|S3 3 J<|n7 J (λhg=>mI J)<|n7 J (λhg=>om (d:=.L e6.Pv a0) J)<|n7 J (λhg=>a6J (f:=e6.Pv) (ct hg) W2)<|n7 J (λhg=>D4 (ct hg) (ct hg) J)<|y0 J (H3 J J J (λq=>eqT q))<|S2 1 J<|b9 ?_;cases h;exact f1

theorem a6N{a0}:PON Tryz.prog 183 [.L e6.Pv a0] (Z8 a0) λr=>⟨List.map e6.Pv r,0,true,3,true⟩:=by
 refine pON Tryz.func183 λr h _ _=>?_;unfold Z8 at h;refine S4 1 J<|S3 1 J<|nL J W2<|A9 h λv1 hv1 h=>y1 J (b9t (f:=e6.Pv) hv1 J J J W2 X6 b5v b99 J J J) J<|S2 1 J<|S3 2 J<|A9 h λv2 hv2 h=>d1s (f:=e6.Pv) hv2 J J J (.inl ⟨_,J,J⟩) W2 X6 (λ_=>J) (by decide)<|yN<|S4 2 J<|b9 ?_;cases h;exact⟨J,_,_,J,J,J,J⟩

theorem b8E{a0 a1 a2 a3}:PO Tryz.prog 169 [.L e6.Pv a0,.I a1,.I a2,.I a3] (b0O a0 a1 a2 a3) λr=>.tup [.L e6.Pv r.1,.I r.2.1,.I r.2.2]:=by
 refine pO Tryz.func169 λr h _ _=>?_;refine S4 3 J<|g9<|S3 2 J<|cA h b1Z J J λv1 _ h=>S2 1 J ?_;refine cN h (λhc h=>?_) λhc h=>?_
 ·refine S4 4 J ?_;refine b9 ?_;cases h;exact f3
 ·refine c8 ?_;refine S3 1 J<|A9 h λv2 hv2 h=>ycN J (b46 J a6N J hv2) J J<|S2 1 J<|S3 6 J<|y0 J (s6 (cs:=[.I a2,.bool (a2 != 0),.I a3]) J c5I b5v J J J)<|A9 h λv3 hv3 h=>y0 J (a8Y (f:=e6.Pv) hv3 J J J J W2 X6 J)<|b38 (f:=e6.Pv) (v:=(⟨a2,(a2 != 0),a3⟩:e6)) hv3 J J (.inl J) X6<|yN<|dr [] x4 (by kernel_rfl) (by kernel_rfl)<|S7 3 J<|A9 h λv4 hv4 h=>d0 J (K9 (f:=e6.Pv) (cs:=e6.Pc v4) hv4 J J W2 X6 J J) J<|S8 5 J<|b9 ?_;cases h;exact f3

theorem a7h{a0 a1 a2}:PO Tryz.prog 171 [b6.Pv a0,.I a1,.I a2] (a1i a0 a1 a2) λr=>b6.Pv r:=by
 refine pO Tryz.func171 λr h _ _=>?_;refine S4 2 J<|S3 4 J<|cA h G0 J J λv1 _ h=>S2 5 J<|g9<|S4 2 J ?_;refine cN h (λhc h=>?_) λhc h=>?_
 ·refine S3 5 J ?_;refine iL h J J Q6 a0w λv2 _ h=>S2 4 J<|S4 6 J<|S5 4 J<|cF h a0o J J λv3 _ h=>S2 5 J<|S4 2 J<|b9 ?_;cases h;exact⟨J,[_],⟨oL J J J o9 n8 nl J,tr⟩,J,io⟩
 ·refine c8 ?_;refine S4 2 J<|b9 ?_;cases h;exact⟨J,[_],⟨oL J J J o9 n8 nl J,tr⟩,J,io⟩

theorem a1O{a0 a1}:PO Tryz.prog 138 [c7.Pv a0,.I a1] (L1 a0 a1) λr=>.tup [c7.Pv r.1,.I r.2]:=by
 refine pO Tryz.func138 λr h _ _=>?_;refine S4 3 J<|S3 2 J<|cA h G0 J J λv1 _ h=>S2 5 J<|g9<|S4 2 J ?_;refine cN h (λhc h=>?_) λhc h=>?_
 ·refine S4 4 J ?_;refine b9 ?_;cases h;exact⟨J,[_,_],⟨oL J J J a2V a1q nl J,⟨J,tr⟩⟩,J,io⟩
 ·refine c8 ?_;refine S3 3 J<|iL h J J Q6 a0w λv2 _ h=>S2 3 J<|g9<|S4 4 J ?_;refine cN h (λhc h=>?_) λhc h=>?_
  ·refine S3 3 J ?_;refine y0 J (s6 (cs:=[.I 3,.I v2.Gen,.I 0,.I 0,.I 0,.I 0,.bool false,.nl]) J b5t b0U J J J)<|cF h G1 J J λv3 _ h=>S2 2 J<|b9 ?_;cases h;exact⟨J,[_,_],⟨oL J J J a2V a1q nl J,⟨J,tr⟩⟩,J,io⟩
  ·refine c8 ?_;refine S3 4 J<|y0 J (s6 (cs:=[.I 0,.I (u5 (v2.Gen+1)),.I 0,.I 0,.I 0,.I 0,.bool false,.nl]) J b5t b0U J J J)<|cF h G1 J J λv4 _ h=>S2 2 J<|b9 ?_;cases h;exact⟨J,[_,_],⟨oL J J J a2V a1q nl J,⟨J,tr⟩⟩,J,io⟩

theorem b08{a0 a1}:PO Tryz.prog 170 [b6.Pv a0,.I a1] (a2t a0 a1) λr=>b6.Pv r:=by
 refine pO Tryz.func170 λr h _ _=>?_;refine S4 2 J<|S3 2 J<|cF h a7h J J λv1 _ h=>S2 1 J<|S3 4 J<|cA h G0 J J λv2 _ h=>S2 5 J<|g9<|S4 2 J ?_;refine cN h (λhc h=>?_) λhc h=>?_
 ·refine S4 2 J ?_;refine b9 ?_;cases h;exact⟨J,[_],⟨oL J J J o9 n8 nl J,tr⟩,J,io⟩
 ·refine c8 ?_;refine g9<|S3 5 J<|iL h J J Q6 a0w λv3 _ h=>S2 3 J<|S3 4 J<|n7 J (λhg=>oF J c2A J)<|n7 J (λhg=>oF (ct hg) c2z J)<|n7 J (λhg=>oS (ct hg) J J I9 J)<|n7 J (λhg=>D4 (ct hg) J J)<|y0 J (H3 J J J (λq=>eqT q))<|yN ?_;refine cN h (λhc h=>?_) λhc h=>?_
  ·refine S5 4 J ?_;refine cF h a1O J J λv4 _ h=>S2 6 J<|S4 2 J<|b9 ?_;cases h;exact⟨J,[_],⟨oL J J J o9 n8 nl J,tr⟩,J,io⟩
  ·refine c8 ?_;refine S4 2 J<|b9 ?_;cases h;exact⟨J,[_],⟨oL J J J o9 n8 nl J,tr⟩,J,io⟩

theorem b0e{a0 a1 a2 a3}:PO Tryz.prog 126 [b6.Pv a0,.I a1,.I a2,.I a3] (a0h a0 a1 a2 a3) λr=>.tup [b6.Pv r.1,.I r.2]:=by
 refine pO Tryz.func126 λr h _ _=>?_;unfold a0h at h;refine S4 3 J<|g9<|S3 3 J<|n7 J (λhg=>mI J)<|n7 J (λhg=>oF J c2v J)<|n7 J (λhg=>oS (ct hg) J J c8b J)<|n7 J (λhg=>a6J (f:=e6.Pv) (ct hg) W2)<|n7 J (λhg=>D4 (ct hg) (ct hg) J)<|y0 J (K3 J J J (λq=>eqF q))<|S1 1 J<|n7 J (λhg=>oF J c2w J)<|n7 J (λhg=>oL (ct hg) J J a4J a1r nl J)<|n7 J (λhg=>mI J)<|A9 h λv1 hv1 h=>n7 J (λhg=>M1 J b4y (a0q (ct hg) (a0q (ct hg) J)) (a0u hv1 hg))<|y0 J (K3 J J J (λq=>eqF q))<|yN ?_;refine cN h (λhc h=>?_) λhc h=>?_
 ·refine S4 3 J ?_;refine b9 ?_;cases h;exact⟨J,[_,_],⟨oL J J J o9 n8 nl J,⟨J,tr⟩⟩,J,io⟩
 ·refine c8 ?_;refine g9<|S3 2 J<|cA h R4 J J λv2 _ h=>S2 1 J ?_;refine cN h (λhc h=>?_) λhc h=>?_
  ·refine S4 3 J ?_;refine b9 ?_;cases h;exact⟨J,[_,_],⟨oL J J J o9 n8 nl J,⟨J,tr⟩⟩,J,io⟩
  ·refine c8 ?_;refine S3 5 J<|cF h b8E J J λv3 _ h=>S2 7 J<|S4 3 J<|S3 2 J<|cF h a7h J J λv4 _ h=>S1 1 J<|cF h b08 J J λv5 _ h=>S2 2 J<|b9 ?_;cases h;exact⟨J,[_,_],⟨oL J J J o9 n8 nl J,⟨J,tr⟩⟩,J,io⟩

theorem a1E{a0}:PO Tryz.prog 70 [o6.Pv a0] (Q2 a0) λr=>.tup [b6.Pv r.1,.I r.2]:=by
 refine pO Tryz.func70 λr h _ _=>?_;refine S4 3 J<|g9<|S4 4 J ?_;refine cN h (λhc h=>?_) λhc h=>?_
 ·refine S3 8 J ?_;refine cF h b0e J J λv1 _ h=>S2 4 J<|b9 ?_;cases h;exact⟨J,[_,_],⟨oL J J J o9 n8 nl J,⟨J,tr⟩⟩,J,io⟩
 ·refine c8 ?_;refine S3 5 J<|cA h O1 J J λv2 _ h=>S2 5 J<|g9<|S4 2 J ?_;refine cN h (λhc h=>?_) λhc h=>?_
  ·refine S4 5 J ?_;refine b9 ?_;cases h;exact⟨J,[_,_],⟨oL J J J o9 n8 nl J,⟨J,tr⟩⟩,J,io⟩
  ·refine c8 ?_;refine S3 9 J<|cF h b0e J J λv3 _ h=>S2 4 J<|b9 ?_;cases h;exact⟨J,[_,_],⟨oL J J J o9 n8 nl J,⟨J,tr⟩⟩,J,io⟩

theorem b63{a0 a1}:PO Tryz.prog 127 [.L e6.Pv a0,.I a1] (a5y a0 a1) λr=>.tup [.I r.1,.I r.2]:=by
 refine pO Tryz.func127 λr h _ _=>?_;refine S4 2 J<|g9<|S3 2 J<|cA h b1Z J J λv1 _ h=>S2 1 J ?_;refine cN h (λhc h=>?_) λhc h=>?_
 ·refine S4 2 J ?_;refine b9 ?_;cases h;exact f2
 ·refine c8 ?_;refine g9<|S3 2 J<|iL h J J W2 X6 λv2 hv2 h=>S1 4 J<|n7 J (λhg=>om (d:=.L e6.Pv a0) J)<|n7 J (λhg=>mI J)<|n7 J (λhg=>K9 (f:=e6.Pv) (cs:=e6.Pc v2) hv2 (ct hg) (ct hg) W2 X6 J J)<|n7 J (λhg=>I4 (ct hg) c1v J)<|n7 J (λhg=>O2 (ct hg) b7f J)<|n7 J (λhg=>a3X (ct hg) J)<|y0 J (K3 J J J (λq=>eqF q))<|yN ?_;refine cN h (λhc h=>?_) λhc h=>?_
  ·refine S4 2 J ?_;refine b9 ?_;cases h;exact f2
  ·refine c8 ?_;refine S3 2 J<|y0 J (K9 (f:=e6.Pv) (cs:=e6.Pc v2) hv2 J J W2 X6 J J)<|S2 4 J<|b9 ?_;cases h;exact f2

theorem a3T{a0}:PO Tryz.prog 71 [o6.Pv a0] (U9 a0) λr=>.tup [b6.Pv r.1,.I r.2]:=by
 refine pO Tryz.func71 λr h _ _=>?_;unfold U9 at h;refine S4 3 J<|dr [] x4 (by kernel_rfl) (by kernel_rfl)<|S7 7 J<|A9 h λv1 hv1 h=>d2 J (M1 J b63 J hv1) J<|S7 2 J<|A9 h λv2 hv2 h=>d2f J (A3 J E6 J hv2) J<|S7 2 J<|D7 (x':=b6.Pv v2.1) (cl':=true) J J (.inr J) n8<|S8 1 J<|b9 ?_;cases h;exact⟨J,[_,_],⟨oL J J J o9 n8 nl J,⟨J,tr⟩⟩,J,io⟩

theorem b0b{a0 a1}:PO Tryz.prog 211 [.I a0,.I a1] (a3u a0 a1) λr=>.fn (.func 224) [.rptr [.I r.1],.rptr [.I r.2]]:=by
 refine pO Tryz.func211 λr h _ _=>?_;unfold a3u at h;refine S4 3 J<|S4 2 J<|b9 ?_;cases h;exact f1

theorem a98{a0 a1}:PO Tryz.prog 225 [.I a0,.I a1] (a0f a0 a1) λr=>.I r:=by
 refine pO Tryz.func225 λr h _ _=>?_;refine S4 1 J<|g9<|S4 2 J ?_;refine cN h (λhc h=>?_) λhc h=>?_
 ·refine S4 1 J ?_;refine b9 ?_;cases h;exact f1
 ·refine c8 ?_;refine S3 4 J<|A9 h λv1 hv1 h=>y0 J (b3n J J hv1)<|S2 1 J<|g9<|S4 2 J ?_;refine cN h (λhc h=>?_) λhc h=>?_
  ·refine S6 4 J ?_;refine S4 2 J<|b9 ?_;cases h;exact f1
  ·refine c8 ?_;refine S4 2 J<|b9 ?_;cases h;exact f1

theorem a5X{a0 a1}:PO Tryz.prog 185 [.L b8.Pv a0,.I a1] (V7 a0 a1) λr=>.I r:=by
 refine pO Tryz.func185 λr h _ _=>?_;refine S4 3 J ?_;refine jq h (λ_=>St.of [(4,.ptr 2001 0 0)] [(2001,vR (.I 0) 1)]) (λq9 h=>?_) λκ8 h=>?_
 ·refine S4 1 J ?_;refine b9 ?_;cases h;exact⟨J,[_],⟨oS J J J I9 J,tr⟩,J,io⟩
 ·refine S3 1 J ?_;refine nL J a0X<|S1 1 J<|cF h b0b J J λv10 _ h=>yN<|k7<|a2L (WPE (λl=>if l=2004 then 4 else if l=2005 then 3 else if l=2006 then 2 else l) [(2,.ptr 2006 0 0),(3,.ptr 2005 0 0),(4,.ptr 2004 0 0),(9,.fn (.func 224) [.rptr [.I v10.1],.rptr [.I v10.2]])] [(2004,vR (.I 0) 1),(2005,vR (.I a1) 1),(2006,vR (.L b8.Pv a0) 1)]) ?_;refine a1G (fn:=Tryz.f224) (N1:=20) J Tryz.func224 J J nl J c0c J J (λl17 e18 o19 hR20=>?_);refine S4 2 J<|k7<|lq h (λs12=>St.of [(1000002,.ptr 2006 0 0),(1000003,.ptr 2005 0 0),(1000004,.ptr 2004 0 0),(1000009,.fn (.func 224) [.rptr [.I v10.1],.rptr [.I v10.2]]),(0,.fn (.yield l17) []),(1,.rptr [.I v10.1]),(2,.rptr [.I v10.2]),(5,.I v10.1),(6,.I s12)] [(2004,vR (.I 0) 1),(2005,vR (.I a1) 1),(2006,vR (.L b8.Pv a0) 1)]) W λs12 x13 h hx23=>S4 1 J<|g9 ?_;refine cN h (λhc h=>?_) λhc h=>?_
  ·refine c8 ?_;refine g9<|k7<|S4 2 J<|drY [] 8 x4 (by kernel_rfl) (by kernel_rfl) (by kernel_rfl) (by kernel_rfl) nl<|S7 3 J<|A9 h λv14 hv24 h=>d2 J (M1 J a98 J hv24) J<|S7 3 J<|A9 h λv15 hv25 h=>d7 J (λ_ hN=>b3n J J hv25) J<|a1t<|c4o (WE [(1000002,.ptr 2006 0 0),(1000003,.ptr 2005 0 0),(1000004,.ptr 2004 0 0),(1000009,.fn (.func 224) [.rptr [.I v10.1],.rptr [.I v10.2]]),(0,.fn (.yield l17) []),(1,.rptr [.I v10.1]),(2,.rptr [.I v10.2]),(5,.I v10.1),(6,.I s12),(9,.fn (.yield l17) []),(16,.I v15)] [(2004,vR (.I 0) 1),(2005,vR (.I a1) 1),(2006,vR (.L b8.Pv a0) 1)]) ?_;refine b39 J hR20 J J J J J J (λe26 o27 o28=>?_);refine S6 1 J ?_;refine⟨J,?_⟩;refine k7<|g9<|S3 2 J<|iL h J J a0X a0S λv16 hv29 h=>S2 3 J ?_;refine cN h (λhc h=>?_) λhc h=>?_
   ·refine s7 ?_;refine g6<|a5M (by decide) ?_;refine⟨J,?_⟩;refine⟨_,b36 [(1000002,.ptr 2006 0 0),(1000003,.ptr 2005 0 0),(1000004,.ptr 2004 0 0),(1000009,.fn (.func 224) [.rptr [.I v10.1],.rptr [.I v10.2]]),(0,.fn (.yield l17) []),(1,.rptr [.I v10.1]),(2,.rptr [.I v10.2]),(5,.I v10.1),(6,.I s12),(17,.bool false)] [(2004,vR (.I 0) 1),(2005,vR (.I a1) 1),(2006,vR (.L b8.Pv a0) 1)] ⟨J,J,J,J,J,J,J,J,J,J,J,J,J,J,J,J,J,J,J,J,J,J,J,J,J,J,J,J,J,J,tr⟩ ⟨rS,rS,rS,tr⟩,?_⟩;refine S8 1 J ?_;refine F8 true J (λ_=>?_) (λq=>nomatch q);refine b9 ?_;refine .inr ⟨.exit 0,J,d2e ?_⟩;refine n0 ?_;have h:=xL hx23 h;exact eJ h (WP (λl=>if l=2001 then 2004 else l))
   ·refine c8 ?_;refine dr [] x4 (by kernel_rfl) (by kernel_rfl)<|S7 2 J<|d0 J (K9 (f:=b8.Pv) (cs:=b8.Pc v16) hv29 J J a0X a0S J J) J<|S7 4 J<|b4K J (λhg=>oS J J J b5q J) J<|a9U J (λhg _ hN=>mI J) J<|b4K J (λhg=>K9 (f:=b8.Pv) (cs:=b8.Pc v16) hv29 (ct hg) (ct hg) a0X a0S J J) J<|a9U J (λhg _ hN=>I4 (ct hg) c1w J) J<|b4K J (λhg=>O2 (ct hg) I9 J) J<|b4K J (λhg=>oS J J J I9 J) J<|a9U J (λhg _ hN=>D4 (ct hg) (ct hg) J) J<|d7 J (λ_ hN=>H3 J J J (λq=>eqT q)) J<|a1t ?_;refine cN h (λhc h=>?_) λhc h=>?_
    ·refine S4 2 J ?_;refine b9 ?_;refine⟨J,?_⟩;refine⟨_,b36 [(1000002,.ptr 2006 0 0),(1000003,.ptr 2005 0 0),(1000004,.ptr 2004 0 0),(1000009,.fn (.func 224) [.rptr [.I v10.1],.rptr [.I v10.2]]),(0,.fn (.yield l17) []),(1,.rptr [.I v10.1]),(2,.rptr [.I v10.2]),(5,.I v10.1),(6,.I s12),(17,.bool false)] [(2004,vR (.I v15) 1),(2005,vR (.I a1) 1),(2006,vR (.L b8.Pv a0) 1)] ⟨J,J,J,J,J,J,J,J,J,J,J,J,J,J,J,J,J,J,J,J,J,J,J,J,J,J,J,J,J,J,tr⟩ ⟨rS,rS,rS,tr⟩,?_⟩;refine S8 1 J ?_;refine F8 true J (λ_=>?_) (λq=>nomatch q);refine b9 ?_;refine .inr ⟨.ret,J,c6j ?_⟩;have h:=xL hx23 h;cases h;exact⟨J,[_],⟨oS J J J I9 J,tr⟩,J,io⟩
    ·refine c8 ?_;refine⟨J,?_⟩;refine⟨_,b36 [(1000002,.ptr 2006 0 0),(1000003,.ptr 2005 0 0),(1000004,.ptr 2004 0 0),(1000009,.fn (.func 224) [.rptr [.I v10.1],.rptr [.I v10.2]]),(0,.fn (.yield l17) []),(1,.rptr [.I v10.1]),(2,.rptr [.I v10.2]),(5,.I v10.1),(6,.I s12),(17,.bool true)] [(2004,vR (.I 0) 1),(2005,vR (.I a1) 1),(2006,vR (.L b8.Pv a0) 1)] ⟨J,J,J,J,J,J,J,J,J,J,J,J,J,J,J,J,J,J,J,J,J,J,J,J,J,J,J,J,J,J,tr⟩ ⟨rS,rS,rS,tr⟩,?_⟩;refine S8 1 J ?_;refine F8 false J (λq=>nomatch q) (λ_=>?_);refine c8<|S6 2 J ?_;exact eL h W
  ·refine s7 ?_;refine g6<|g6<|n0 ?_;refine .inl ⟨J,?_⟩;have h:=xL hx23 h;exact eJ h (WP (λl=>if l=2001 then 2004 else l))

theorem a4p{a0 a1}:PO Tryz.prog 175 [.L b8.Pv a0,.I a1] (J2 a0 a1) λr=>.tup [.I r.1,.I r.2]:=by
 refine pO Tryz.func175 λr h _ _=>?_;refine S4 2 J<|S3 2 J<|cA h a5X J J λv1 _ h=>S2 1 J<|g9<|S4 2 J ?_;refine cN h (λhc h=>?_) λhc h=>?_
 ·refine S4 2 J ?_;refine b9 ?_;cases h;exact f2
 ·refine c8 ?_;refine S3 2 J<|iL h J J a0X a0S λv2 _ h=>S2 4 J<|b9 ?_;cases h;exact f2

theorem Z4{a0}:PON Tryz.prog 212 [.L b8.Pv a0] (B8 a0) λr=>⟨List.map b8.Pv r,0,true,3,true⟩:=by
 refine pON Tryz.func212 λr h _ _=>?_;unfold B8 at h;refine S4 1 J<|g9<|S3 1 J<|b65 J a0X λb hb=>yN ?_;refine F8 b J (λhc=>?_) (λhc=>?_)
 ·obtain rfl:a0 = []:=by simpa using hb hc
  refine S4 1 J<|a2L (T0 (t:=2) (l:=920000) (z:=3) J J)<|b9 ?_;cases h;exact⟨J,_,_,J,J,J,J⟩
 ·refine c8 ?_;refine sR<|y0 J (a5d J a0X a0S)<|S1 1 J<|y1 J (b45 (f:=b8.Pv) h J J (.inl ⟨_,J,J⟩) a0X a0S c0a b2f J (λ_=>J)) J<|S2 1 J<|b9 ?_;exact⟨J,_,_,J,J,J,J⟩

theorem a5Y{a0 a1 a2}:PO Tryz.prog 186 [.L b8.Pv a0,.I a1,b8.Pv a2] (a1h a0 a1 a2) λr=>.L b8.Pv r:=by
 refine pO Tryz.func186 λr h _ _=>?_;unfold a1h at h;refine S4 2 J<|S3 1 J<|A9 h λv1 hv1 h=>ycN J (b46 J Z4 J hv1) J J<|S2 1 J<|S3 3 J<|A9 h λv2 hv2 h=>y0 J (a8Y (f:=b8.Pv) hv2 J J J J a0X a0S J)<|b38 (f:=b8.Pv) (v:=a2) hv2 J J (.inl J) a0S<|yN<|S4 2 J<|b9 ?_;cases h;exact f1

theorem a97{a0 a1}:PO Tryz.prog 136 [.L b8.Pv a0,.I a1] (V6 a0 a1) λr=>.tup [.L b8.Pv r.1,.I r.2.1,.I r.2.2]:=by
 refine pO Tryz.func136 λr h _ _=>?_;refine S4 3 J<|S3 2 J<|cA h a5X J J λv1 _ h=>S2 1 J<|g9<|S4 2 J ?_;refine cN h (λhc h=>?_) λhc h=>?_
 ·refine S4 4 J ?_;refine b9 ?_;cases h;exact f3
 ·refine c8 ?_;refine dr [] x4 (by kernel_rfl) (by kernel_rfl)<|S7 2 J<|d7 J (λ_ hN=>s6 (cs:=[.I 2,.I 0,.I 0]) J c0f b2f J J J) J<|A9 h λv2 hv2 h=>d2f J (A3 J a5Y J hv2) J<|S7 2 J<|A9 h λv3 hv3 h=>d0 J (K9 (f:=b8.Pv) (cs:=b8.Pc v3) hv3 J J a0X a0S J J) J<|S8 5 J<|b9 ?_;cases h;exact f3

theorem b7D{a0 a1 a2}:PO Tryz.prog 207 [.L b8.Pv a0,.I a1,.I a2] (a7f a0 a1 a2) λr=>.tup [.L b8.Pv r.1,.I r.2]:=by
 refine pO Tryz.func207 λr h _ _=>?_;refine S4 3 J<|S3 2 J<|y0 J (s6 (cs:=[.I 1,.I a1,.I a2]) J c0f b2f J J J)<|S2 2 J<|g9<|S3 2 J<|cA h a5X J J λv1 _ h=>S2 1 J<|S4 2 J ?_;refine cN h (λhc h=>?_) λhc h=>?_
 ·refine S3 3 J ?_;refine cF h a5Y J J λv2 _ h=>S2 2 J<|b9 ?_;cases h;exact⟨J,[_,_],⟨oS J J J b5q J,⟨oS J J J b0T J,tr⟩⟩,J,io⟩
 ·refine c8 ?_;refine jq h (λ_=>St.of [(3,.ptr 2004 0 0),(6,.ptr 2003 0 0),(7,.ptr 2002 0 0)] [(2002,vR (.I 0) 1),(2003,vR (.nl) 1),(2004,vR (.L b8.Pv a0) 1)]) (λq12 h=>?_) λκ11 h=>?_
  ·refine S4 3 J ?_;refine b9 ?_;cases h;exact⟨J,[_,_],⟨oS J J J b5q J,⟨oS J J J b0T J,tr⟩⟩,J,io⟩
  ·refine S3 1 J ?_;refine nL J a0X<|S1 1 J<|cF h b0b J J λv13 _ h=>yN<|k7<|a2L (WPE (λl=>if l=2005 then 8 else if l=2006 then 7 else if l=2007 then 6 else if l=2008 then 3 else l) [(3,.ptr 2008 0 0),(6,.ptr 2007 0 0),(7,.ptr 2006 0 0),(8,.ptr 2005 0 0),(26,.fn (.func 224) [.rptr [.I v13.1],.rptr [.I v13.2]])] [(2005,vR (.agg [.I 1,.I a1,.I a2]) 3),(2006,vR (.I 0) 1),(2007,vR (.nl) 1),(2008,vR (.L b8.Pv a0) 1)]) ?_;refine a1G (fn:=Tryz.f224) (N1:=20) J Tryz.func224 J J nl J c0c J J (λl20 e21 o22 hR23=>?_);refine S4 2 J<|k7<|lq h (λs15=>St.of [(1000003,.ptr 2008 0 0),(1000006,.ptr 2007 0 0),(1000007,.ptr 2006 0 0),(1000008,.ptr 2005 0 0),(1000026,.fn (.func 224) [.rptr [.I v13.1],.rptr [.I v13.2]]),(0,.fn (.yield l20) []),(1,.rptr [.I v13.1]),(2,.rptr [.I v13.2]),(5,.I v13.1),(6,.I s15)] [(2005,vR (.agg [.I 1,.I a1,.I a2]) 3),(2006,vR (.I 0) 1),(2007,vR (.nl) 1),(2008,vR (.L b8.Pv a0) 1)]) W λs15 x16 h hx26=>S4 1 J<|g9 ?_;refine cN h (λhc h=>?_) λhc h=>?_
   ·refine c8 ?_;refine g9<|k7<|S4 2 J<|drY [] 8 x4 (by kernel_rfl) (by kernel_rfl) (by kernel_rfl) (by kernel_rfl) nl<|S7 3 J<|A9 h λv17 hv27 h=>d2 J (M1 J a98 J hv27) J<|S7 3 J<|A9 h λv18 hv28 h=>d7 J (λ_ hN=>b3n J J hv28) J<|a1t<|c4o (WE [(1000003,.ptr 2008 0 0),(1000006,.ptr 2007 0 0),(1000007,.ptr 2006 0 0),(1000008,.ptr 2005 0 0),(1000026,.fn (.func 224) [.rptr [.I v13.1],.rptr [.I v13.2]]),(0,.fn (.yield l20) []),(1,.rptr [.I v13.1]),(2,.rptr [.I v13.2]),(5,.I v13.1),(6,.I s15),(9,.fn (.yield l20) []),(16,.I v18)] [(2005,vR (.agg [.I 1,.I a1,.I a2]) 3),(2006,vR (.I 0) 1),(2007,vR (.nl) 1),(2008,vR (.L b8.Pv a0) 1)]) ?_;refine b39 J hR23 J J J J J J (λe29 o30 o31=>?_);refine S6 1 J ?_;refine⟨J,?_⟩;refine k7<|S3 2 J<|iL h J J a0X a0S λv19 _ h=>S2 3 J ?_;refine cN h (λhc h=>?_) λhc h=>?_
    ·refine S3 3 J ?_;refine cF h a5Y J J λv20 _ h=>S2 2 J<|b9 ?_;refine⟨J,?_⟩;refine⟨_,b36 [(1000003,.ptr 2008 0 0),(1000006,.ptr 2007 0 0),(1000007,.ptr 2006 0 0),(1000008,.ptr 2005 0 0),(1000026,.fn (.func 224) [.rptr [.I v13.1],.rptr [.I v13.2]]),(0,.fn (.yield l20) []),(1,.rptr [.I v13.1]),(2,.rptr [.I v13.2]),(5,.I v13.1),(6,.I s15),(17,.bool false)] [(2005,vR (.agg [.I 1,.I a1,.I a2]) 3),(2006,vR (.I 0) 1),(2007,vR (.L b8.Pv v20) 1),(2008,vR (.L b8.Pv a0) 1)] ⟨J,J,J,J,J,J,J,J,J,J,J,J,J,J,J,J,J,J,J,J,J,J,J,J,J,J,J,J,J,J,J,J,J,tr⟩ ⟨rS,rS,rS,rS,tr⟩,?_⟩;refine S8 1 J ?_;refine F8 true J (λ_=>?_) (λq=>nomatch q);refine b9 ?_;refine .inr ⟨.ret,J,c6j ?_⟩;have h:=xL hx26 h;cases h;exact⟨J,[_,_],⟨oS J J J b5q J,⟨oS J J J b0T J,tr⟩⟩,J,io⟩
    ·refine c8 ?_;refine⟨J,?_⟩;refine⟨_,b36 [(1000003,.ptr 2008 0 0),(1000006,.ptr 2007 0 0),(1000007,.ptr 2006 0 0),(1000008,.ptr 2005 0 0),(1000026,.fn (.func 224) [.rptr [.I v13.1],.rptr [.I v13.2]]),(0,.fn (.yield l20) []),(1,.rptr [.I v13.1]),(2,.rptr [.I v13.2]),(5,.I v13.1),(6,.I s15),(17,.bool true)] [(2005,vR (.agg [.I 1,.I a1,.I a2]) 3),(2006,vR (.I 0) 1),(2007,vR (.nl) 1),(2008,vR (.L b8.Pv a0) 1)] ⟨J,J,J,J,J,J,J,J,J,J,J,J,J,J,J,J,J,J,J,J,J,J,J,J,J,J,J,J,J,J,J,J,J,tr⟩ ⟨rS,rS,rS,rS,tr⟩,?_⟩;refine S8 1 J ?_;refine F8 false J (λq=>nomatch q) (λ_=>?_);refine c8<|S6 2 J ?_;exact eL h W
   ·refine s7 ?_;refine g6<|g6<|n0 ?_;refine .inl ⟨J,?_⟩;have h:=xL hx26 h;exact eJ h (WP (λl=>if l=2004 then 2008 else if l=2003 then 2007 else if l=2002 then 2006 else l))

theorem b5P{a0 a1 a2}:PO Tryz.prog 173 [.L b8.Pv a0,.I a1,.I a2] (R1 a0 a1 a2) λr=>.tup [.L b8.Pv r.1,.I r.2.1,.I r.2.2]:=by
 refine pO Tryz.func173 λr h _ _=>?_;refine S4 3 J<|g9<|S4 2 J ?_;refine cN h (λhc h=>?_) λhc h=>?_
 ·refine S4 4 J ?_;refine b9 ?_;cases h;exact f3
 ·refine c8 ?_;refine S3 2 J<|cA h a4p J J λv1 _ h=>S2 5 J<|g9<|S4 2 J ?_;refine cN h (λhc h=>?_) λhc h=>?_
  ·refine S3 2 J ?_;refine cF h a97 J J λv2 _ h=>S2 7 J<|S4 5 J<|b9 ?_;cases h;exact f3
  ·refine c8 ?_;refine S3 3 J<|cF h b7D J J λv3 _ h=>S2 5 J<|g9<|S4 2 J ?_;refine cN h (λhc h=>?_) λhc h=>?_
   ·refine S4 5 J ?_;refine b9 ?_;cases h;exact f3
   ·refine c8 ?_;refine S4 5 J<|b9 ?_;cases h;exact f3

theorem a6S{a0 a1}:PO Tryz.prog 174 [F4.Pv a0,b6.Pv a1] (T9 a0 a1) λr=>b6.Pv r:=by
 refine pO Tryz.func174 λr h _ _=>?_;unfold T9 at h;refine S4 3 J<|S4 4 J<|S4 2 J<|b9 ?_;cases h;exact⟨J,[_],⟨oL J J J o9 n8 nl J,tr⟩,J,io⟩

theorem a02{a0 a1 a2 a3}:PO Tryz.prog 166 [b6.Pv a0,.I a1,.I a2,.abs (BFn 174 [F4.Pv a3])] (G6 a0 a1 a2 a3) λr=>b6.Pv r:=by
 refine pO Tryz.func166 λr h _ _=>?_;refine S4 2 J<|S3 3 J<|cF h a1z J J λv1 _ h=>A9 h λv2 hv2 h=>b64 (xs:=[b6.Pv v1]) J J c5A J (a6S.2 _ hv2)<|S1 1 J<|cF h U8 J J λv3 _ h=>S2 1 J<|b9 ?_;cases h;exact⟨J,[_],⟨oL J J J o9 n8 nl J,tr⟩,J,io⟩

theorem b53{a0 a1 a2}:PO Tryz.prog 128 [b6.Pv a0,.I a1,.I a2] (a3v a0 a1 a2) λr=>.tup [b6.Pv r.1,.I r.2]:=by
 refine pO Tryz.func128 λr h _ _=>?_;refine S4 3 J<|g9<|S4 2 J ?_;refine cN h (λhc h=>?_) λhc h=>?_
 ·refine S4 3 J ?_;refine b9 ?_;cases h;exact⟨J,[_,_],⟨oL J J J o9 n8 nl J,⟨J,tr⟩⟩,J,io⟩
 ·refine c8 ?_;refine g9<|S3 2 J<|cA h R4 J J λv1 _ h=>S1 2 J<|n7 J (λhg=>oL J J J o9 n8 nl J)<|n7 J (λhg=>mI J)<|A9 h λv2 hv2 h=>n7 J (λhg=>M1 J R4 (a0q (ct hg) (a0q (ct hg) J)) (a0u hv2 hg))<|n7 J (λhg=>a3X (ct hg) J)<|y0 J (K3 J J J (λq=>eqF q))<|yN ?_;refine cN h (λhc h=>?_) λhc h=>?_
  ·refine S4 3 J ?_;refine b9 ?_;cases h;exact⟨J,[_,_],⟨oL J J J o9 n8 nl J,⟨J,tr⟩⟩,J,io⟩
  ·refine c8 ?_;refine S3 4 J<|cF h b5P J J λv3 _ h=>S2 7 J<|g9<|S4 2 J ?_;refine cN h (λhc h=>?_) λhc h=>?_
   ·refine S4 4 J ?_;refine b9 ?_;cases h;exact⟨J,[_,_],⟨oL J J J o9 n8 nl J,⟨J,tr⟩⟩,J,io⟩
   ·refine c8 ?_;refine S3 4 J<|y0 J (s6 (cs:=[.L b8.Pv v3.1]) J c5K c5S J J J)<|y0 J (b1f (d:=.agg [.L b8.Pv v3.1]) J)<|cF h a02 J J λv4 _ h=>S2 2 J<|b9 ?_;cases h;exact⟨J,[_,_],⟨oL J J J o9 n8 nl J,⟨J,tr⟩⟩,J,io⟩

theorem a2J{a0}:PO Tryz.prog 72 [o6.Pv a0] (Y0 a0) λr=>.tup [b6.Pv r.1,.I r.2]:=by
 refine pO Tryz.func72 λr h _ _=>?_;refine S4 3 J<|S3 5 J<|cA h O1 J J λv1 _ h=>S2 5 J<|g9<|S4 2 J ?_;refine cN h (λhc h=>?_) λhc h=>?_
 ·refine S4 5 J ?_;refine b9 ?_;cases h;exact⟨J,[_,_],⟨oL J J J o9 n8 nl J,⟨J,tr⟩⟩,J,io⟩
 ·refine c8 ?_;refine dr [] x4 (by kernel_rfl) (by kernel_rfl)<|S7 8 J<|A9 h λv2 hv2 h=>d2 J (M1 J K7 J hv2) J<|A9 h λv3 hv3 h=>d2f J (A3 J b53 J hv3) J<|S7 2 J<|D7 (x':=b6.Pv v3.1) (cl':=true) J J (.inr J) n8<|S8 1 J<|b9 ?_;cases h;exact⟨J,[_,_],⟨oL J J J o9 n8 nl J,⟨J,tr⟩⟩,J,io⟩

theorem b5O{a0 a1}:PO Tryz.prog 129 [.L b8.Pv a0,.I a1] (b0Z a0 a1) λr=>.tup [.I r.1,.I r.2]:=by
 refine pO Tryz.func129 λr h _ _=>?_;refine S4 2 J<|S3 2 J<|cA h a4p J J λv1 _ h=>S2 4 J<|b9 ?_;cases h;exact f2

theorem a3c{a0}:PO Tryz.prog 73 [o6.Pv a0] (a0i a0) λr=>.tup [b6.Pv r.1,.I r.2]:=by
 refine pO Tryz.func73 λr h _ _=>?_;refine S4 3 J<|S3 5 J<|cA h O1 J J λv1 _ h=>S2 5 J<|g9<|S4 2 J ?_;refine cN h (λhc h=>?_) λhc h=>?_
 ·refine S4 5 J ?_;refine b9 ?_;cases h;exact⟨J,[_,_],⟨oL J J J o9 n8 nl J,⟨J,tr⟩⟩,J,io⟩
 ·refine c8 ?_;refine dr [] x4 (by kernel_rfl) (by kernel_rfl)<|S7 5 J<|A9 h λv2 hv2 h=>d2 J (M1 J b5O J hv2) J<|S7 2 J<|A9 h λv3 hv3 h=>d2f J (A3 J E6 J hv3) J<|S7 2 J<|D7 (x':=b6.Pv v3.1) (cl':=true) J J (.inr J) n8<|S8 1 J<|b9 ?_;cases h;exact⟨J,[_,_],⟨oL J J J o9 n8 nl J,⟨J,tr⟩⟩,J,io⟩

theorem a1Z{a0}:PO Tryz.prog 74 [o6.Pv a0] (M5 a0) λr=>.tup [b6.Pv r.1,.I r.2]:=by
 refine pO Tryz.func74 λr h _ _=>?_;unfold M5 at h;refine S4 3 J<|S4 4 J<|b9 ?_;cases h;exact⟨J,[_,_],⟨oL J J J o9 n8 nl J,⟨J,tr⟩⟩,J,io⟩

theorem b9e{f:Fv}{a0:o6}{r:b6 × Int}(h:b2k f a0=some r):∃n,f=some n∧A1 Tryz.prog n∧W1 Tryz.prog n [o6.Pv a0] (.tup [b6.Pv r.1,.I r.2]):=by
 unfold b2k at h;by_cases e65:f=some 65
 ·rw[if_pos e65] at h;exact⟨65,e65,(@a1D a0).1,(@a1D a0).2 _ h⟩
 rw[if_neg e65] at h;by_cases e66:f=some 66
 ·rw[if_pos e66] at h;exact⟨66,e66,(@a0s a0).1,(@a0s a0).2 _ h⟩
 rw[if_neg e66] at h;by_cases e67:f=some 67
 ·rw[if_pos e67] at h;exact⟨67,e67,(@a2H a0).1,(@a2H a0).2 _ h⟩
 rw[if_neg e67] at h;by_cases e68:f=some 68
 ·rw[if_pos e68] at h;exact⟨68,e68,(@a2I a0).1,(@a2I a0).2 _ h⟩
 rw[if_neg e68] at h;by_cases e69:f=some 69
 ·rw[if_pos e69] at h;exact⟨69,e69,(@a10 a0).1,(@a10 a0).2 _ h⟩
 rw[if_neg e69] at h;by_cases e70:f=some 70
 ·rw[if_pos e70] at h;exact⟨70,e70,(@a1E a0).1,(@a1E a0).2 _ h⟩
 rw[if_neg e70] at h;by_cases e71:f=some 71
 ·rw[if_pos e71] at h;exact⟨71,e71,(@a3T a0).1,(@a3T a0).2 _ h⟩
 rw[if_neg e71] at h;by_cases e72:f=some 72
 ·rw[if_pos e72] at h;exact⟨72,e72,(@a2J a0).1,(@a2J a0).2 _ h⟩
 rw[if_neg e72] at h;by_cases e73:f=some 73
 ·rw[if_pos e73] at h;exact⟨73,e73,(@a3c a0).1,(@a3c a0).2 _ h⟩
 rw[if_neg e73] at h;by_cases e74:f=some 74
 ·rw[if_pos e74] at h;exact⟨74,e74,(@a1Z a0).1,(@a1Z a0).2 _ h⟩
 rw[if_neg e74] at h;cases h

theorem a44{a0}:PO Tryz.prog 97 [.I a0] (a0I a0) λr=>.bool r:=by
 refine pO Tryz.func97 λr h _ _=>?_;unfold a0I at h;refine S4 1 J<|S4 4 J<|b9 ?_;cases h;exact f1

theorem a9c{a0 a1}:PO Tryz.prog 53 [.I a0,.I a1] (a2W a0 a1) λr=>.I r:=by
 refine pO Tryz.func53 λr h _ _=>?_;refine S4 1 J<|S3 1 J<|cA h a44 J J λv1 _ h=>S2 1 J<|S3 1 J<|cA h a44 J J λv2 _ h=>S2 1 J<|g9<|S4 1 J ?_;refine cN h (λhc h=>?_) λhc h=>?_
 ·refine g9 ?_;refine S4 1 J ?_;refine cN h (λhc h=>?_) λhc h=>?_
  ·refine S4 1 J ?_;refine b9 ?_;cases h;exact f1
  ·refine c8 ?_;refine S4 1 J<|b9 ?_;cases h;exact f1
 ·refine c8 ?_;refine g9<|S4 1 J ?_;refine cN h (λhc h=>?_) λhc h=>?_
  ·refine S4 1 J ?_;refine b9 ?_;cases h;exact f1
  ·refine c8 ?_;refine g9<|S4 3 J ?_;refine cN h (λhc h=>?_) λhc h=>?_
   ·refine S4 1 J ?_;refine b9 ?_;cases h;exact f1
   ·refine c8 ?_;refine g9<|S4 3 J ?_;refine cN h (λhc h=>?_) λhc h=>?_
    ·refine S4 1 J ?_;refine b9 ?_;cases h;exact f1
    ·refine c8 ?_;refine S4 1 J<|b9 ?_;cases h;exact f1

theorem b2b{a0 a1 a2}:PO Tryz.prog 52 [.I a0,.I a1,.rptr [.abs (U6 (List.map (ent iF iF) a2))]] (a3q a0 a1 a2) λr=>.I r:=by
 refine pO Tryz.func52 λr h _ _=>?_;refine S4 1 J<|S3 2 J<|y0 J (b7U (es:=a2) (k:=a0) (E:=iF) (EK:=iF) (d:=.I ((A0 a2 a0).getD (0:Int))) J J b2N (y6 J0) D6 J (lk1 _ _ _))<|S1 2 J<|y0 J (b7U (es:=a2) (k:=a1) (E:=iF) (EK:=iF) (d:=.I ((A0 a2 a1).getD (0:Int))) J J b2N (y6 J0) D6 J (lk1 _ _ _))<|cA h a9c J J λv1 _ h=>S2 1 J<|b9 ?_;cases h;exact f1

theorem I6{a0}:PO Tryz.prog 33 [a7.Pv a0] (B9 a0) λr=>.L iF r:=by
 refine pO Tryz.func33 λr h _ _=>?_;refine S4 2 J<|S4 1 J<|sR<|b8J (KT:=Int) (VT:=Int) (EK:=iF) (E:=iF) 5000008 J J<|S2 2 J ?_;refine jq h (λq=>St.of [(3,.sl 910003),(4,.ptr 4 0 0)] [(4,vS (.mp 5000008) 1),(5000008,⟨[.mapc (List.map (ent iF iF) q.1)],0,false,0,false⟩),(910003,⟨List.map iF q.2,0,true,1,true⟩)]) (λq20 h=>?_) λκ17 h=>?_
 ·obtain⟨j18,j19⟩:=q20;refine S3 2 J<|P1 (Wk.trans (c7p 5000008 nl J) (d0h 4 0 5000008 J J J J))<|A9 h λv21 hv12 h=>d0m hv12 J J c8f c96 J J J c8g J J J J J (λp q r h=>b2b.2 r h)<|yN<|S4 2 J<|b9 ?_;cases h;exact f1
 ·refine S3 3 J ?_;refine nL J Q6<|S2 1 J<|k7<|lq h (λq=>St.of [(3,.sl 910003),(4,.ptr 4 0 0),(11,.L b7.Pv a0.S.a8),(12,.I (a0.S.a8.length:Int)),(13,.I q.1)] [(4,vS (.mp 5000008) 1),(5000008,⟨[.mapc (List.map (ent iF iF) q.2.1)],0,false,0,false⟩),(910003,⟨List.map iF q.2.2,0,true,1,true⟩)]) (Wk.trans (T0 (t:=3) (l:=920003) (z:=1) J J) (WP (λl=>if l=910003 then 920003 else l))) λq27 x26 h hx15=>?_;obtain⟨s23,s24,s25⟩:=q27;refine S4 1 J<|g9 ?_;refine cN h (λhc h=>?_) λhc h=>?_
  ·refine c8 ?_;refine jq h (λq=>St.of [(3,.sl 33),(4,.ptr 4 0 0),(11,.L b7.Pv a0.S.a8),(12,.I (a0.S.a8.length:Int)),(13,.I s23)] [(4,vS (.mp 5000008) 1),(5000008,⟨[.mapc (List.map (ent iF iF) q.1)],0,false,0,false⟩),(33,⟨List.map iF q.2,0,true,1,true⟩)]) (λq34 h=>?_) λκ31 h=>?_
   ·obtain⟨j32,j33⟩:=q34;refine S6 2 J ?_;exact eL h (WP (λl=>if l=910003 then 33 else l))
   ·refine k7 ?_;refine S3 1 J<|iL h J J Q6 a0w λv35 _ h=>S2 4 J<|S4 3 J ?_;refine cN h (λhc h=>?_) λhc h=>?_
    ·refine S3 3 J ?_;refine cA h a7d J J λv36 _ h=>S2 1 J<|S3 5 J<|a0G (es:=s24) (k:=v36) (v:=v35.Val.Serial) (E:=iF) (EK:=iF) (.inl J) J J J J J J b2N (y6 J0)<|yN<|S5 2 J<|y0 J (T4 (f:=iF) (l:=[v36]) J l7 r7 D6 J J nl J J)<|A9 h λv37 hv22 h=>c76 (f:=iF) (b:=8) [(4,.ptr 4 0 0),(11,.L b7.Pv a0.S.a8),(12,.I (a0.S.a8.length:Int)),(13,.I s23),(14,.bool (decide (s23<(a0.S.a8.length:Int)))),(15,.I s23),(16,.rptr (b7.Pc v35)),(17,b7.Pv v35),(6,.ptr 6 0 0),(5,.I s23),(18,.ptr 6 0 0),(19,.I v35.State),(20,.bool (v35.State==1)),(21,.I s23),(22,.ptr 6 0 1),(23,.I v35.Gen),(24,.I v36),(7,.I v36),(25,.mp 5000008),(26,.I v36),(27,.ptr 6 0 2),(28,.ptr 6 0 2),(29,.I v35.Val.Serial),(31,.I v36),(32,.lst true (List.map iF [v36]))] [(6,vR (b7.Pv v35) 8),(5000008,⟨[.mapc (List.map (ent iF iF) (o0 s24 v36 v35.Val.Serial))],0,false,0,false⟩),(4,vS (.mp 5000008) 1)] J hv22 ⟨J,J,J,J,J,J,J,J,J,J,J,J,J,J,J,J,J,J,J,J,J,J,J,J,J,J,J,J,J,J,J,J,J,J,J,J,J,J,J,J,J,J,J,J,J,J,J,J,J,J,J,J,J,J,J,J,J,J,J,J,J,J,J,J,J,J,J,J,J,J,J,J,J,J,J,tr⟩ ⟨rS,a2k J J J (λq=>nomatch q) J J J J,a2k J J J (λq=>nomatch q) J J J J,tr⟩ J J J J (.inl ⟨_,J,J⟩) l7 r7 Y5 D6 J (λ_=>J)<|S2 1 J ?_;exact eJ h W
    ·refine c8 ?_;exact eJ h (WP (λl=>if l=33 then 910003 else l))
  ·refine s7 ?_;refine g6<|g6<|n0 ?_;have h:=xL hx15 h;exact eJ h W

theorem b3S{a0}:PO Tryz.prog 75 [b6.Pv a0] (a1l a0) λr=>.L iF r:=by
 refine pO Tryz.func75 λr h _ _=>?_;refine S4 2 J<|S4 1 J ?_;refine jq h (λj16=>St.of [(3,.sl 910003)] [(910003,⟨List.map iF j16,(List.map iF j16).length,true,1,true⟩)]) (λj16 h=>?_) λκ15 h=>?_
 ·refine S4 2 J ?_;refine b9 ?_;cases h;exact f1
 ·refine S3 2 J ?_;refine cF h I6 J J λv17 _ h=>nL J l7<|S2 1 J<|k7<|lq h (λq=>St.of [(1,.ptr 1 0 0),(3,.sl 910003),(10,.L iF v17),(11,.I (v17.length:Int)),(12,.I q.1)] [(1,vR (b6.Pv a0) 8),(910003,⟨List.map iF q.2,(List.map iF q.2).length,true,1,true⟩)]) (Wk.trans (T0 (t:=3) (l:=920003) (z:=1) J J) (WP (λl=>if l=910003 then 920003 else l))) λq22 x21 h hx16=>?_;obtain⟨s19,s20⟩:=q22;refine S4 1 J<|g9 ?_;refine cN h (λhc h=>?_) λhc h=>?_
  ·refine c8 ?_;refine jq h (λj27=>St.of [(1,.ptr 1 0 0),(3,.sl 29),(10,.L iF v17),(11,.I (v17.length:Int)),(12,.I s19)] [(29,⟨List.map iF j27,(List.map iF j27).length,true,1,true⟩),(1,vR (b6.Pv a0) 8)]) (λj27 h=>?_) λκ26 h=>?_
   ·refine S6 2 J ?_;exact eL h (Wk.trans (p6 _ [29]) (WP (λl=>if l=910003 then 29 else l)))
   ·refine k7 ?_;refine sR<|iL h J J l7 r7 λv28 _ h=>S2 2 J<|S3 3 J<|cF h A6 J J λv29 _ h=>S2 6 J<|S4 3 J ?_;refine cN h (λhc h=>?_) λhc h=>?_
    ·refine S5 2 J ?_;refine y0 J (T4 (f:=iF) (l:=[v28]) J l7 r7 D6 J J nl J J)<|A9 h λv30 hv23 h=>a0R J (a0t (f:=iF) hv23 J J J J J J (.inl ⟨_,J,J⟩) l7 r7 Y5 D6 J (λ_=>J)) J J J<|S2 1 J ?_;exact eJ h (Wk.trans (p6 _ [29]) W)
    ·refine c8 ?_;exact eJ h (Wk.trans (p6 _ [910003]) (WP (λl=>if l=29 then 910003 else l)))
  ·refine s7 ?_;refine g6<|g6<|n0 ?_;have h:=xL hx16 h;exact eJ h (Wk.trans (p6 _ [910003]) W)

theorem a4D{a0}:PO Tryz.prog 76 [l5.Pv a0] (J4 a0) λr=>.bool r:=by
 refine pO Tryz.func76 λr h _ _=>?_;unfold J4 at h;refine S4 2 J<|S3 4 J<|n7 J (λhg=>oF J b7h J)<|n7 J (λhg=>oS (ct hg) J J b7f J)<|n7 J (λhg=>a3X (ct hg) J)<|y0 J (H3 J J J (λq=>eqT q))<|S2 1 J<|b9 ?_;cases h;exact f1

theorem L6{a0}:PO Tryz.prog 177 [c9.Pv a0] (G2 a0) λr=>.I r:=by
 refine pO Tryz.func177 λr h _ _=>?_;unfold G2 at h;refine S4 2 J<|S3 2 J<|nL J a6Z<|S2 1 J<|b9 ?_;cases h;exact f1

theorem R8{a0 a1 a2}:PO Tryz.prog 178 [.L g7.Pv a0,.I a1,.I a2] (D2 a0 a1 a2) λr=>.lst true (List.map g7.Pv r):=by
 refine pO Tryz.func178 λr h _ _=>?_;unfold D2 at h;refine S4 1 J<|S3 4 J<|A9 h λv1 hv1 h=>y0 J (c38 (f:=g7.Pv) hv1 J ⟨_,J⟩ ⟨_,J⟩ ⟨_,J⟩ J J a6Z K0 (λ_=>J))<|S2 1 J<|b9 ?_;cases h;exact f1

theorem a5h{a0 a1}:PO Tryz.prog 131 [c9.Pv a0,g7.Pv a1] (O3 a0 a1) λr=>.tup [c9.Pv r.1,.I r.2]:=by
 refine pO Tryz.func131 λr h _ _=>?_;unfold O3 at h;refine S4 4 J<|g9<|dr [] x4 (by kernel_rfl) (by kernel_rfl)<|S7 1 J<|A9 h λv1 hv1 h=>d2 J (M1 J L6 J hv1) J<|S8 3 J ?_;refine cN h (λhc h=>?_) λhc h=>?_
 ·refine S4 3 J ?_;refine b9 ?_;cases h;exact⟨J,[_,_],⟨oL J J J a4J a1r nl J,⟨J,tr⟩⟩,J,io⟩
 ·refine c8 ?_;refine dr [] x4 (by kernel_rfl) (by kernel_rfl)<|S7 3 J<|d2 J (M1 J L6 J hv1) J<|A9 h λv2 hv2 h=>d2f J (A3 J R8 J hv2) J<|S7 1 J<|d1n J (T4 (f:=g7.Pv) (l:=[a1]) J a6Z K0 a9K J J nl J J) J<|A9 h λv3 hv3 h=>d3 J (b45 (f:=g7.Pv) hv3 J J (.inl ⟨_,J,J⟩) a6Z K0 c5y a9K J (λ_=>J)) J J J<|S7 1 J<|D7 (x':=.agg [.sl 19,.I a0.Cap]) (cl':=false) J J (.inl J) c2J<|a1t<|S4 3 J<|b9 ?_;cases h;exact⟨J,[_,_],⟨oL J J J a4J a1r nl J,⟨J,tr⟩⟩,J,io⟩

theorem b1X{a0 a1}:PO Tryz.prog 82 [c9.Pv a0,g7.Pv a1] (a7L a0 a1) λr=>.tup [c9.Pv r.1,.I r.2]:=by
 refine pO Tryz.func82 λr h _ _=>?_;refine S4 4 J<|S3 2 J<|cF h a5h J J λv1 _ h=>S2 4 J<|b9 ?_;cases h;exact⟨J,[_,_],⟨oL J J J a4J a1r nl J,⟨J,tr⟩⟩,J,io⟩

theorem a5t{a0 a1}:PO Tryz.prog 45 [b6.Pv a0,.I a1] (P8 a0 a1) λr=>b6.Pv r:=by
 refine pO Tryz.func45 λr h _ _=>?_;refine S4 2 J<|S3 3 J<|cF h A6 J J λv1 _ h=>S2 6 J<|g9<|S3 3 J<|n7 J (λhg=>oL J J J b2L a60 nl J)<|A9 h λv2 hv2 h=>n7 J (λhg=>M1 J a4D (a0q (ct hg) J) (a0u hv2 hg))<|n7 J (λhg=>a3X (ct hg) J)<|y0 J (K3 J J J (λq=>eqF q))<|yN ?_;refine cN h (λhc h=>?_) λhc h=>?_
 ·refine S4 2 J ?_;refine b9 ?_;cases h;exact⟨J,[_],⟨oL J J J o9 n8 nl J,tr⟩,J,io⟩
 ·refine c8 ?_;refine S4 2 J<|S3 4 J<|cF h a0o J J λv3 _ h=>S2 5 J<|S3 5 J<|y0 J (s6 (cs:=[.I 1,.I a1,.I v1.1.Prog]) J b5s a9K J J J)<|cF h b1X J J λv4 _ h=>S2 5 J<|S3 2 J<|cF h a1z J J λv5 _ h=>S2 1 J<|b9 ?_;cases h;exact⟨J,[_],⟨oL J J J o9 n8 nl J,tr⟩,J,io⟩

theorem a8G{a0 a1}:PO Tryz.prog 84 [b6.Pv a0,.L iF a1] (S0 a0 a1) λr=>.L iF r:=by
 refine pO Tryz.func84 λr h _ _=>?_;refine S4 2 J<|sR<|b8J (KT:=Int) (VT:=Bool) (EK:=iF) (E:=PV.bool) 5000011 J J<|S2 1 J<|S4 1 J ?_;refine jq h (λj18=>St.of [(6,.sl 910006)] [(910006,⟨List.map iF j18,(List.map iF j18).length,true,1,true⟩)]) (λj18 h=>?_) λκ17 h=>?_
 ·refine S4 2 J ?_;refine b9 ?_;cases h;exact f1
 ·refine S3 1 J ?_;refine nL J l7<|S2 1 J<|k7<|lq h (λq=>St.of [(2,.ptr 2 0 0),(5,.mp 5000011),(6,.sl 910006),(12,.L iF a1),(13,.I (a1.length:Int)),(14,.I q.1)] [(5000011,⟨[.mapc (List.map (ent iF PV.bool) q.2.1)],0,false,0,false⟩),(2,vR (b6.Pv a0) 8),(910006,⟨List.map iF q.2.2,(List.map iF q.2.2).length,true,1,true⟩)]) (Wk.trans (T0 (t:=6) (l:=920006) (z:=1) J J) (WP (λl=>if l=910006 then 920006 else l))) λq24 x23 h hx16=>?_;obtain⟨s20,s21,s22⟩:=q24;refine S4 1 J<|g9 ?_;refine cN h (λhc h=>?_) λhc h=>?_
  ·refine c8 ?_;refine jq h (λq=>St.of [(2,.ptr 2 0 0),(5,.mp 5000011),(6,.sl 38),(12,.L iF a1),(13,.I (a1.length:Int)),(14,.I s20)] [(38,⟨List.map iF q.1,(List.map iF q.1).length,true,1,true⟩),(5000011,⟨[.mapc (List.map (ent iF PV.bool) q.2)],0,false,0,false⟩),(2,vR (b6.Pv a0) 8)]) (λq31 h=>?_) λκ28 h=>?_
   ·obtain⟨j29,j30⟩:=q31;refine S6 2 J ?_;exact eL h (Wk.trans (p6 _ [38]) (WP (λl=>if l=910006 then 38 else l)))
   ·refine k7 ?_;refine sR<|iL h J J l7 r7 λv32 _ h=>S2 2 J<|S3 3 J<|cF h A6 J J λv33 _ h=>S2 6 J<|S3 3 J<|n7 J (λhg=>om (d:=.mp 5000011) J)<|n7 J (λhg=>mI J) ?_;rcases Bool.eq_false_or_eq_true ((v33.2==0)==true) with hg24 | hg24
    ·have h:=ifT h hg24;refine c5g (es:=s21) (k:=v32) (E:=PV.bool) (EK:=iF) (d:=.bool ((A0 s21 v32).getD (false:Bool))) (congrArg some hg24) (ct hg24) J (ct hg24) a2y (y6 J0) b7j J (lk1 _ _ _)<|y0 (congrArg some hg24) (a3X J J)<|y0 J (a6b J J hg24)<|yN ?_;refine cN h (λhc h=>?_) λhc h=>?_
     ·refine S3 2 J ?_;refine a0G (es:=s21) (k:=v32) (v:=true) (E:=PV.bool) (EK:=iF) (.inl J) J J J J J J a2y (y6 J0)<|yN<|S5 2 J<|y0 J (T4 (f:=iF) (l:=[v32]) J l7 r7 D6 J J nl J J)<|A9 h λv34 hv25 h=>a0R J (a0t (f:=iF) hv25 J J J J J J (.inl ⟨_,J,J⟩) l7 r7 Y5 D6 J (λ_=>J)) J J J<|S2 1 J ?_;exact eJ h (Wk.trans (p6 _ [38]) W)
     ·refine c8 ?_;exact eJ h (Wk.trans (p6 _ [910006]) (WP (λl=>if l=38 then 910006 else l)))
    ·have h:=ifF h hg24;refine a1S (congrArg some hg24)<|a1S (congrArg some hg24)<|y0 J (a8d J J hg24)<|yN ?_;refine F8 false J (λq=>nomatch q) (λ_=>?_);refine c8 ?_;exact eJ h (Wk.trans (p6 _ [910006]) (WP (λl=>if l=38 then 910006 else l)))
  ·refine s7 ?_;refine g6<|g6<|n0 ?_;have h:=xL hx16 h;exact eJ h (Wk.trans (p6 _ [910006]) W)

theorem a5v{a0 a1}:PO Tryz.prog 210 [.L iF a0,.I a1] (O8 a0 a1) λr=>.I r:=by
 refine pO Tryz.func210 λr h _ _=>?_;refine S4 1 J ?_;refine jq h (λ_=>St.of [] []) (λq6 h=>?_) λκ5 h=>?_
 ·refine S4 1 J ?_;refine b9 ?_;cases h;exact f1
 ·refine S3 1 J ?_;refine nL J l7<|S2 1 J<|k7<|lq h (λs8=>St.of [(0,.L iF a0),(1,.I a1),(7,.I (a0.length:Int)),(8,.I s8)] []) W λs8 x9 h hx8=>S4 1 J<|g9 ?_;refine cN h (λhc h=>?_) λhc h=>?_
  ·refine c8 ?_;refine g9<|k7<|S4 2 J<|S3 3 J<|iL h J J l7 r7 λv10 _ h=>S2 2 J ?_;refine cN h (λhc h=>?_) λhc h=>?_
   ·refine S4 2 J ?_;refine b9 ?_;have h:=xL hx8 h;cases h;exact f1
   ·refine c8 ?_;refine S6 2 J ?_;exact eL h W
  ·refine s7 ?_;refine g6<|g6<|n0 ?_;have h:=xL hx8 h;exact eJ h W

theorem N2{a0 a1}:PO Tryz.prog 182 [.L iF a0,.I a1] (D0 a0 a1) λr=>.bool r:=by
 refine pO Tryz.func182 λr h _ _=>?_;refine S4 1 J<|S3 2 J<|cA h a5v J J λv1 _ h=>S2 2 J<|b9 ?_;cases h;exact f1

theorem b2d{a0 a1}:PO Tryz.prog 181 [e6.Pv a0,.rptr [.L iF a1]] (a0p a0 a1) λr=>.bool r:=by
 refine pO Tryz.func181 λr h _ _=>?_;unfold a0p at h;refine S4 2 J<|S3 3 J<|n7 J (λhg=>oF J b4C J)<|n7 J (λhg=>oS (ct hg) J J I9 J)<|n7 J (λhg=>D4 (ct hg) J J)<|y0 J (H3 J J J (λq=>eqT q))<|S1 1 J<|n7 J (λhg=>O2 J b8P J)<|n7 J (λhg=>oF J b4C J)<|n7 J (λhg=>oS (ct hg) J J I9 J)<|A9 h λv1 hv1 h=>n7 J (λhg=>M1 J N2 (a0q (ct hg) (a0q (ct hg) J)) (a0u hv1 hg))<|y0 J (H3 J J J (λq=>eqT q))<|S2 1 J<|b9 ?_;cases h;exact f1

theorem a3b{a0 a1}:PO Tryz.prog 180 [.L e6.Pv a0,.fn (.func 181) [.rptr [.L iF a1]]] (G8 a0 a1) λr=>.L iF r:=by
 refine pO Tryz.func180 λr h _ _=>?_;refine S4 1 J<|S4 1 J ?_;refine jq h (λj15=>St.of [(5,.sl 910005)] [(910005,⟨List.map iF j15,(List.map iF j15).length,true,1,true⟩)]) (λj15 h=>?_) λκ14 h=>?_
 ·refine S4 2 J ?_;refine b9 ?_;cases h;exact f1
 ·refine S3 1 J ?_;refine nL J W2<|S2 1 J<|k7<|lq h (λq=>St.of [(1,.fn (.func 181) [.rptr [.L iF a1]]),(5,.sl 910005),(8,.L e6.Pv a0),(9,.I (a0.length:Int)),(10,.I q.1)] [(910005,⟨List.map iF q.2,(List.map iF q.2).length,true,1,true⟩)]) (Wk.trans (T0 (t:=5) (l:=920005) (z:=1) J J) (WP (λl=>if l=910005 then 920005 else l))) λq20 x19 h hx14=>?_;obtain⟨s17,s18⟩:=q20;refine S4 1 J<|g9 ?_;refine cN h (λhc h=>?_) λhc h=>?_
  ·refine c8 ?_;refine jq h (λj25=>St.of [(1,.fn (.func 181) [.rptr [.L iF a1]]),(5,.sl 21),(8,.L e6.Pv a0),(9,.I (a0.length:Int)),(10,.I s17)] [(21,⟨List.map iF j25,(List.map iF j25).length,true,1,true⟩)]) (λj25 h=>?_) λκ24 h=>?_
   ·refine S6 2 J ?_;exact eL h (Wk.trans (p6 _ [21]) (WP (λl=>if l=910005 then 21 else l)))
   ·refine k7 ?_;refine S3 1 J<|iL h J J W2 X6 λv26 _ h=>S2 4 J<|S3 2 J<|cA h b2d J J λv27 _ h=>yN ?_;refine cN h (λhc h=>?_) λhc h=>?_
    ·refine S5 2 J ?_;refine y0 J (T4 (f:=iF) (l:=[s17]) J l7 r7 D6 J J nl J J)<|A9 h λv28 hv21 h=>a0R J (a0t (f:=iF) hv21 J J J J J J (.inl ⟨_,J,J⟩) l7 r7 Y5 D6 J (λ_=>J)) J J J<|S2 1 J ?_;exact eJ h (Wk.trans (p6 _ [21]) W)
    ·refine c8 ?_;exact eJ h (Wk.trans (p6 _ [910005]) (WP (λl=>if l=21 then 910005 else l)))
  ·refine s7 ?_;refine g6<|g6<|n0 ?_;have h:=xL hx14 h;exact eJ h (Wk.trans (p6 _ [910005]) W)

theorem b4B{a0 a1}:PO Tryz.prog 134 [.L e6.Pv a0,.L iF a1] (a4b a0 a1) λr=>.tup [.L e6.Pv r.1,.L iF r.2]:=by
 refine pO Tryz.func134 λr h _ _=>?_;unfold a4b at h;refine S4 3 J<|S3 2 J<|A9 h λv1 hv1 h=>ycL J (A3 J a3b J hv1) J<|S2 1 J<|S3 1 J<|A9 h λv2 hv2 h=>ycN J (b46 J a6N J hv2) J J<|S2 1 J<|S4 1 J ?_;refine jq h (λq=>St.of [(7,.sl 15),(8,.sl 910008)] [(910008,⟨List.map iF q.1,(List.map iF q.1).length,true,1,true⟩),(15,⟨List.map e6.Pv q.2,0,true,3,true⟩)]) (λq24 h=>?_) λκ21 h=>?_
 ·obtain⟨j22,j23⟩:=q24;refine S4 4 J<|b9 ?_;cases h;exact f2
 ·refine S3 1 J ?_;refine nL J l7<|S2 1 J<|k7<|lq h (λq=>St.of [(7,.sl 15),(8,.sl 910008),(16,.L iF v1),(17,.I (v1.length:Int)),(18,.I q.1)] [(15,⟨List.map e6.Pv q.2.1,0,true,3,true⟩),(910008,⟨List.map iF q.2.2,(List.map iF q.2.2).length,true,1,true⟩)]) (Wk.trans (T0 (t:=8) (l:=920008) (z:=1) J J) (WP (λl=>if l=910008 then 920008 else l))) λq30 x29 h hx18=>?_;obtain⟨s26,s27,s28⟩:=q30;refine S4 1 J<|g9 ?_;refine cN h (λhc h=>?_) λhc h=>?_
  ·refine c8 ?_;refine jq h (λq=>St.of [(7,.sl 15),(8,.sl 35),(16,.L iF v1),(17,.I (v1.length:Int)),(18,.I s26)] [(35,⟨List.map iF q.1,(List.map iF q.1).length,true,1,true⟩),(15,⟨List.map e6.Pv q.2,0,true,3,true⟩)]) (λq38 h=>?_) λκ35 h=>?_
   ·obtain⟨j36,j37⟩:=q38;refine S6 2 J ?_;exact eL h (Wk.trans (p6 _ [35]) (WP (λl=>if l=910008 then 35 else l)))
   ·refine k7 ?_;refine sR<|iL h J J l7 r7 λv39 _ h=>S2 2 J<|S3 2 J<|A9 h λv40 hv25 h=>y0 J (a8Y (f:=e6.Pv) hv25 J J J J W2 X6 J)<|S1 1 J<|b38 (f:=e6.Pv) (v:=(⟨v40.Target,false,v40.Call⟩:e6)) hv25 J J (.inl J) d0w<|yN<|S3 2 J<|A9 h λv41 hv26 h=>y0 J (a8Y (f:=e6.Pv) hv26 J J J J W2 X6 J)<|S1 1 J<|y0 J (c39 (f:=e6.Pv) hv26 J J J I9 J)<|S2 1 J ?_;refine cN h (λhc h=>?_) λhc h=>?_
    ·refine S5 2 J ?_;refine y0 J (T4 (f:=iF) (l:=[v39]) J l7 r7 D6 J J nl J J)<|A9 h λv42 hv27 h=>a0R J (a0t (f:=iF) hv27 J J J J J J (.inl ⟨_,J,J⟩) l7 r7 Y5 D6 J (λ_=>J)) J J J<|S2 1 J ?_;exact eJ h (Wk.trans (p6 _ [35]) W)
    ·refine c8 ?_;exact eJ h (Wk.trans (p6 _ [910008]) (WP (λl=>if l=35 then 910008 else l)))
  ·refine s7 ?_;refine g6<|g6<|n0 ?_;have h:=xL hx18 h;exact eJ h (Wk.trans (p6 _ [910008]) W)

theorem b0H{a0 a1}:PO Tryz.prog 85 [b6.Pv a0,.L iF a1] (a1N a0 a1) λr=>b6.Pv r:=by
 refine pO Tryz.func85 λr h _ _=>?_;refine S4 2 J<|S3 3 J<|cF h b4B J J λv1 _ h=>S2 5 J<|S4 3 J ?_;refine jq h (λj11=>St.of [(2,.ptr 2 0 0),(4,.ptr 4 0 0)] [(4,vR (.agg [.nl,.I 0,.I 0,.nl,.nl,.nl,.nl,.I 0]) 8),(2,vR (.agg [.L b7.Pv a0.S.S.a8,.I a0.S.S.Last,.I a0.S.Serial,.L iF a0.Roots,.L e6.Pv v1.1,.L b8.Pv a0.T,.L g7.Pv j11.L,.I j11.Cap]) 8)]) (λj11 h=>?_) λκ10 h=>?_
 ·refine S4 2 J ?_;refine b9 ?_;cases h;exact⟨J,[_],⟨oL J J J o9 n8 nl J,tr⟩,J,io⟩
 ·refine S3 1 J ?_;refine nL J l7<|S2 1 J<|k7<|lq h (λq=>St.of [(2,.ptr 2 0 0),(4,.ptr 4 0 0),(5,.L e6.Pv v1.1),(18,.L iF v1.2),(19,.I (v1.2.length:Int)),(20,.I q.1)] [(4,vR (.agg [.nl,.I 0,.I 0,.nl,.nl,.nl,.nl,.I 0]) 8),(2,vR (.agg [.L b7.Pv a0.S.S.a8,.I a0.S.S.Last,.I a0.S.Serial,.L iF a0.Roots,.L e6.Pv v1.1,.L b8.Pv a0.T,.L g7.Pv q.2.L,.I q.2.Cap]) 8)]) W λq16 x15 h hx11=>?_;obtain⟨s13,s14⟩:=q16;refine S4 1 J<|g9 ?_;refine cN h (λhc h=>?_) λhc h=>?_
  ·refine c8 ?_;refine g9<|k7<|sR<|iL h J J l7 r7 λv17 _ h=>S2 2 J<|b6o [] x4 (by kernel_rfl) (by kernel_rfl)<|S7 5 J<|A9 h λv18 hv13 h=>d0 J (K9 (f:=e6.Pv) (cs:=e6.Pc v18) hv13 J J W2 X6 J J) J<|S7 2 J<|d7 J (λ_ hN=>s6 (cs:=[.I 2,.I v17,.I v18.Call]) J b5s a9K J J J) J<|A9 h λv19 hv14 h=>d2f J (A3 J b1X J hv14) J<|S7 4 J<|D7 (x':=.agg [.L b7.Pv a0.S.S.a8,.I a0.S.S.Last,.I a0.S.Serial,.L iF a0.Roots,.L e6.Pv v1.1,.L b8.Pv a0.T,.L g7.Pv v19.1.L,.I v19.1.Cap]) (cl':=true) J J (.inr J) a1r<|a1t<|S6 2 J ?_;exact eL h W
  ·refine s7 ?_;refine g6<|g6<|n0 ?_;have h:=xL hx11 h;exact eJ h W

theorem b62{a0}:PO Tryz.prog 135 [.L iF a0] (a8z a0) λr=>.fn (.func 184) [.rptr [.L iF r]]:=by
 refine pO Tryz.func135 λr h _ _=>?_;unfold a8z at h;refine S4 2 J<|S4 2 J<|b9 ?_;cases h;exact f1

end Go.Proofs.YtjpgbnlcefhaiaaGreat.Ok
