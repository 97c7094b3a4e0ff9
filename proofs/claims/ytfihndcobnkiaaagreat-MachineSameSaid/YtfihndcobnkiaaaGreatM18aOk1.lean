/-
 The functions of the program do as the plain functions do.
-/
import Derived.Test.YtfihndcobnkiaaaGreatM18aPwC
import Derived.Test.YtfihndcobnkiaaaGreatM18aPwD
import Derived.Test.YtfihndcobnkiaaaGreatSrt
import Derived.Test.YtfihndcobnkiaaaGreatM18aSh
import Derived.Test.YtfihndcobnkiaaaGreatProg
set_option linter.unusedVariables false
set_option linter.unusedSimpArgs false
set_option linter.unusedSectionVars false
namespace Go.Proofs.YtfihndcobnkiaaaGreat.Ok
open Go Go.Pw Go.Sh Go.Proofs
set_option maxRecDepth 100000
set_option maxHeartbeats 4000000
abbrev _root_.Go.Sh.store_Obj.Pc(x:store_Obj):List PV:=[.I x.Serial,.I x.Strong,.I x.Weak,.I x.Prog,.bool x.Started,.L iF x.Fields]
abbrev _root_.Go.Sh.store_Obj.Pv(x:store_Obj):PV:=.agg x.Pc
abbrev _root_.Go.Sh.slab_Cell_store_Obj.Pc(x:slab_Cell_store_Obj):List PV:=[.I x.State,.I x.Gen,.I x.Val.Serial,.I x.Val.Strong,.I x.Val.Weak,.I x.Val.Prog,.bool x.Val.Started,.L iF x.Val.Fields]
abbrev _root_.Go.Sh.slab_Cell_store_Obj.Pv(x:slab_Cell_store_Obj):PV:=.agg x.Pc
abbrev _root_.Go.Sh.slab_Slab_store_Obj.Pc(x:slab_Slab_store_Obj):List PV:=[.L slab_Cell_store_Obj.Pv x.Cells,.I x.Last]
abbrev _root_.Go.Sh.slab_Slab_store_Obj.Pv(x:slab_Slab_store_Obj):PV:=.agg x.Pc
abbrev _root_.Go.Sh.store_Store.Pc(x:store_Store):List PV:=[.L slab_Cell_store_Obj.Pv x.S.Cells,.I x.S.Last,.I x.Serial]
abbrev _root_.Go.Sh.store_Store.Pv(x:store_Store):PV:=.agg x.Pc
abbrev _root_.Go.Sh.weak_Cell.Pc(x:weak_Cell):List PV:=[.I x.Target,.bool x.Intact,.I x.Call]
abbrev _root_.Go.Sh.weak_Cell.Pv(x:weak_Cell):PV:=.agg x.Pc
abbrev _root_.Go.Sh.hash_Place.Pc(x:hash_Place):List PV:=[.I x.State,.I x.Key,.I x.Val]
abbrev _root_.Go.Sh.hash_Place.Pv(x:hash_Place):PV:=.agg x.Pc
abbrev _root_.Go.Sh.task_Task.Pc(x:task_Task):List PV:=[.I x.Kind,.I x.At,.I x.Prog]
abbrev _root_.Go.Sh.task_Task.Pv(x:task_Task):PV:=.agg x.Pc
abbrev _root_.Go.Sh.queue_Queue_task_Task.Pc(x:queue_Queue_task_Task):List PV:=[.L task_Task.Pv x.L,.I x.Cap]
abbrev _root_.Go.Sh.queue_Queue_task_Task.Pv(x:queue_Queue_task_Task):PV:=.agg x.Pc
abbrev _root_.Go.Sh.hold_Heap.Pc(x:hold_Heap):List PV:=[.L slab_Cell_store_Obj.Pv x.S.S.Cells,.I x.S.S.Last,.I x.S.Serial,.L iF x.Roots,.L weak_Cell.Pv x.Cells,.L hash_Place.Pv x.T,.L task_Task.Pv x.Q.L,.I x.Q.Cap]
abbrev _root_.Go.Sh.hold_Heap.Pv(x:hold_Heap):PV:=.agg x.Pc
abbrev _root_.Go.Sh.code_Op.Pc(x:code_Op):List PV:=[.I x.Kind,.I x.A,.I x.B,.I x.C]
abbrev _root_.Go.Sh.code_Op.Pv(x:code_Op):PV:=.agg x.Pc
abbrev _root_.Go.Sh.y4.Pc(x:y4):List PV:=[.I x.Serial,.I x.Strong,.I x.Weak,.I x.Prog,.bool x.Started,.L iF x.Fields]
abbrev _root_.Go.Sh.y4.Pv(x:y4):PV:=.agg x.Pc
abbrev _root_.Go.Sh.j1.Pc(x:j1):List PV:=[.I x.State,.I x.Gen,.I x.Val.Serial,.I x.Val.Strong,.I x.Val.Weak,.I x.Val.Prog,.bool x.Val.Started,.L iF x.Val.Fields]
abbrev _root_.Go.Sh.j1.Pv(x:j1):PV:=.agg x.Pc
abbrev _root_.Go.Sh.g8.Pc(x:g8):List PV:=[.I x.Target,.bool x.Intact,.I x.Call]
abbrev _root_.Go.Sh.g8.Pv(x:g8):PV:=.agg x.Pc
abbrev _root_.Go.Sh.g5.Pc(x:g5):List PV:=[.I x.State,.I x.Key,.I x.Val]
abbrev _root_.Go.Sh.g5.Pv(x:g5):PV:=.agg x.Pc
abbrev _root_.Go.Sh.l7.Pc(x:l7):List PV:=[.I x.Kind,.I x.At,.I x.Prog]
abbrev _root_.Go.Sh.l7.Pv(x:l7):PV:=.agg x.Pc
abbrev _root_.Go.Sh.g6.Pc(x:g6):List PV:=[.L j1.Pv x.Cells,.I x.Last,.I x.Serial]
abbrev _root_.Go.Sh.g6.Pv(x:g6):PV:=.agg x.Pc
abbrev _root_.Go.Sh.p6.Pc(x:p6):List PV:=[.L l7.Pv x.L,.I x.Cap]
abbrev _root_.Go.Sh.p6.Pv(x:p6):PV:=.agg x.Pc
abbrev _root_.Go.Sh.c5.Pc(x:c5):List PV:=[.L j1.Pv x.S.Cells,.I x.S.Last,.I x.S.Serial,.L iF x.Roots,.L g8.Pv x.Cells,.L g5.Pv x.T,.L l7.Pv x.Q.L,.I x.Q.Cap]
abbrev _root_.Go.Sh.c5.Pv(x:c5):PV:=.agg x.Pc
abbrev _root_.Go.Sh.o9.Pc(x:o9):List PV:=[.I x.State,.I x.Gen,.I x.Val]
abbrev _root_.Go.Sh.o9.Pv(x:o9):PV:=.agg x.Pc
abbrev _root_.Go.Sh.p9.Pc(x:p9):List PV:=[.L o9.Pv x.Cells,.I x.Last]
abbrev _root_.Go.Sh.p9.Pv(x:p9):PV:=.agg x.Pc
abbrev _root_.Go.Sh.B3.Pc(x:B3):List PV:=[.I x.Key,.I x.Val]
abbrev _root_.Go.Sh.B3.Pv(x:B3):PV:=.agg x.Pc
abbrev _root_.Go.Sh.c9.Pc(x:c9):List PV:=[fvE x.part,.I x.least,.I x.most,.I x.e]
abbrev _root_.Go.Sh.c9.Pv(x:c9):PV:=.agg x.Pc
abbrev _root_.Go.Sh.n7.Pc(x:n7):List PV:=[.L slab_Cell_store_Obj.Pv x.x.S.S.Cells,.I x.x.S.S.Last,.I x.x.S.Serial,.L iF x.x.Roots,.L weak_Cell.Pv x.x.Cells,.L hash_Place.Pv x.x.T,.L task_Task.Pv x.x.Q.L,.I x.x.Q.Cap,.I x.o.Kind,.I x.o.A,.I x.o.B,.I x.o.C]
abbrev _root_.Go.Sh.n7.Pv(x:n7):PV:=.agg x.Pc
abbrev _root_.Go.Sh.F1.Pc(x:F1):List PV:=[.I x.r,.I x.h]
abbrev _root_.Go.Sh.F1.Pv(x:F1):PV:=.agg x.Pc
abbrev _root_.Go.Sh.D8.Pc(x:D8):List PV:=[.I x.h,.I x.k,.I x.v]
abbrev _root_.Go.Sh.D8.Pv(x:D8):PV:=.agg x.Pc
abbrev _root_.Go.Sh.F0.Pc(x:F0):List PV:=[.L hash_Place.Pv x.t]
abbrev _root_.Go.Sh.F0.Pv(x:F0):PV:=.agg x.Pc
abbrev _root_.Go.Sh.A6.Pc(x:A6):List PV:=[fvE x.kept]
abbrev _root_.Go.Sh.A6.Pv(x:A6):PV:=.agg x.Pc
abbrev _root_.Go.Sh.j4.Pc(x:j4):List PV:=[.I x.Key,.I x.Val]
abbrev _root_.Go.Sh.j4.Pv(x:j4):PV:=.agg x.Pc
abbrev _root_.Go.Sh.L8.Pc(x:L8):List PV:=[.I x.Kind,.I x.A,.I x.B,.I x.C]
abbrev _root_.Go.Sh.L8.Pv(x:L8):PV:=.agg x.Pc
namespace Ty
theorem a3:G3 Tryz.prog 3=some false:=by kernel_rfl
theorem a4:G3 Tryz.prog 4=some false:=by kernel_rfl
theorem a22:G3 Tryz.prog 22=some false:=by kernel_rfl
theorem a24:G3 Tryz.prog 24=some true:=by kernel_rfl
theorem a26:G3 Tryz.prog 26=some true:=by kernel_rfl
theorem a27:G3 Tryz.prog 27=some false:=by kernel_rfl
theorem a28:G3 Tryz.prog 28=some false:=by kernel_rfl
theorem a29:G3 Tryz.prog 29=some false:=by kernel_rfl
theorem a30:G3 Tryz.prog 30=some false:=by kernel_rfl
theorem a32:G3 Tryz.prog 32=some true:=by kernel_rfl
theorem R8:G3 Tryz.prog 34=some true:=by kernel_rfl
theorem a39:G3 Tryz.prog 39=some false:=by kernel_rfl
theorem a42:G3 Tryz.prog 42=some false:=by kernel_rfl
theorem a44:G3 Tryz.prog 44=some true:=by kernel_rfl
theorem a45:G3 Tryz.prog 45=some false:=by kernel_rfl
theorem a46:G3 Tryz.prog 46=some false:=by kernel_rfl
theorem a47:G3 Tryz.prog 47=some false:=by kernel_rfl
theorem a49:G3 Tryz.prog 49=some true:=by kernel_rfl
theorem a51:G3 Tryz.prog 51=some true:=by kernel_rfl
theorem a55:G3 Tryz.prog 55=some true:=by kernel_rfl
theorem a78:G3 Tryz.prog 78=some true:=by kernel_rfl
theorem c1y:G3 Tryz.prog 116=some true:=by kernel_rfl
theorem c9E:G3 Tryz.prog 138=some false:=by kernel_rfl
theorem b4Z:G3 Tryz.prog 140=some true:=by kernel_rfl
theorem b40:G3 Tryz.prog 156=some true:=by kernel_rfl
theorem c9F:G3 Tryz.prog 181=some true:=by kernel_rfl
theorem c6a:G3 Tryz.prog 184=some true:=by kernel_rfl
theorem c9H:G3 Tryz.prog 359=some true:=by kernel_rfl
theorem b3:G7 Tryz.prog 3=some 8:=by kernel_rfl
theorem b84:G7 Tryz.prog 84=some 24:=by kernel_rfl
theorem c6k:G7 Tryz.prog 134=some 80:=by kernel_rfl
theorem c8e:G7 Tryz.prog 143=some 80:=by kernel_rfl
theorem c6l:G7 Tryz.prog 178=some 24:=by kernel_rfl
theorem c8f:G7 Tryz.prog 180=some 24:=by kernel_rfl
theorem c8g:G7 Tryz.prog 181=some 24:=by kernel_rfl
theorem c6m:G7 Tryz.prog 183=some 24:=by kernel_rfl
theorem c9K:G7 Tryz.prog 184=some 24:=by kernel_rfl
theorem c9L:G7 Tryz.prog 196=some 16:=by kernel_rfl
theorem c8h:G7 Tryz.prog 202=some 24:=by kernel_rfl
theorem c8i:G7 Tryz.prog 212=some 16:=by kernel_rfl
theorem e22:x4 Tryz.prog 22=some 143:=by kernel_rfl
theorem w8:x4 Tryz.prog 27=some 3:=by kernel_rfl
theorem e28:x4 Tryz.prog 28=some 84:=by kernel_rfl
theorem e29:x4 Tryz.prog 29=some 181:=by kernel_rfl
theorem e30:x4 Tryz.prog 30=some 184:=by kernel_rfl
theorem e42:x4 Tryz.prog 42=some 134:=by kernel_rfl
theorem e45:x4 Tryz.prog 45=some 178:=by kernel_rfl
theorem e46:x4 Tryz.prog 46=some 180:=by kernel_rfl
theorem e47:x4 Tryz.prog 47=some 183:=by kernel_rfl
theorem e61:x4 Tryz.prog 61=some 36:=by kernel_rfl
theorem a4q:x4 Tryz.prog 138=some 202:=by kernel_rfl
theorem c6w:x4 Tryz.prog 147=some 37:=by kernel_rfl
theorem b0A:x4 Tryz.prog 150=some 156:=by kernel_rfl
theorem b6O:x4 Tryz.prog 193=some 196:=by kernel_rfl
theorem b8j:x4 Tryz.prog 213=some 212:=by kernel_rfl
theorem c6x:x4 Tryz.prog 282=some 286:=by kernel_rfl
theorem c8o:C3 Tryz.prog 24 0=some (0,22):=by kernel_rfl
theorem c16:C3 Tryz.prog 24 1=some (1,3):=by kernel_rfl
theorem c17:C3 Tryz.prog 26 0=some (0,24):=by kernel_rfl
theorem b9G:C3 Tryz.prog 26 1=some (2,3):=by kernel_rfl
theorem c18:C3 Tryz.prog 32 0=some (0,30):=by kernel_rfl
theorem c8p:C3 Tryz.prog 32 1=some (1,3):=by kernel_rfl
theorem c19:C3 Tryz.prog 34 0=some (0,26):=by kernel_rfl
theorem b9H:C3 Tryz.prog 34 1=some (3,27):=by kernel_rfl
theorem b6Q:C3 Tryz.prog 34 2=some (4,28):=by kernel_rfl
theorem c5H:C3 Tryz.prog 34 3=some (5,29):=by kernel_rfl
theorem b6R:C3 Tryz.prog 34 4=some (6,32):=by kernel_rfl
theorem a9h:C3 Tryz.prog 44 0=some (0,42):=by kernel_rfl
theorem b9I:C3 Tryz.prog 44 2=some (2,3):=by kernel_rfl
theorem b6S:C3 Tryz.prog 49 0=some (0,47):=by kernel_rfl
theorem c8q:C3 Tryz.prog 51 0=some (0,44):=by kernel_rfl
theorem c2a:C3 Tryz.prog 51 1=some (3,27):=by kernel_rfl
theorem c2b:C3 Tryz.prog 51 2=some (4,45):=by kernel_rfl
theorem b9J:C3 Tryz.prog 51 3=some (5,46):=by kernel_rfl
theorem b4r:C3 Tryz.prog 51 4=some (6,49):=by kernel_rfl
theorem c8r:C3 Tryz.prog 55 0=some (0,3):=by kernel_rfl
theorem c8s:C3 Tryz.prog 55 2=some (2,3):=by kernel_rfl
theorem b6T:C3 Tryz.prog 78 0=some (0,3):=by kernel_rfl
theorem b6U:C3 Tryz.prog 78 1=some (1,3):=by kernel_rfl
theorem b4s:C3 Tryz.prog 78 2=some (2,3):=by kernel_rfl
theorem b4t:C3 Tryz.prog 78 3=some (3,3):=by kernel_rfl
theorem b6V:C3 Tryz.prog 78 4=some (4,4):=by kernel_rfl
theorem b6W:C3 Tryz.prog 78 5=some (5,27):=by kernel_rfl
theorem c2c:C3 Tryz.prog 84 0=some (0,3):=by kernel_rfl
theorem c5I:C3 Tryz.prog 84 1=some (1,4):=by kernel_rfl
theorem c8t:C3 Tryz.prog 84 2=some (2,3):=by kernel_rfl
theorem c1U:C3 Tryz.prog 116 0=some (0,3):=by kernel_rfl
theorem c1V:C3 Tryz.prog 116 1=some (1,3):=by kernel_rfl
theorem b8n:C3 Tryz.prog 116 2=some (2,3):=by kernel_rfl
theorem c6A:C3 Tryz.prog 116 3=some (3,3):=by kernel_rfl
theorem b8o:C3 Tryz.prog 116 4=some (4,4):=by kernel_rfl
theorem b8p:C3 Tryz.prog 116 5=some (5,27):=by kernel_rfl
theorem b8q:C3 Tryz.prog 134 0=some (0,3):=by kernel_rfl
theorem c1W:C3 Tryz.prog 134 1=some (1,3):=by kernel_rfl
theorem a6v:C3 Tryz.prog 134 2=some (2,78):=by kernel_rfl
theorem c6B:C3 Tryz.prog 140 0=some (0,138):=by kernel_rfl
theorem b8r:C3 Tryz.prog 140 1=some (1,3):=by kernel_rfl
theorem b2z:C3 Tryz.prog 143 0=some (0,3):=by kernel_rfl
theorem c6C:C3 Tryz.prog 143 1=some (1,3):=by kernel_rfl
theorem b5a:C3 Tryz.prog 143 2=some (2,116):=by kernel_rfl
theorem c6D:C3 Tryz.prog 156 2=some (2,3):=by kernel_rfl
theorem b5b:C3 Tryz.prog 178 0=some (0,3):=by kernel_rfl
theorem b8s:C3 Tryz.prog 178 1=some (1,4):=by kernel_rfl
theorem c6E:C3 Tryz.prog 178 2=some (2,3):=by kernel_rfl
theorem c1X:C3 Tryz.prog 180 0=some (0,3):=by kernel_rfl
theorem c1Y:C3 Tryz.prog 180 1=some (1,3):=by kernel_rfl
theorem c6F:C3 Tryz.prog 180 2=some (2,3):=by kernel_rfl
theorem c6G:C3 Tryz.prog 181 0=some (0,3):=by kernel_rfl
theorem c1Z:C3 Tryz.prog 181 1=some (1,3):=by kernel_rfl
theorem c10:C3 Tryz.prog 183 0=some (0,3):=by kernel_rfl
theorem b2A:C3 Tryz.prog 183 1=some (1,3):=by kernel_rfl
theorem c11:C3 Tryz.prog 183 2=some (2,3):=by kernel_rfl
theorem c12:C3 Tryz.prog 184 1=some (1,3):=by kernel_rfl
theorem c13:C3 Tryz.prog 184 2=some (2,3):=by kernel_rfl
theorem c6H:C3 Tryz.prog 196 1=some (1,3):=by kernel_rfl
theorem b8t:C3 Tryz.prog 202 0=some (0,3):=by kernel_rfl
theorem c14:C3 Tryz.prog 202 1=some (1,3):=by kernel_rfl
theorem c15:C3 Tryz.prog 212 1=some (1,3):=by kernel_rfl
theorem k84:z7 Tryz.prog 84:=kC Tryz.func84 J
theorem k85:z7 Tryz.prog 85:=kC Tryz.func85 J
theorem c98:z7 Tryz.prog 163:=kC Tryz.func163 J
theorem c99:z7 Tryz.prog 164:=kC Tryz.func164 J
theorem d0a:z7 Tryz.prog 174:=kC Tryz.func174 J
theorem c8y:z7 Tryz.prog 199:=kC Tryz.func199 J
theorem d0b:z7 Tryz.prog 260:=kC Tryz.func260 J
theorem d0c:z7 Tryz.prog 267:=kC Tryz.func267 J
theorem c8z:z7 Tryz.prog 298:=kC Tryz.func298 J
theorem c8A:z7 Tryz.prog 303:=kC Tryz.func303 J
theorem d0d:z7 Tryz.prog 306:=kC Tryz.func306 J
theorem c8B:z7 Tryz.prog 316:=kC Tryz.func316 J
theorem c8C:z7 Tryz.prog 323:=kC Tryz.func323 J
theorem d0e:z7 Tryz.prog 327:=kC Tryz.func327 J
theorem d0f:z7 Tryz.prog 332:=kC Tryz.func332 J
theorem b2S:a8V Tryz.prog 92=some (3,90):=by kernel_rfl
theorem c2J:a8V Tryz.prog 145=some (3,3):=by kernel_rfl
theorem a4B:a8V Tryz.prog 152=some (3,150):=by kernel_rfl
theorem c5X:a8V Tryz.prog 216=some (184,4):=by kernel_rfl
theorem b9X:a8V Tryz.prog 314=some (3,4):=by kernel_rfl
theorem p24:A3 Tryz.prog 24=some (λi=>(#[(0,1),(1,1)]:Array (Nat × Nat))[i]?):=by kernel_rfl
theorem p26:A3 Tryz.prog 26=some (λi=>(#[(0,2),(2,1)]:Array (Nat × Nat))[i]?):=by kernel_rfl
theorem p32:A3 Tryz.prog 32=some (λi=>(#[(0,1),(1,1)]:Array (Nat × Nat))[i]?):=by kernel_rfl
theorem p34:A3 Tryz.prog 34=some (λi=>(#[(0,3),(3,1),(4,1),(5,1),(6,2)]:Array (Nat × Nat))[i]?):=by kernel_rfl
theorem p36:A3 Tryz.prog 36=some (λi=>(#[(0,1),(1,1),(2,1),(3,1)]:Array (Nat × Nat))[i]?):=by kernel_rfl
theorem p44:A3 Tryz.prog 44=some (λi=>(#[(0,1),(1,1),(2,1)]:Array (Nat × Nat))[i]?):=by kernel_rfl
theorem p49:A3 Tryz.prog 49=some (λi=>(#[(0,1),(1,1)]:Array (Nat × Nat))[i]?):=by kernel_rfl
theorem p51:A3 Tryz.prog 51=some (λi=>(#[(0,3),(3,1),(4,1),(5,1),(6,2)]:Array (Nat × Nat))[i]?):=by kernel_rfl
theorem p78:A3 Tryz.prog 78=some (λi=>(#[(0,1),(1,1),(2,1),(3,1),(4,1),(5,1)]:Array (Nat × Nat))[i]?):=by kernel_rfl
theorem p84:A3 Tryz.prog 84=some (λi=>(#[(0,1),(1,1),(2,1)]:Array (Nat × Nat))[i]?):=by kernel_rfl
theorem p96:A3 Tryz.prog 96=some (λi=>(#[(0,8),(8,4)]:Array (Nat × Nat))[i]?):=by kernel_rfl
theorem d0j:A3 Tryz.prog 116=some (λi=>(#[(0,1),(1,1),(2,1),(3,1),(4,1),(5,1)]:Array (Nat × Nat))[i]?):=by kernel_rfl
theorem c8P:A3 Tryz.prog 134=some (λi=>(#[(0,1),(1,1),(2,6)]:Array (Nat × Nat))[i]?):=by kernel_rfl
theorem c8Q:A3 Tryz.prog 140=some (λi=>(#[(0,1),(1,1)]:Array (Nat × Nat))[i]?):=by kernel_rfl
theorem c40:A3 Tryz.prog 143=some (λi=>(#[(0,1),(1,1),(2,6)]:Array (Nat × Nat))[i]?):=by kernel_rfl
theorem b20:A3 Tryz.prog 156=some (λi=>(#[(0,1),(1,1),(2,1),(3,1)]:Array (Nat × Nat))[i]?):=by kernel_rfl
theorem d0k:A3 Tryz.prog 178=some (λi=>(#[(0,1),(1,1),(2,1)]:Array (Nat × Nat))[i]?):=by kernel_rfl
theorem c7m:A3 Tryz.prog 180=some (λi=>(#[(0,1),(1,1),(2,1)]:Array (Nat × Nat))[i]?):=by kernel_rfl
theorem c41:A3 Tryz.prog 181=some (λi=>(#[(0,1),(1,1),(2,1)]:Array (Nat × Nat))[i]?):=by kernel_rfl
theorem c8R:A3 Tryz.prog 183=some (λi=>(#[(0,1),(1,1),(2,1)]:Array (Nat × Nat))[i]?):=by kernel_rfl
theorem c7n:A3 Tryz.prog 184=some (λi=>(#[(0,1),(1,1),(2,1)]:Array (Nat × Nat))[i]?):=by kernel_rfl
theorem d0l:A3 Tryz.prog 196=some (λi=>(#[(0,1),(1,1)]:Array (Nat × Nat))[i]?):=by kernel_rfl
theorem c27:A3 Tryz.prog 202=some (λi=>(#[(0,1),(1,1),(2,1)]:Array (Nat × Nat))[i]?):=by kernel_rfl
theorem c8S:A3 Tryz.prog 212=some (λi=>(#[(0,1),(1,1)]:Array (Nat × Nat))[i]?):=by kernel_rfl
theorem d0m:A3 Tryz.prog 227=some (λi=>(#[(0,1)]:Array (Nat × Nat))[i]?):=by kernel_rfl
theorem c42:A3 Tryz.prog 286=some (λi=>(#[(0,1)]:Array (Nat × Nat))[i]?):=by kernel_rfl
theorem d0n:A3 Tryz.prog 301=some (λi=>(#[(0,1),(1,1),(2,1)]:Array (Nat × Nat))[i]?):=by kernel_rfl
theorem d0o:A3 Tryz.prog 310=some (λi=>(#[(0,1)]:Array (Nat × Nat))[i]?):=by kernel_rfl
theorem d0p:A3 Tryz.prog 343=some (λi=>(#[(0,1),(1,1)]:Array (Nat × Nat))[i]?):=by kernel_rfl
theorem c8T:A3 Tryz.prog 359=some (λi=>some (i*1,1)):=by kernel_rfl
theorem d0s:Z1 Tryz.prog 178=some [1,0,1]:=by kernel_rfl
theorem d0t:Z1 Tryz.prog 180=some [1,1,1]:=by kernel_rfl
theorem c8X:Z1 Tryz.prog 181=some [1,1,1]:=by kernel_rfl
theorem d0u:Z1 Tryz.prog 183=some [1,1,1]:=by kernel_rfl
theorem c8Y:Z1 Tryz.prog 184=some [1,1,1]:=by kernel_rfl
theorem d0v:Z1 Tryz.prog 359=some [1,1,1,1]:=by kernel_rfl
theorem s3:n8 Tryz.prog 3=some 1:=by kernel_rfl
theorem s4:n8 Tryz.prog 4=some 1:=by kernel_rfl
theorem s24:n8 Tryz.prog 24=some 2:=by kernel_rfl
theorem s26:n8 Tryz.prog 26=some 3:=by kernel_rfl
theorem s27:n8 Tryz.prog 27=some 1:=by kernel_rfl
theorem s30:n8 Tryz.prog 30=some 1:=by kernel_rfl
theorem s32:n8 Tryz.prog 32=some 2:=by kernel_rfl
theorem M4:n8 Tryz.prog 34=some 8:=by kernel_rfl
theorem s36:n8 Tryz.prog 36=some 4:=by kernel_rfl
theorem s37:n8 Tryz.prog 37=some 1:=by kernel_rfl
theorem s44:n8 Tryz.prog 44=some 3:=by kernel_rfl
theorem s49:n8 Tryz.prog 49=some 2:=by kernel_rfl
theorem X4:n8 Tryz.prog 51=some 8:=by kernel_rfl
theorem s55:n8 Tryz.prog 55=some 4:=by kernel_rfl
theorem s78:n8 Tryz.prog 78=some 6:=by kernel_rfl
theorem s84:n8 Tryz.prog 84=some 3:=by kernel_rfl
theorem b7R:n8 Tryz.prog 116=some 6:=by kernel_rfl
theorem a05:n8 Tryz.prog 134=some 8:=by kernel_rfl
theorem d0E:n8 Tryz.prog 138=some 1:=by kernel_rfl
theorem b3u:n8 Tryz.prog 140=some 2:=by kernel_rfl
theorem a4Q:n8 Tryz.prog 143=some 8:=by kernel_rfl
theorem a4g:n8 Tryz.prog 156=some 4:=by kernel_rfl
theorem a4R:n8 Tryz.prog 178=some 3:=by kernel_rfl
theorem a6h:n8 Tryz.prog 180=some 3:=by kernel_rfl
theorem a8U:n8 Tryz.prog 181=some 3:=by kernel_rfl
theorem a8b:n8 Tryz.prog 183=some 3:=by kernel_rfl
theorem b4f:n8 Tryz.prog 184=some 3:=by kernel_rfl
theorem c1a:n8 Tryz.prog 196=some 2:=by kernel_rfl
theorem a67:n8 Tryz.prog 202=some 3:=by kernel_rfl
theorem c3y:n8 Tryz.prog 212=some 2:=by kernel_rfl
theorem c89:n8 Tryz.prog 286=some 1:=by kernel_rfl
theorem d0F:n8 Tryz.prog 359=some 4:=by kernel_rfl
theorem u3:Tryz.prog.underlying 3=some (.int .i64):=by kernel_rfl
theorem u4:Tryz.prog.underlying 4=some (.bool):=by kernel_rfl
theorem z3:u7 Tryz.prog 3=some ((.I 0)):=by kernel_rfl
theorem z4:u7 Tryz.prog 4=some ((.bool false)):=by kernel_rfl
theorem z24:u7 Tryz.prog 24=some ((.agg #[(.slice none 0 0),(.I 0)])):=by kernel_rfl
theorem z26:u7 Tryz.prog 26=some ((.agg #[(.slice none 0 0),(.I 0),(.I 0)])):=by kernel_rfl
theorem z32:u7 Tryz.prog 32=some ((.agg #[(.slice none 0 0),(.I 0)])):=by kernel_rfl
theorem z34:u7 Tryz.prog 34=some ((.agg #[(.slice none 0 0),(.I 0),(.I 0),(.slice none 0 0),(.slice none 0 0),(.slice none 0 0),(.slice none 0 0),(.I 0)])):=by kernel_rfl
theorem z36:u7 Tryz.prog 36=some ((.agg #[(.I 0),(.I 0),(.I 0),(.I 0)])):=by kernel_rfl
theorem z37:u7 Tryz.prog 37=some (.nilFunc):=by kernel_rfl
theorem z44:u7 Tryz.prog 44=some ((.agg #[(.slice none 0 0),(.I 0),(.I 0)])):=by kernel_rfl
theorem z49:u7 Tryz.prog 49=some ((.agg #[(.slice none 0 0),(.I 0)])):=by kernel_rfl
theorem z51:u7 Tryz.prog 51=some ((.agg #[(.slice none 0 0),(.I 0),(.I 0),(.slice none 0 0),(.slice none 0 0),(.slice none 0 0),(.slice none 0 0),(.I 0)])):=by kernel_rfl
theorem z78:u7 Tryz.prog 78=some ((.agg #[(.I 0),(.I 0),(.I 0),(.I 0),(.bool false),(.slice none 0 0)])):=by kernel_rfl
theorem z84:u7 Tryz.prog 84=some ((.agg #[(.I 0),(.bool false),(.I 0)])):=by kernel_rfl
theorem z90:u7 Tryz.prog 90=some (.nilFunc):=by kernel_rfl
theorem z96:u7 Tryz.prog 96=some ((.agg #[(.slice none 0 0),(.I 0),(.I 0),(.slice none 0 0),(.slice none 0 0),(.slice none 0 0),(.slice none 0 0),(.I 0),(.I 0),(.I 0),(.I 0),(.I 0)])):=by kernel_rfl
theorem d0G:u7 Tryz.prog 116=some ((.agg #[(.I 0),(.I 0),(.I 0),(.I 0),(.bool false),(.slice none 0 0)])):=by kernel_rfl
theorem b9A:u7 Tryz.prog 134=some ((.agg #[(.I 0),(.I 0),(.I 0),(.I 0),(.I 0),(.I 0),(.bool false),(.slice none 0 0)])):=by kernel_rfl
theorem c9m:u7 Tryz.prog 140=some ((.agg #[(.slice none 0 0),(.I 0)])):=by kernel_rfl
theorem c1q:u7 Tryz.prog 143=some ((.agg #[(.I 0),(.I 0),(.I 0),(.I 0),(.I 0),(.I 0),(.bool false),(.slice none 0 0)])):=by kernel_rfl
theorem d0H:u7 Tryz.prog 150=some ((.slice none 0 0)):=by kernel_rfl
theorem a3y:u7 Tryz.prog 156=some ((.agg #[.nilFunc,(.I 0),(.I 0),(.I 0)])):=by kernel_rfl
theorem c1r:u7 Tryz.prog 178=some ((.agg #[(.I 0),(.bool false),(.I 0)])):=by kernel_rfl
theorem c1s:u7 Tryz.prog 180=some ((.agg #[(.I 0),(.I 0),(.I 0)])):=by kernel_rfl
theorem c1t:u7 Tryz.prog 181=some ((.agg #[(.I 0),(.I 0),(.I 0)])):=by kernel_rfl
theorem b9B:u7 Tryz.prog 183=some ((.agg #[(.I 0),(.I 0),(.I 0)])):=by kernel_rfl
theorem c3Y:u7 Tryz.prog 184=some ((.agg #[(.I 0),(.I 0),(.I 0)])):=by kernel_rfl
theorem c7X:u7 Tryz.prog 196=some ((.agg #[(.I 0),(.I 0)])):=by kernel_rfl
theorem b8a:u7 Tryz.prog 202=some ((.agg #[(.I 0),(.I 0),(.I 0)])):=by kernel_rfl
theorem c1u:u7 Tryz.prog 212=some ((.agg #[(.I 0),(.I 0)])):=by kernel_rfl
theorem d0I:u7 Tryz.prog 227=some ((.agg #[.nilFunc])):=by kernel_rfl
theorem c3Z:u7 Tryz.prog 286=some ((.agg #[.nilFunc])):=by kernel_rfl
theorem d0J:u7 Tryz.prog 301=some ((.agg #[(.I 0),(.I 0),(.I 0)])):=by kernel_rfl
theorem d0K:u7 Tryz.prog 310=some ((.agg #[(.slice none 0 0)])):=by kernel_rfl
theorem d0L:u7 Tryz.prog 343=some ((.agg #[(.I 0),(.I 0)])):=by kernel_rfl
theorem c9n:u7 Tryz.prog 359=some ((.agg #[(.I 0),(.I 0),(.I 0),(.I 0)])):=by kernel_rfl
theorem N3:Tryz.prog.follows .mixedOrders=true:=by kernel_rfl
end Ty
def tb:TB:=⟨[((24,0),(0,22)),((24,1),(1,3)),((26,0),(0,24)),((26,1),(2,3)),((32,0),(0,30)),((32,1),(1,3)),((34,0),(0,26)),((34,1),(3,27)),((34,2),(4,28)),((34,3),(5,29)),((34,4),(6,32)),((36,0),(0,3)),((36,1),(1,3)),((36,2),(2,3)),((36,3),(3,3)),((44,0),(0,42)),((44,1),(1,3)),((44,2),(2,3)),((49,0),(0,47)),((49,1),(1,3)),((51,0),(0,44)),((51,1),(3,27)),((51,2),(4,45)),((51,3),(5,46)),((51,4),(6,49)),((55,0),(0,3)),((55,1),(1,3)),((55,2),(2,3)),((55,3),(3,3)),((78,0),(0,3)),((78,1),(1,3)),((78,2),(2,3)),((78,3),(3,3)),((78,4),(4,4)),((78,5),(5,27)),((84,0),(0,3)),((84,1),(1,4)),((84,2),(2,3)),((96,0),(0,34)),((96,1),(8,36)),((116,0),(0,3)),((116,1),(1,3)),((116,2),(2,3)),((116,3),(3,3)),((116,4),(4,4)),((116,5),(5,27)),((134,0),(0,3)),((134,1),(1,3)),((134,2),(2,78)),((140,0),(0,138)),((140,1),(1,3)),((143,0),(0,3)),((143,1),(1,3)),((143,2),(2,116)),((156,0),(0,154)),((156,1),(1,3)),((156,3),(3,39)),((178,0),(0,3)),((178,1),(1,4)),((178,2),(2,3)),((180,0),(0,3)),((180,1),(1,3)),((180,2),(2,3)),((181,0),(0,3)),((181,1),(1,3)),((181,2),(2,3)),((183,0),(0,3)),((183,1),(1,3)),((184,0),(0,3)),((184,1),(1,3)),((196,0),(0,3)),((196,1),(1,3)),((202,0),(0,3)),((202,1),(1,3)),((202,2),(2,3)),((212,0),(0,3)),((227,0),(0,225)),((286,0),(0,284)),((301,0),(0,3)),((301,1),(1,3)),((301,2),(2,3)),((310,0),(0,29)),((343,0),(0,3)),((343,1),(1,3))],[(3,false),(4,false),(22,false),(24,true),(26,true),(27,false),(28,false),(29,false),(30,false),(32,true),(34,true),(36,true),(37,false),(39,false),(42,false),(44,true),(45,false),(46,false),(47,false),(49,true),(51,true),(55,true),(78,true),(84,true),(96,true),(116,true),(134,true),(138,false),(140,true),(143,true),(145,false),(154,false),(156,true),(178,true),(180,true),(181,true),(183,true),(184,true),(202,true),(212,true),(213,false),(215,false),(216,false),(225,false),(227,true),(284,false),(286,true)],[(3,1),(4,1),(22,1),(24,2),(26,3),(27,1),(28,1),(29,1),(32,2),(34,8),(36,4),(39,1),(44,3),(45,1),(46,1),(49,2),(51,8),(55,4),(78,6),(84,3),(96,12),(116,6),(134,8),(140,2),(143,8),(145,1),(156,4),(178,3),(180,3),(181,3),(183,3),(184,3),(202,3),(212,2),(213,1),(216,1),(227,1),(286,1),(359,4)],[(3,.I 0),(4,.bool false),(24,.agg [.lst true (List.map slab_Cell_store_Obj.Pv []),.I 0]),(26,.agg [.lst true (List.map slab_Cell_store_Obj.Pv []),.I 0,.I 0]),(27,.lst true (List.map iF [])),(29,.lst true (List.map hash_Place.Pv [])),(32,.agg [.lst true (List.map task_Task.Pv []),.I 0]),(34,.agg [.lst true (List.map slab_Cell_store_Obj.Pv []),.I 0,.I 0,.lst true (List.map iF []),.lst true (List.map weak_Cell.Pv []),.lst true (List.map hash_Place.Pv []),.lst true (List.map task_Task.Pv []),.I 0]),(36,.agg [.I 0,.I 0,.I 0,.I 0]),(39,.I 0),(44,.agg [.lst true (List.map j1.Pv []),.I 0,.I 0]),(49,.agg [.lst true (List.map l7.Pv []),.I 0]),(51,.agg [.lst true (List.map j1.Pv []),.I 0,.I 0,.lst true (List.map iF []),.lst true (List.map g8.Pv []),.lst true (List.map g5.Pv []),.lst true (List.map l7.Pv []),.I 0]),(55,.agg [.I 0,.I 0,.I 0,.I 0]),(78,.agg [.I 0,.I 0,.I 0,.I 0,.bool false,.lst true (List.map iF [])]),(84,.agg [.I 0,.bool false,.I 0]),(116,.agg [.I 0,.I 0,.I 0,.I 0,.bool false,.lst true (List.map iF [])]),(134,.agg [.I 0,.I 0,.I 0,.I 0,.I 0,.I 0,.bool false,.lst true (List.map iF [])]),(140,.agg [.lst true (List.map o9.Pv []),.I 0]),(143,.agg [.I 0,.I 0,.I 0,.I 0,.I 0,.I 0,.bool false,.lst true (List.map iF [])]),(145,.abs b8e),(156,.agg [.nilfn,.I 0,.I 0,.I 0]),(178,.agg [.I 0,.bool false,.I 0]),(180,.agg [.I 0,.I 0,.I 0]),(181,.agg [.I 0,.I 0,.I 0]),(183,.agg [.I 0,.I 0,.I 0]),(184,.agg [.I 0,.I 0,.I 0]),(202,.agg [.I 0,.I 0,.I 0]),(212,.agg [.I 0,.I 0]),(213,.lst true (List.map j4.Pv [])),(216,.abs b8e),(227,.agg [.nilfn]),(286,.agg [.nilfn]),(359,.agg [.I 0,.I 0,.I 0,.I 0])]⟩
theorem Tb:TB.Ok Tryz.prog tb:=⟨by kernel_rfl,by kernel_rfl,by kernel_rfl,by kernel_rfl⟩
section
variable{X:Ctx}{ops:Array Oper}{K:Ctx→St→Prop}{i n:Nat}{l l':List Oper}{env env':Nat→PV}{σ σ':Nat→Option Row}{Q:PX→Ctx→St→Prop}{y:Code}{KD:St→Prop}{bar:List Nat}
theorem S1(n:Nat)(h:run tb n l env σ=some (l',env',σ'))(k:Sq X ops (i+n) l' K ⟨env',σ'⟩)(hb:TB.Ok X.P tb:=by exact Tb):Sq X ops i l K ⟨env,σ⟩:=seg hb n h k
theorem S2(n:Nat)(h:run tb n l env σ=some ([],env',σ'))(k:K X ⟨env',σ'⟩)(hb:TB.Ok X.P tb:=by exact Tb):Sq X ops i l K ⟨env,σ⟩:=seg hb n h (yN k)
theorem S3{id:Nat}(n:Nat)(h:run tb n l env σ=some (l',env',σ'))(k:Sq X l.toArray (0+n) l' (λX' s=>P5 X' y Q s) ⟨env',σ'⟩)(hd:a1X X.N l.toArray=true:=by kernel_rfl)(hb:TB.Ok X.P tb:=by exact Tb):P5 X (.seq (.region id l.toArray false) y) Q ⟨env,σ⟩:=sr hd (seg hb n h k)
theorem S4{id:Nat}(n:Nat)(h:run tb n l env σ=some ([],env',σ'))(k:P5 X y Q ⟨env',σ'⟩)(hd:a1X X.N l.toArray=true:=by kernel_rfl)(hb:TB.Ok X.P tb:=by exact Tb):P5 X (.seq (.region id l.toArray false) y) Q ⟨env,σ⟩:=sr hd (seg hb n h (yN k))
theorem S5{id:Nat}(n:Nat)(h:run tb n l env σ=some (l',env',σ'))(k:Sq X l.toArray (0+n) l' (Q .normal) ⟨env',σ'⟩)(hd:a1X X.N l.toArray=true:=by kernel_rfl)(hb:TB.Ok X.P tb:=by exact Tb):P5 X (.region id l.toArray false) Q ⟨env,σ⟩:=sr1 hd (seg hb n h k)
theorem S6{id:Nat}(n:Nat)(h:run tb n l env σ=some ([],env',σ'))(k:Q .normal X ⟨env',σ'⟩)(hd:a1X X.N l.toArray=true:=by kernel_rfl)(hb:TB.Ok X.P tb:=by exact Tb):P5 X (.region id l.toArray false) Q ⟨env,σ⟩:=sr1 hd (seg hb n h (yN k))
theorem S7(n:Nat)(h:c5c tb bar n i l env σ=some (l',env',σ'))(k:Ex X.P ops bar true (i+n) l' ⟨env',σ'⟩ KD)(hb:TB.Ok X.P tb:=by exact Tb):Ex X.P ops bar true i l ⟨env,σ⟩ KD:=dG hb n h k
theorem S8(n:Nat)(h:c5c tb bar n i l env σ=some ([],env',σ'))(k:KD ⟨env',σ'⟩)(hb:TB.Ok X.P tb:=by exact Tb):Ex X.P ops bar true i l ⟨env,σ⟩ KD:=dG hb n h k
end
theorem c7K:b4Y Tryz.prog (Tryz.sortF_ren.f 6):=c1e Tryz.sortF
theorem b6p{a0}:PO Tryz.prog 53 [store_Store.Pv a0] (a7X a0) λr=>.bool r:=by
 refine pO Tryz.func53 λr h _ _=>?_
 refine S4 2 J ?_
 refine jq h (λ_=>St.of [(1,.ptr 1 0 0)] [(1,vR (store_Store.Pv a0) 3)]) (λq6 h=>?_) λκ5 h=>?_
 ·refine S3 3 J ?_
  refine nL J Ty.e22<|S2 2 J<|a7 ?_
  cases h
  exact f1
 ·refine S4 1 J ?_
  refine c7<|lq h (λs8=>St.of [(1,.ptr 1 0 0),(3,.I s8)] [(1,vR (store_Store.Pv a0) 3)]) W λs8 x9 h hx8=>b9<|S3 4 J<|nL J Ty.e22<|S1 2 J<|b8 J (λhg=>mI J)<|b8 J (λhg=>j2 (ct hg) J J)<|y0 J (k7 J J J (λq=>H2 q))<|yN ?_
  refine cN h (λhc h=>?_) λhc h=>?_
  ·refine a8 ?_
   refine b9<|c7<|S3 4 J<|iL h J J Ty.e22 Ty.a4Q λv10 _ h=>S1 3 J<|nL J Ty.w8<|S2 1 J ?_
   refine cN h (λhc h=>?_) λhc h=>?_
   ·refine S4 1 J ?_
    refine a7 ?_
    have h:=xL hx8 h
    cases h
    exact f1
   ·refine a8 ?_
    refine S6 3 J ?_
    exact eL h W
  ·refine j8 ?_
   refine b7<|b7<|c8 ?_
   have h:=xL hx8 h
   exact eJ h W

theorem a8Z{a0}:PO Tryz.prog 16 [hold_Heap.Pv a0] (a5T a0) λr=>.bool r:=by
 refine pO Tryz.func16 λr h _ _=>?_
 refine S4 2 J<|S3 2 J<|cA h b6p J J λv1 _ h=>S1 1 J<|b8 J (λhg=>oF J Ty.b9H J)<|b8 J (λhg=>oS (ct hg) J J Ty.a27 J)<|b8 J (λhg=>H7 (f:=iF) (ct hg) Ty.w8)<|b8 J (λhg=>j2 (ct hg) J J)<|y0 J (k7 J J J (λq=>H2 q))<|S1 1 J<|b8 J (λhg=>oF J Ty.b6Q J)<|b8 J (λhg=>oS (ct hg) J J Ty.a28 J)<|b8 J (λhg=>H7 (f:=weak_Cell.Pv) (ct hg) Ty.e28)<|b8 J (λhg=>j2 (ct hg) J J)<|y0 J (k7 J J J (λq=>H2 q))<|S1 1 J<|b8 J (λhg=>oF J Ty.c5H J)<|b8 J (λhg=>oS (ct hg) J J Ty.a29 J)<|b8 J (λhg=>H7 (f:=hash_Place.Pv) (ct hg) Ty.e29)<|b8 J (λhg=>j2 (ct hg) J J)<|y0 J (k7 J J J (λq=>H2 q))<|S1 1 J<|b8 J (λhg=>oF J Ty.b6R J)<|b8 J (λhg=>oF (ct hg) Ty.c18 J)<|b8 J (λhg=>oS (ct hg) J J Ty.a30 J)<|b8 J (λhg=>H7 (f:=task_Task.Pv) (ct hg) Ty.e30)<|b8 J (λhg=>j2 (ct hg) J J)<|y0 J (k7 J J J (λq=>H2 q))<|S2 1 J<|a7 ?_
 cases h
 exact f1

theorem b9t{a0}:PO Tryz.prog 82 [store_Obj.Pv a0] (b2i a0) λr=>y4.Pv r:=by
 refine pO Tryz.func82 λr h _ _=>?_
 unfold b2i at h
 refine S4 2 J<|S3 12 J<|y0 J (l4 (cs:=[.I a0.Serial,.I a0.Strong,.I a0.Weak,.I a0.Prog,.bool a0.Started,.L iF a0.Fields]) J Ty.p78 Ty.z78 J J J)<|S2 1 J<|a7 ?_
 cases h
 exact⟨J,[_],⟨oL J J J Ty.a78 Ty.s78 nl J,tr⟩,J,io⟩

theorem b9s{a0}:PO Tryz.prog 34 [store_Store.Pv a0] (b2h a0) λr=>g6.Pv r:=by
 refine pO Tryz.func34 λr h _ _=>?_
 refine S4 2 J<|sR<|y0 J (A9 J Ty.e42 Ty.a05)<|S2 1 J ?_
 refine jq h (λj10=>St.of [(1,.ptr 1 0 0),(2,.ptr 2 0 0),(3,.sl 910003)] [(910003,⟨List.map j1.Pv j10,(List.map j1.Pv j10).length,true,8,true⟩),(2,vR (.agg [.nl,.I 0,.I 0]) 3),(1,vR (store_Store.Pv a0) 3)]) (λj10 h=>?_) λκ9 h=>?_
 ·refine S3 6 J ?_
  refine y0 J (l4 (cs:=[.sl 910003,.I a0.S.Last,.I a0.Serial]) J Ty.p44 Ty.z44 J J J)<|S2 1 J<|a7 ?_
  cases h
  exact⟨J,[_],⟨oL J J J Ty.a44 Ty.s44 nl J,tr⟩,J,io⟩
 ·refine S4 1 J ?_
  refine c7<|lq h (λq=>St.of [(1,.ptr 1 0 0),(2,.ptr 2 0 0),(3,.sl 910003),(4,.I q.1)] [(2,vR (.agg [.nl,.I 0,.I 0]) 3),(1,vR (store_Store.Pv a0) 3),(910003,⟨List.map j1.Pv q.2,(List.map j1.Pv q.2).length,true,8,true⟩)]) (Wk.trans (E1 (t:=3) (l:=920003) (z:=8) J J) (WP (λl=>if l=910003 then 920003 else l))) λq15 x14 h hx10=>?_
  obtain⟨s12,s13⟩:=q15
  refine b9<|S3 4 J<|nL J Ty.e22<|S2 1 J ?_
  refine cN h (λhc h=>?_) λhc h=>?_
  ·refine a8 ?_
   refine b9<|c7<|S3 4 J<|iL h J J Ty.e22 Ty.a4Q λv16 _ h=>S2 3 J<|a1w [] Ty.N3 (by kernel_rfl) (by kernel_rfl)<|S7 7 J<|n9 h λv17 hv12 h=>d2f J (s7 J b9t J hv12) J<|d7 J (λ_ hN=>l4 (cs:=[.I v16.State,.I v16.Gen,.I v17.Serial,.I v17.Strong,.I v17.Weak,.I v17.Prog,.bool v17.Started,.L iF v17.Fields]) J Ty.c8P Ty.b9A J J J) J<|d1n J (L1 (f:=j1.Pv) (l:=[(⟨v16.State,v16.Gen,v17⟩:j1)]) J Ty.e42 Ty.a05 Ty.b9A J J nl J J) J<|n9 h λv18 hv13 h=>d3a J (F4 (f:=j1.Pv) hv13 J J J J J J (.inl ⟨_,J,J⟩) Ty.e42 Ty.a05 Ty.c6k Ty.b9A J (λ_=>J)) J J J J J<|S8 1 J<|S6 3 J ?_
   exact eL h (Wk.trans (k8 _ [31]) (WP (λl=>if l=910003 then 31 else l)))
  ·refine j8 ?_
   refine b7<|b7<|c8 ?_
   have h:=xL hx10 h
   exact eJ h (Wk.trans (k8 _ [910003]) W)

theorem b6o{a0}:PO Tryz.prog 50 [.L weak_Cell.Pv a0] (a7W a0) λr=>.L g8.Pv r:=by
 refine pO Tryz.func50 λr h _ _=>?_
 refine S4 1 J<|sR<|y0 J (A9 J Ty.e45 Ty.a4R)<|S2 1 J ?_
 refine jq h (λj9=>St.of [(3,.sl 910003)] [(910003,⟨List.map g8.Pv j9,(List.map g8.Pv j9).length,true,3,true⟩)]) (λj9 h=>?_) λκ8 h=>?_
 ·refine S4 2 J ?_
  refine a7 ?_
  cases h
  exact f1
 ·refine S4 1 J ?_
  refine c7<|lq h (λq=>St.of [(0,.L weak_Cell.Pv a0),(3,.sl 910003),(4,.I q.1)] [(910003,⟨List.map g8.Pv q.2,(List.map g8.Pv q.2).length,true,3,true⟩)]) (Wk.trans (E1 (t:=3) (l:=920003) (z:=3) J J) (WP (λl=>if l=910003 then 920003 else l))) λq14 x13 h hx9=>?_
  obtain⟨s11,s12⟩:=q14
  refine b9<|S3 2 J<|nL J Ty.e28<|S2 1 J ?_
  refine cN h (λhc h=>?_) λhc h=>?_
  ·refine a8 ?_
   refine b9<|c7<|S5 3 J<|iL h J J Ty.e28 Ty.s84 λv15 _ h=>S1 1 J<|y0 J (L1 (f:=g8.Pv) (l:=[(⟨v15.Target,v15.Intact,v15.Call⟩:g8)]) J Ty.e45 Ty.a4R Ty.c1r J J nl J J)<|n9 h λv16 hv11 h=>I9 J (F4 (f:=g8.Pv) hv11 J J J J J J (.inl ⟨_,J,J⟩) Ty.e45 Ty.a4R Ty.c6l Ty.c1r J (λ_=>J)) J J J<|S2 1 J<|S6 3 J ?_
   exact eL h (Wk.trans (k8 _ [18]) (WP (λl=>if l=910003 then 18 else l)))
  ·refine j8 ?_
   refine b7<|b7<|c8 ?_
   have h:=xL hx9 h
   exact eJ h (Wk.trans (k8 _ [910003]) W)

theorem b9v{a0}:PO Tryz.prog 51 [.L hash_Place.Pv a0] (b2j a0) λr=>.L g5.Pv r:=by
 refine pO Tryz.func51 λr h _ _=>?_
 refine S4 1 J<|sR<|y0 J (A9 J Ty.e46 Ty.a6h)<|S2 1 J ?_
 refine jq h (λj9=>St.of [(3,.sl 910003)] [(910003,⟨List.map g5.Pv j9,(List.map g5.Pv j9).length,true,3,true⟩)]) (λj9 h=>?_) λκ8 h=>?_
 ·refine S4 2 J ?_
  refine a7 ?_
  cases h
  exact f1
 ·refine S4 1 J ?_
  refine c7<|lq h (λq=>St.of [(0,.L hash_Place.Pv a0),(3,.sl 910003),(4,.I q.1)] [(910003,⟨List.map g5.Pv q.2,(List.map g5.Pv q.2).length,true,3,true⟩)]) (Wk.trans (E1 (t:=3) (l:=920003) (z:=3) J J) (WP (λl=>if l=910003 then 920003 else l))) λq14 x13 h hx9=>?_
  obtain⟨s11,s12⟩:=q14
  refine b9<|S3 2 J<|nL J Ty.e29<|S2 1 J ?_
  refine cN h (λhc h=>?_) λhc h=>?_
  ·refine a8 ?_
   refine b9<|c7<|S5 3 J<|iL h J J Ty.e29 Ty.a8U λv15 _ h=>S1 1 J<|y0 J (L1 (f:=g5.Pv) (l:=[(⟨v15.State,v15.Key,v15.Val⟩:g5)]) J Ty.e46 Ty.a6h Ty.c1s J J nl J J)<|n9 h λv16 hv11 h=>I9 J (F4 (f:=g5.Pv) hv11 J J J J J J (.inl ⟨_,J,J⟩) Ty.e46 Ty.a6h Ty.c8f Ty.c1s J (λ_=>J)) J J J<|S2 1 J<|S6 3 J ?_
   exact eL h (Wk.trans (k8 _ [18]) (WP (λl=>if l=910003 then 18 else l)))
  ·refine j8 ?_
   refine b7<|b7<|c8 ?_
   have h:=xL hx9 h
   exact eJ h (Wk.trans (k8 _ [910003]) W)

theorem b6r{a0}:PO Tryz.prog 52 [queue_Queue_task_Task.Pv a0] (a7Z a0) λr=>p6.Pv r:=by
 refine pO Tryz.func52 λr h _ _=>?_
 refine S4 2 J<|sR<|y0 J (A9 J Ty.e47 Ty.a8b)<|S2 1 J ?_
 refine jq h (λj9=>St.of [(1,.ptr 1 0 0),(2,.ptr 2 0 0),(3,.sl 910003)] [(910003,⟨List.map l7.Pv j9,(List.map l7.Pv j9).length,true,3,true⟩),(2,vR (.agg [.nl,.I 0]) 2),(1,vR (queue_Queue_task_Task.Pv a0) 2)]) (λj9 h=>?_) λκ8 h=>?_
 ·refine S3 3 J ?_
  refine y0 J (l4 (cs:=[.sl 910003,.I a0.Cap]) J Ty.p49 Ty.z49 J J J)<|S2 1 J<|a7 ?_
  cases h
  exact⟨J,[_],⟨oL J J J Ty.a49 Ty.s49 nl J,tr⟩,J,io⟩
 ·refine S4 1 J ?_
  refine c7<|lq h (λq=>St.of [(1,.ptr 1 0 0),(2,.ptr 2 0 0),(3,.sl 910003),(4,.I q.1)] [(2,vR (.agg [.nl,.I 0]) 2),(1,vR (queue_Queue_task_Task.Pv a0) 2),(910003,⟨List.map l7.Pv q.2,(List.map l7.Pv q.2).length,true,3,true⟩)]) (Wk.trans (E1 (t:=3) (l:=920003) (z:=3) J J) (WP (λl=>if l=910003 then 920003 else l))) λq14 x13 h hx9=>?_
  obtain⟨s11,s12⟩:=q14
  refine b9<|S3 3 J<|nL J Ty.e30<|S2 1 J ?_
  refine cN h (λhc h=>?_) λhc h=>?_
  ·refine a8 ?_
   refine b9<|c7<|S5 4 J<|iL h J J Ty.e30 Ty.b4f λv15 _ h=>S1 1 J<|y0 J (L1 (f:=l7.Pv) (l:=[(⟨v15.Kind,v15.At,v15.Prog⟩:l7)]) J Ty.e47 Ty.a8b Ty.b9B J J nl J J)<|n9 h λv16 hv11 h=>I9 J (F4 (f:=l7.Pv) hv11 J J J J J J (.inl ⟨_,J,J⟩) Ty.e47 Ty.a8b Ty.c6m Ty.b9B J (λ_=>J)) J J J<|S2 1 J<|S6 3 J ?_
   exact eL h (Wk.trans (k8 _ [20]) (WP (λl=>if l=910003 then 20 else l)))
  ·refine j8 ?_
   refine b7<|b7<|c8 ?_
   have h:=xL hx9 h
   exact eJ h (Wk.trans (k8 _ [910003]) W)

theorem Q1{a0}:PO Tryz.prog 14 [hold_Heap.Pv a0] (W9 a0) λr=>c5.Pv r:=by
 refine pO Tryz.func14 λr h _ _=>?_
 unfold W9 at h
 refine S4 2 J<|dr [] Ty.N3 (by kernel_rfl) (by kernel_rfl)<|S7 2 J<|n9 h λv1 hv1 h=>d2f J (s7 J b9s J hv1) J<|S7 4 J<|n9 h λv2 hv2 h=>d2f J (s7 J b6o J hv2) J<|S7 2 J<|n9 h λv3 hv3 h=>d2f J (s7 J b9v J hv3) J<|S7 2 J<|n9 h λv4 hv4 h=>d2f J (s7 J b6r J hv4) J<|d7 J (λ_ hN=>l4 (cs:=[.L j1.Pv v1.Cells,.I v1.Last,.I v1.Serial,.L iF a0.Roots,.L g8.Pv v2,.L g5.Pv v3,.L l7.Pv v4.L,.I v4.Cap]) J Ty.p51 Ty.z51 J J J) J<|G9 (x':=.agg [.L j1.Pv v1.Cells,.I v1.Last,.I v1.Serial,.L iF a0.Roots,.L g8.Pv v2,.L g5.Pv v3,.L l7.Pv v4.L,.I v4.Cap]) (cl':=true) J J (.inr J) Ty.X4<|L5<|a7 ?_
 cases h
 exact⟨J,[_],⟨oL J J J Ty.a51 Ty.X4 nl J,tr⟩,J,io⟩

theorem I1{a0}:PO Tryz.prog 81 [g6.Pv a0] (J3 a0) λr=>p9.Pv r:=by
 refine pO Tryz.func81 λr h _ _=>?_
 refine S4 2 J<|S3 2 J<|y0 J (l4 (cs:=[.nl,.I a0.Last]) J Ty.c8Q Ty.c9m J J J)<|S1 1 J<|a7e (x':=.agg [.nl,.I a0.Last]) (cl':=true) J J (.inl J) Ty.b3u<|yN ?_
 refine jq h (λj9=>St.of [(2,.ptr 2 0 0),(3,.ptr 3 0 0)] [(3,vS (.agg [.sl 910503,.I a0.Last]) 2),(910503,⟨List.map o9.Pv j9,(List.map o9.Pv j9).length,true,3,true⟩),(2,vR (.agg [.nl,.I 0]) 2)]) (λj9 h=>?_) λκ8 h=>?_
 ·refine S4 2 J ?_
  refine a7 ?_
  cases h
  exact⟨J,[_],⟨oL J J J Ty.b4Z Ty.b3u nl J,tr⟩,J,io⟩
 ·refine S4 1 J ?_
  refine c7<|lq h (λq=>St.of [(1,.ptr 1 0 0),(2,.ptr 2 0 0),(3,.ptr 3 0 0),(4,.I q.1)] [(3,vS (.agg [.sl 910503,.I a0.Last]) 2),(2,vR (.agg [.nl,.I 0]) 2),(1,vR (g6.Pv a0) 3),(910503,⟨List.map o9.Pv q.2,(List.map o9.Pv q.2).length,true,3,true⟩)]) (Wk.trans (a71 (l0:=3) (j:=0) (l:=920503) (z:=3) J J J J J) (WP (λl=>if l=910503 then 920503 else l))) λq14 x13 h hx9=>?_
  obtain⟨s11,s12⟩:=q14
  refine b9<|S3 3 J<|nL J Ty.e42<|S2 1 J ?_
  refine cN h (λhc h=>?_) λhc h=>?_
  ·refine a8 ?_
   refine b9<|c7<|a1w [] Ty.N3 (by kernel_rfl) (by kernel_rfl)<|S7 5 J<|n9 h λv15 hv10 h=>d0 J (p7 (f:=j1.Pv) (cs:=j1.Pc v15) hv10 J J Ty.e42 Ty.a05 J J) J<|S7 5 J<|d0 J (p7 (f:=j1.Pv) (cs:=j1.Pc v15) hv10 J J Ty.e42 Ty.a05 J J) J<|S7 3 J<|d7 J (λ_ hN=>l4 (cs:=[.I v15.State,.I v15.Gen,.I s11]) J Ty.c27 Ty.b8a J J J) J<|d1n J (L1 (f:=o9.Pv) (l:=[(⟨v15.State,v15.Gen,s11⟩:o9)]) J Ty.a4q Ty.a67 Ty.b8a J J nl J J) J<|n9 h λv16 hv11 h=>d3a J (F4 (f:=o9.Pv) hv11 J J J J J J (.inl ⟨_,J,J⟩) Ty.a4q Ty.a67 Ty.c8h Ty.b8a J (λ_=>J)) J J J J J<|S7 1 J<|G9 (x':=.agg [.sl 32,.I a0.Last]) (cl':=false) J J (.inl J) Ty.d0E<|L5<|S6 3 J ?_
   exact eL h (Wk.trans (k8 _ [32]) (WP (λl=>if l=910503 then 32 else l)))
  ·refine j8 ?_
   refine b7<|b7<|c8 ?_
   have h:=xL hx9 h
   exact eJ h (Wk.trans (k8 _ [910503]) W)

theorem b5E{a0}:PO Tryz.prog 136 [p9.Pv a0] (a7w a0) λr=>.bool r:=by
 refine pO Tryz.func136 λr h _ _=>?_
 refine S4 2 J<|b9<|S3 2 J<|nL J Ty.a4q<|S1 2 J<|b8 J (λhg=>oF J Ty.b8r J)<|b8 J (λhg=>oS (ct hg) J J Ty.a3 J)<|b8 J (λhg=>j2 (ct hg) J J)<|y0 J (n0 J J J (λq=>H0 q))<|S1 1 J<|b8 J (λhg=>oF J Ty.b8r J)<|b8 J (λhg=>oS (ct hg) J J Ty.a3 J)<|b8 J (λhg=>j2 (ct hg) J J)<|y0 J (n0 J J J (λq=>H0 q))<|yN ?_
 refine cN h (λhc h=>?_) λhc h=>?_
 ·refine S4 1 J ?_
  refine a7 ?_
  cases h
  exact f1
 ·refine a8 ?_
  refine jq h (λ_=>St.of [] []) (λq6 h=>?_) λκ5 h=>?_
  ·refine S4 1 J ?_
   refine a7 ?_
   cases h
   exact f1
  ·refine S4 1 J ?_
   refine c7<|lq h (λs8=>St.of [(1,.ptr 1 0 0),(3,.I s8)] [(1,vR (p9.Pv a0) 2)]) W λs8 x9 h hx8=>b9<|S3 3 J<|nL J Ty.a4q<|S2 1 J ?_
   refine cN h (λhc h=>?_) λhc h=>?_
   ·refine a8 ?_
    refine b9<|c7<|S3 3 J<|iL h J J Ty.a4q Ty.a67 λv10 _ h=>S2 3 J<|S3 4 J<|b8 J (λhg=>oF J Ty.b8t J)<|b8 J (λhg=>oS (ct hg) J J Ty.a3 J)<|b8 J (λhg=>j2 (ct hg) J J)<|y0 J (n0 J J J (λq=>H0 q))<|S1 1 J<|b8 J (λhg=>oF J Ty.c14 J)<|b8 J (λhg=>oS (ct hg) J J Ty.a3 J)<|b8 J (λhg=>j2 (ct hg) J J)<|y0 J (n0 J J J (λq=>H0 q))<|S1 1 J<|b8 J (λhg=>oF J Ty.c14 J)<|b8 J (λhg=>oS (ct hg) J J Ty.a3 J)<|b8 J (λhg=>oF J Ty.b8r J)<|b8 J (λhg=>oS (ct hg) J J Ty.a3 J)<|b8 J (λhg=>j2 (ct hg) (ct hg) J)<|y0 J (n0 J J J (λq=>H0 q))<|yN ?_
    refine cN h (λhc h=>?_) λhc h=>?_
    ·refine S4 1 J ?_
     refine a7 ?_
     have h:=xL hx8 h
     cases h
     exact f1
    ·refine a8 ?_
     refine S6 3 J ?_
     exact eL h W
   ·refine j8 ?_
    refine b7<|b7<|c8 ?_
    have h:=xL hx8 h
    exact eJ h W

theorem a9S{a0}:PO Tryz.prog 137 [j1.Pv a0] (a2L a0) λr=>.bool r:=by
 refine pO Tryz.func137 λr h _ _=>?_
 unfold a2L at h
 refine S4 2 J<|S3 4 J<|b8 J (λhg=>oF J Ty.b8q J)<|b8 J (λhg=>oS (ct hg) J J Ty.a3 J)<|b8 J (λhg=>j2 (ct hg) J J)<|y0 J (n0 J J J (λq=>H0 q))<|S2 1 J<|a7 ?_
 cases h
 exact f1

theorem b5G{a0}:PO Tryz.prog 68 [g6.Pv a0] (a7x a0) λr=>.bool r:=by
 refine pO Tryz.func68 λr h _ _=>?_
 refine S4 2 J<|b9<|S3 1 J<|cF h I1 J J λv1 _ h=>cA h b5E J J λv2 _ h=>S1 2 J<|b8 J (λhg=>oF J Ty.b9I J)<|b8 J (λhg=>oS (ct hg) J J Ty.a3 J)<|b8 J (λhg=>j2 (ct hg) J J)<|y0 J (n0 J J J (λq=>H0 q))<|yN ?_
 refine cN h (λhc h=>?_) λhc h=>?_
 ·refine S4 1 J ?_
  refine a7 ?_
  cases h
  exact f1
 ·refine a8 ?_
  refine jq h (λ_=>St.of [] []) (λq23 h=>?_) λκ22 h=>?_
  ·refine S4 1 J ?_
   refine a7 ?_
   cases h
   exact f1
  ·refine S4 1 J ?_
   refine c7<|lq h (λs25=>St.of [(1,.ptr 1 0 0),(3,.I s25)] [(1,vR (g6.Pv a0) 3)]) W λs25 x26 h hx24=>b9<|S3 3 J<|nL J Ty.e42<|S2 1 J ?_
   refine cN h (λhc h=>?_) λhc h=>?_
   ·refine a8 ?_
    refine jq h (λ_=>St.of [(1,.ptr 1 0 0),(3,.I s25)] [(1,vR (g6.Pv a0) 3)]) (λq35 h=>?_) λκ34 h=>?_
    ·refine S6 3 J ?_
     exact eL h W
    ·refine c7 ?_
     refine S3 3 J<|iL h J J Ty.e42 Ty.a05 λv36 _ h=>S2 3 J<|S4 4 J<|b9<|S3 1 J<|cA h a9S J J λv37 _ h=>S2 1 J ?_
     refine cN h (λhc h=>?_) λhc h=>?_
     ·refine b9 ?_
      refine S3 4 J<|b8 J (λhg=>oF J Ty.b6U J)<|b8 J (λhg=>oS (ct hg) J J Ty.a3 J)<|b8 J (λhg=>j2 (ct hg) J J)<|y0 J (n0 J J J (λq=>H0 q))<|S1 1 J<|b8 J (λhg=>oF J Ty.b4s J)<|b8 J (λhg=>oS (ct hg) J J Ty.a3 J)<|b8 J (λhg=>j2 (ct hg) J J)<|y0 J (n0 J J J (λq=>H0 q))<|S1 1 J<|b8 J (λhg=>oF J Ty.b4t J)<|b8 J (λhg=>oS (ct hg) J J Ty.a3 J)<|b8 J (λhg=>j2 (ct hg) J J)<|y0 J (n0 J J J (λq=>H0 q))<|S1 1 J<|b8 J (λhg=>oF J Ty.b6V J)<|b8 J (λhg=>oS (ct hg) J J Ty.a4 J)<|y0 J (n0 J J J (λq=>H0 q))<|S1 1 J<|b8 J (λhg=>oF J Ty.b6W J)<|b8 J (λhg=>oS (ct hg) J J Ty.a27 J)<|b8 J (λhg=>H7 (f:=iF) (ct hg) Ty.w8)<|b8 J (λhg=>j2 (ct hg) J J)<|y0 J (n0 J J J (λq=>H0 q))<|yN ?_
      refine cN h (λhc h=>?_) λhc h=>?_
      ·refine S4 1 J ?_
       refine a7 ?_
       have h:=xL hx24 h
       cases h
       exact f1
      ·refine a8 ?_
       refine j8<|b7<|c8 ?_
       exact eJ h W
     ·refine a8 ?_
      refine b9<|S3 4 J<|b8 J (λhg=>oF J Ty.b6T J)<|b8 J (λhg=>oS (ct hg) J J Ty.a3 J)<|b8 J (λhg=>oF J Ty.b9I J)<|b8 J (λhg=>oS (ct hg) J J Ty.a3 J)<|b8 J (λhg=>j2 (ct hg) (ct hg) J)<|y0 J (n0 J J J (λq=>H0 q))<|S1 1 J<|b8 J (λhg=>oF J Ty.b6U J)<|b8 J (λhg=>oS (ct hg) J J Ty.a3 J)<|b8 J (λhg=>j2 (ct hg) J J)<|y0 J (n0 J J J (λq=>H0 q))<|S1 1 J<|b8 J (λhg=>oF J Ty.b4s J)<|b8 J (λhg=>oS (ct hg) J J Ty.a3 J)<|b8 J (λhg=>j2 (ct hg) J J)<|y0 J (n0 J J J (λq=>H0 q))<|S1 1 J<|b8 J (λhg=>oF J Ty.b4t J)<|b8 J (λhg=>oS (ct hg) J J Ty.a3 J)<|b8 J (λhg=>j2 (ct hg) J J)<|y0 J (n0 J J J (λq=>H0 q))<|S1 1 J<|b8 J (λhg=>oF J Ty.b4t J)<|b8 J (λhg=>oS (ct hg) J J Ty.a3 J)<|b8 J (λhg=>j2 (ct hg) J J)<|y0 J (n0 J J J (λq=>H0 q))<|S1 1 J<|b8 J (λhg=>oF J Ty.b6W J) ?_
      refine b8 J (λhg=>oS (ct hg) J J Ty.a27 J)<|b8 J (λhg=>H7 (f:=iF) (ct hg) Ty.w8)<|b8 J (λhg=>j2 (ct hg) J J)<|y0 J (n0 J J J (λq=>H0 q))<|yN ?_
      refine cN h (λhc h=>?_) λhc h=>?_
      ·refine S4 1 J ?_
       refine a7 ?_
       have h:=xL hx24 h
       cases h
       exact f1
      ·refine a8 ?_
       refine S4 1 J<|c7<|lq h (λs39=>St.of [(1,.ptr 1 0 0),(3,.I s25),(5,.ptr 5 0 0),(6,.I s39)] [(5,vR (y4.Pv v36.Val) 6),(1,vR (g6.Pv a0) 3)]) W λs39 x40 h hx37=>b9<|S4 3 J ?_
       refine cN h (λhc h=>?_) λhc h=>?_
       ·refine a8 ?_
        refine b9<|c7<|dr [] Ty.N3 (by kernel_rfl) (by kernel_rfl)<|S7 3 J<|n9 h λv41 hv38 h=>d0 J (p7 (f:=j1.Pv) (cs:=j1.Pc v41) hv38 J J Ty.e42 Ty.a05 J J) J<|S7 1 J<|n9 h λv42 hv39 h=>d2 J (w9 J a9S J hv39) J<|S7 1 J<|o0 J (λhg _ hN=>oF J Ty.a9h J) J<|y8 J (λhg=>oS (ct hg) J J Ty.a42 J) J<|o0 J (λhg _ hN=>mI J) J<|y8 J (λhg=>p7 (f:=j1.Pv) (cs:=j1.Pc v41) hv38 (ct hg) (ct hg) Ty.e42 Ty.a05 J J) J<|o0 J (λhg _ hN=>A1 (ct hg) Ty.a6v J) J<|o0 J (λhg _ hN=>A1 (ct hg) Ty.b6T J) J<|y8 J (λhg=>A8 (ct hg) Ty.a3 J) J<|o0 J (λhg _ hN=>oF J Ty.b6T J) J<|y8 J (λhg=>oS (ct hg) J J Ty.a3 J) J<|o0 J (λhg _ hN=>j2 (ct hg) (ct hg) J) J<|d7 J (λ_ hN=>k7 J J J (λq=>H2 q)) J<|L5 ?_
        refine cN h (λhc h=>?_) λhc h=>?_
        ·refine S4 1 J ?_
         refine a7 ?_
         have h:=xL hx37 h
         have h:=xL hx24 h
         cases h
         exact f1
        ·refine a8 ?_
         refine S6 3 J ?_
         exact eL h W
       ·refine j8 ?_
        refine b7<|b7<|c8 ?_
        have h:=xL hx37 h
        exact eJ h W
   ·refine j8 ?_
    refine b7<|b7<|c8 ?_
    have h:=xL hx24 h
    exact eJ h W

theorem a3V{a0 a1}:PO Tryz.prog 138 [.L g5.Pv a0,.I a1] (a0c a0 a1) λr=>.I r:=by
 refine pO Tryz.func138 λr h _ _=>?_
 refine S4 1 J ?_
 refine jq h (λ_=>St.of [] []) (λq6 h=>?_) λκ5 h=>?_
 ·refine S4 1 J ?_
  refine a7 ?_
  cases h
  exact f1
 ·refine S4 1 J ?_
  refine c7<|lq h (λs8=>St.of [(0,.L g5.Pv a0),(1,.I a1),(5,.I s8)] []) W λs8 x9 h hx8=>b9<|S3 2 J<|nL J Ty.e46<|S2 1 J ?_
  refine cN h (λhc h=>?_) λhc h=>?_
  ·refine a8 ?_
   refine b9<|c7<|S3 2 J<|iL h J J Ty.e46 Ty.a6h λv10 hv9 h=>S1 4 J<|b8 J (λhg=>om (d:=.L g5.Pv a0) J)<|b8 J (λhg=>mI J)<|b8 J (λhg=>p7 (f:=g5.Pv) (cs:=g5.Pc v10) hv9 (ct hg) (ct hg) Ty.e46 Ty.a6h J J)<|b8 J (λhg=>A1 (ct hg) Ty.c1Y J)<|b8 J (λhg=>A8 (ct hg) Ty.a3 J)<|b8 J (λhg=>mI J)<|b8 J (λhg=>j2 (ct hg) (ct hg) J)<|y0 J (k7 J J J (λq=>H2 q))<|yN ?_
   refine cN h (λhc h=>?_) λhc h=>?_
   ·refine S4 2 J ?_
    refine a7 ?_
    have h:=xL hx8 h
    cases h
    exact f1
   ·refine a8 ?_
    refine S6 3 J ?_
    exact eL h W
  ·refine j8 ?_
   refine b7<|b7<|c8 ?_
   have h:=xL hx8 h
   exact eJ h W

theorem b1o{a0 a1}:PO Tryz.prog 139 [.I a0,.I a1] (a9U a0 a1) λr=>.I r:=by
 refine pO Tryz.func139 λr h _ _=>?_
 refine S4 1 J<|b9<|S4 2 J ?_
 refine cN h (λhc h=>?_) λhc h=>?_
 ·refine S4 1 J ?_
  refine a7 ?_
  cases h
  exact f1
 ·refine a8 ?_
  refine S3 4 J<|n9 h λv1 hv1 h=>y0 J (a3Q J J hv1)<|S2 1 J<|b9<|S4 2 J ?_
  refine cN h (λhc h=>?_) λhc h=>?_
  ·refine S6 4 J ?_
   refine S4 2 J<|a7 ?_
   cases h
   exact f1
  ·refine a8 ?_
   refine S4 2 J<|a7 ?_
   cases h
   exact f1

theorem b5J{a0}:PO Tryz.prog 69 [.L g5.Pv a0] (a7A a0) λr=>.bool r:=by
 refine pO Tryz.func69 λr h _ _=>?_
 refine S4 1 J<|S3 1 J<|nL J Ty.e46<|S2 1 J<|b9<|S3 3 J<|b8 J (λhg=>mI J)<|b8 J (λhg=>j2 (ct hg) J J)<|y0 J (n0 J J J (λq=>H0 q))<|yN ?_
 refine cN h (λhc h=>?_) λhc h=>?_
 ·refine S4 1 J ?_
  refine a7 ?_
  cases h
  exact f1
 ·refine a8 ?_
  refine jq h (λ_=>St.of [] []) (λq23 h=>?_) λκ22 h=>?_
  ·refine S4 1 J ?_
   refine a7 ?_
   cases h
   exact f1
  ·refine S4 1 J ?_
   refine c7<|lq h (λs25=>St.of [(0,.L g5.Pv a0),(3,.I (a0.length:Int)),(4,.I s25)] []) W λs25 x26 h hx24=>b9<|S4 3 J ?_
   refine cN h (λhc h=>?_) λhc h=>?_
   ·refine a8 ?_
    refine jq h (λ_=>St.of [(0,.L g5.Pv a0),(3,.I (a0.length:Int)),(4,.I s25)] []) (λq36 h=>?_) λκ35 h=>?_
    ·refine S6 3 J ?_
     exact eL h W
    ·refine c7 ?_
     refine S3 2 J<|iL h J J Ty.e46 Ty.a6h λv37 _ h=>S2 3 J<|b9<|S3 4 J<|b8 J (λhg=>oF J Ty.c1X J)<|b8 J (λhg=>oS (ct hg) J J Ty.a3 J)<|b8 J (λhg=>j2 (ct hg) J J)<|y0 J (n0 J J J (λq=>H0 q))<|S1 1 J<|b8 J (λhg=>oF J Ty.c1X J)<|b8 J (λhg=>oS (ct hg) J J Ty.a3 J)<|b8 J (λhg=>j2 (ct hg) J J)<|b8 J (λhg=>om (d:=.bool (v37.State != 1)) (ct hg))<|b8 (m8 J J J) (λhg=>oF J Ty.c1Y J)<|b8 (m8 J J J) (λhg=>oS (ct hg) J J Ty.a3 J)<|b8 (m8 J J J) (λhg=>j2 (ct hg) J J)<|b8 (m8 J J J) (λhg=>om (d:=.bool (v37.Key != 0)) (ct hg))<|b8 (m8 J J J) (λhg=>oF J Ty.c6F J)<|b8 (m8 J J J) (λhg=>oS (ct hg) J J Ty.a3 J)<|b8 (m8 J J J) (λhg=>j2 (ct hg) J J)<|b8 (m8 J J J) (λhg=>n0 (ct hg) J J (λq=>a1l hg (H0 q)))<|b8 J (λhg=>k7 (ct hg) J J (λq=>a1l hg (H2 q)))<|y0 J (n0 J J J (λq=>H0 q))<|yN ?_
     refine cN h (λhc h=>?_) λhc h=>?_
     ·refine S4 1 J ?_
      refine a7 ?_
      have h:=xL hx24 h
      cases h
      exact f1
     ·refine a8 ?_
      refine b9<|S4 3 J ?_
      refine cN h (λhc h=>?_) λhc h=>?_
      ·refine j8 ?_
       refine b7<|c8 ?_
       exact eJ h W
      ·refine a8 ?_
       refine b9<|S3 3 J<|cA h a3V J J λv38 _ h=>S2 2 J ?_
       refine cN h (λhc h=>?_) λhc h=>?_
       ·refine S4 1 J ?_
        refine a7 ?_
        have h:=xL hx24 h
        cases h
        exact f1
       ·refine a8 ?_
        refine S3 3 J<|cA h b1o J J λv39 _ h=>S2 1 J<|c7<|lq h (λs41=>St.of [(0,.L g5.Pv a0),(3,.I (a0.length:Int)),(4,.I s25),(6,.I s41)] []) W λs41 x42 h hx39=>b9<|S4 3 J ?_
        refine cN h (λhc h=>?_) λhc h=>?_
        ·refine a8 ?_
         refine b9<|c7<|S3 2 J<|iL h J J Ty.e46 Ty.a6h λv43 _ h=>S2 3 J ?_
         refine cN h (λhc h=>?_) λhc h=>?_
         ·refine S4 1 J ?_
          refine a7 ?_
          have h:=xL hx39 h
          have h:=xL hx24 h
          cases h
          exact f1
         ·refine a8 ?_
          refine S5 3 J<|n9 h λv44 hv41 h=>y0 J (a3Q J J hv41)<|S2 1 J ?_
          exact eL h W
        ·refine j8 ?_
         refine b7<|b7<|c8 ?_
         have h:=xL hx39 h
         exact eJ h W
   ·refine j8 ?_
    refine b7<|b7<|c8 ?_
    have h:=xL hx24 h
    exact eJ h W

theorem a3S{a0 a1}:PO Tryz.prog 78 [.I a0,.I a1] (a15 a0 a1) λr=>.I r:=by
 refine pO Tryz.func78 λr h _ _=>?_
 refine S4 1 J<|b9<|S3 3 J<|b8 J (λhg=>mI J)<|b8 J (λhg=>j2 (ct hg) J J)<|y0 J (n0 J J J (λq=>H0 q))<|S1 1 J<|b8 J (λhg=>mI J)<|b8 J (λhg=>j2 (ct hg) J J)<|y0 J (n0 J J J (λq=>H0 q))<|S1 1 J<|b8 J (λhg=>mI J)<|b8 J (λhg=>j2 (ct hg) J J)<|y0 J (n0 J J J (λq=>H0 q))<|yN ?_
 refine cN h (λhc h=>?_) λhc h=>?_
 ·refine S4 1 J ?_
  refine a7 ?_
  cases h
  exact f1
 ·refine a8 ?_
  refine S4 6 J<|a7 ?_
  cases h
  exact f1

theorem a9K{a0}:PO Tryz.prog 216 [.I a0] (a4G a0) λr=>.bool r:=by
 refine pO Tryz.func216 λr h _ _=>?_
 refine S4 1 J<|b9<|S3 3 J<|b8 J (λhg=>mI J)<|b8 J (λhg=>j2 (ct hg) J J)<|y0 J (n0 J J J (λq=>H0 q))<|yN ?_
 refine cN h (λhc h=>?_) λhc h=>?_
 ·refine S4 1 J ?_
  refine a7 ?_
  cases h
  exact f1
 ·refine a8 ?_
  refine S3 2 J<|n9 h λv1 hv1 h=>y0 J (a3Q J J hv1)<|S1 2 J<|n9 h λv2 hv2 h=>y0 J (a3Q J J hv2)<|cA h a3S J J λv3 _ h=>S2 3 J<|a7 ?_
  cases h
  exact f1

theorem a6K{a0}:PO Tryz.prog 124 [.I a0] (a4F a0) λr=>.I r:=by
 refine pO Tryz.func124 λr h _ _=>?_
 refine S4 1 J<|b9<|S3 1 J<|cA h a9K J J λv1 _ h=>S2 1 J ?_
 refine cN h (λhc h=>?_) λhc h=>?_
 ·refine S4 1 J ?_
  refine a7 ?_
  cases h
  exact f1
 ·refine a8 ?_
  refine S3 2 J<|n9 h λv2 hv2 h=>y0 J (a3Q J J hv2)<|S2 1 J<|a7 ?_
  cases h
  exact f1

theorem b8Y{a0}:PO Tryz.prog 223 [.I a0] (b13 a0) λr=>.I r:=by
 refine pO Tryz.func223 λr h _ _=>?_
 refine S4 1 J<|b9<|S3 1 J<|cA h a9K J J λv1 _ h=>S2 1 J ?_
 refine cN h (λhc h=>?_) λhc h=>?_
 ·refine S4 1 J ?_
  refine a7 ?_
  cases h
  exact f1
 ·refine a8 ?_
  refine S3 2 J<|n9 h λv2 hv2 h=>y0 J (a3Q J J hv2)<|S2 1 J<|a7 ?_
  cases h
  exact f1

theorem P9{a0 a1}:PO Tryz.prog 142 [p9.Pv a0,.I a1] (K1 a0 a1) λr=>.tup [.I r.1,.I r.2]:=by
 refine pO Tryz.func142 λr h _ _=>?_
 refine S4 3 J<|b9<|S4 2 J ?_
 refine cN h (λhc h=>?_) λhc h=>?_
 ·refine S4 2 J ?_
  refine a7 ?_
  cases h
  exact f2
 ·refine a8 ?_
  refine S3 1 J<|cA h a6K J J λv1 _ h=>S2 1 J<|b9<|S3 3 J<|b8 J (λhg=>mI J)<|b8 J (λhg=>oF J Ty.c6B J)<|b8 J (λhg=>oS (ct hg) J J Ty.c9E J)<|b8 J (λhg=>H7 (f:=o9.Pv) (ct hg) Ty.a4q)<|b8 J (λhg=>j2 (ct hg) (ct hg) J)<|y0 J (n0 J J J (λq=>H0 q))<|yN ?_
  refine cN h (λhc h=>?_) λhc h=>?_
  ·refine S4 2 J ?_
   refine a7 ?_
   cases h
   exact f2
  ·refine a8 ?_
   refine S3 3 J<|iL h J J Ty.a4q Ty.a67 λv2 _ h=>S2 3 J<|b9<|dr [] Ty.N3 (by kernel_rfl) (by kernel_rfl)<|S7 3 J<|n9 h λv3 hv3 h=>d2 J (w9 J b8Y J hv3) J<|S7 2 J<|o0 J (λhg _ hN=>oF J Ty.b8t J) J<|y8 J (λhg=>oS (ct hg) J J Ty.a3 J) J<|o0 J (λhg _ hN=>j2 (ct hg) J J) J<|o0 J (λhg _ hN=>om (d:=.bool (v2.State != 1)) (ct hg)) J<|o0 (m8 J J J) (λhg _ hN=>oF J Ty.b8t J) J<|y8 (m8 J J J) (λhg=>oS (ct hg) J J Ty.a3 J) J<|o0 (m8 J J J) (λhg _ hN=>j2 (ct hg) J J) J<|o0 J (λhg _ hN=>k7 (ct hg) J J (λq=>a1l hg (H2 q))) J<|d7 J (λ_ hN=>n0 J J J (λq=>H0 q)) J<|L5 ?_
   refine cN h (λhc h=>?_) λhc h=>?_
   ·refine S4 2 J ?_
    refine a7 ?_
    cases h
    exact f2
   ·refine a8 ?_
    refine S4 3 J<|a7 ?_
    cases h
    exact f2

theorem b29{a0 a1}:PO Tryz.prog 80 [p9.Pv a0,.I a1] (a9L a0 a1) λr=>.tup [.I r.1,.I r.2]:=by
 refine pO Tryz.func80 λr h _ _=>?_
 refine S4 3 J<|S3 2 J<|cA h P9 J J λv1 _ h=>S2 5 J<|b9<|S4 2 J ?_
 refine cN h (λhc h=>?_) λhc h=>?_
 ·refine S4 3 J ?_
  refine a7 ?_
  cases h
  exact f2
 ·refine a8 ?_
  refine b9<|S3 3 J<|iL h J J Ty.a4q Ty.a67 λv2 hv2 h=>S2 3 J ?_
  refine cN h (λhc h=>?_) λhc h=>?_
  ·refine S4 2 J ?_
   refine a7 ?_
   cases h
   exact f2
  ·refine a8 ?_
   refine S3 3 J<|y0 J (p7 (f:=o9.Pv) (cs:=o9.Pc v2) hv2 J J Ty.a4q Ty.a67 J J)<|S2 4 J<|a7 ?_
   cases h
   exact f2

theorem C4{a0 a1}:PO Tryz.prog 33 [g6.Pv a0,.I a1] (D3 a0 a1) λr=>.tup [y4.Pv r.1,.I r.2]:=by
 refine pO Tryz.func33 λr h _ _=>?_
 refine S4 3 J<|S3 1 J<|cF h I1 J J λv1 _ h=>S1 1 J<|cA h b29 J J λv2 _ h=>S2 5 J<|b9<|S4 2 J ?_
 refine cN h (λhc h=>?_) λhc h=>?_
 ·refine sR ?_
  refine y0 J (l4 (cs:=[.I 0,.I 0,.I 0,.I 0,.bool false,.nl]) J Ty.p78 Ty.z78 J J J)<|S1 1 J<|a7e (x':=.agg [.I 0,.I 0,.I 0,.I 0,.bool false,.nl]) (cl':=true) J J (.inl J) Ty.s78<|S2 1 J<|a7 ?_
  cases h
  exact⟨J,[_,_],⟨oL J J J Ty.a78 Ty.s78 nl J,⟨J,tr⟩⟩,J,io⟩
 ·refine a8 ?_
  refine S3 3 J<|iL h J J Ty.e42 Ty.a05 λv3 _ h=>S2 4 J<|a7 ?_
  cases h
  exact⟨J,[_,_],⟨oL J J J Ty.a78 Ty.s78 nl J,⟨J,tr⟩⟩,J,io⟩

theorem b5R{a0}:PO Tryz.prog 70 [c5.Pv a0] (a7H a0) λr=>.bool r:=by
 refine pO Tryz.func70 λr h _ _=>?_
 refine S4 2 J ?_
 refine jq h (λ_=>St.of [(1,.ptr 1 0 0)] [(1,vR (c5.Pv a0) 8)]) (λq31 h=>?_) λκ30 h=>?_
 ·refine S3 5 J ?_
  refine b8 J (λhg=>oF J Ty.b4r J)<|b8 J (λhg=>oF (ct hg) Ty.b6S J)<|b8 J (λhg=>oS (ct hg) J J Ty.a47 J)<|b8 J (λhg=>H7 (f:=l7.Pv) (ct hg) Ty.e47)<|b8 J (λhg=>j2 (ct hg) J J)<|y0 J (k7 J J J (λq=>H2 q))<|S2 1 J<|a7 ?_
  cases h
  exact f1
 ·refine S4 1 J ?_
  refine c7<|lq h (λs33=>St.of [(1,.ptr 1 0 0),(3,.I s33)] [(1,vR (c5.Pv a0) 8)]) W λs33 x34 h hx30=>b9<|S3 4 J<|nL J Ty.e47<|S2 1 J ?_
  refine cN h (λhc h=>?_) λhc h=>?_
  ·refine a8 ?_
   refine jq h (λ_=>St.of [(1,.ptr 1 0 0),(3,.I s33)] [(1,vR (c5.Pv a0) 8)]) (λq48 h=>?_) λκ47 h=>?_
   ·refine S6 3 J ?_
    exact eL h W
   ·refine c7 ?_
    refine S3 4 J<|iL h J J Ty.e47 Ty.a8b λv49 _ h=>S2 3 J<|b9<|S3 4 J<|b8 J (λhg=>oF J Ty.c10 J)<|b8 J (λhg=>oS (ct hg) J J Ty.a3 J)<|b8 J (λhg=>j2 (ct hg) J J)<|y0 J (k7 J J J (λq=>H2 q))<|S1 1 J<|b8 J (λhg=>oF J Ty.c11 J)<|b8 J (λhg=>oS (ct hg) J J Ty.a3 J)<|b8 J (λhg=>j2 (ct hg) J J)<|y0 J (n0 J J J (λq=>H0 q))<|S1 1 J<|b8 J (λhg=>oF J Ty.c11 J)<|b8 J (λhg=>oS (ct hg) J J Ty.a3 J)<|b8 J (λhg=>j2 (ct hg) J J)<|y0 J (n0 J J J (λq=>H0 q))<|yN ?_
    refine cN h (λhc h=>?_) λhc h=>?_
    ·refine S4 1 J ?_
     refine a7 ?_
     have h:=xL hx30 h
     cases h
     exact f1
    ·refine a8 ?_
     refine jq h (λ_=>St.of [(1,.ptr 1 0 0),(3,.I s33),(4,.ptr 4 0 0)] [(4,vR (l7.Pv v49) 3),(1,vR (c5.Pv a0) 8)]) (λq55 h=>?_) λκ54 h=>?_
     ·refine S3 4 J ?_
      refine cF h C4 J J λv56 _ h=>S2 6 J<|S3 4 J<|b8 J (λhg=>mI J)<|b8 J (λhg=>j2 (ct hg) J J)<|b8 J (λhg=>om (d:=.bool (v56.2 != 0)) (ct hg))<|b8 (m8 J J J) (λhg=>oF J Ty.b6V J)<|b8 (m8 J J J) (λhg=>oS (ct hg) J J Ty.a4 J)<|b8 (m8 J J J) (λhg=>S0 (ct hg) J)<|b8 J (λhg=>n0 (ct hg) J J (λq=>a1l hg (H0 q)))<|y0 J (k7 J J J (λq=>H2 q))<|S1 1 J<|b8 J (λhg=>oF J Ty.c10 J)<|b8 J (λhg=>oS (ct hg) J J Ty.a3 J)<|b8 J (λhg=>j2 (ct hg) J J)<|b8 J (λhg=>om (d:=.bool (v49.Kind==2)) (ct hg))<|b8 (m8 J J J) (λhg=>oF J Ty.b2A J)<|b8 (m8 J J J) (λhg=>oS (ct hg) J J Ty.a3 J)<|b8 (m8 J J J) (λhg=>j2 (ct hg) J J)<|b8 (m8 J J J) (λhg=>om (d:=.bool (decide (v49.At<0))) (ct hg))<|b8 (m8 J J J) (λhg=>oF J Ty.b2A J)<|b8 (m8 J J J) (λhg=>oS (ct hg) J J Ty.a3 J)<|b8 (m8 J J J) (λhg=>j2 (ct hg) J J)<|b8 (m8 J J J) (λhg=>n0 (ct hg) J J (λq=>a1l hg (H0 q)))<|b8 J (λhg=>k7 (ct hg) J J (λq=>a1l hg (H2 q)))<|y0 J (n0 J J J (λq=>H0 q))<|yN ?_
      refine cN h (λhc h=>?_) λhc h=>?_
      ·refine S4 1 J ?_
       refine a7 ?_
       have h:=xL hx30 h
       cases h
       exact f1
      ·refine a8 ?_
       exact eJ h W
     ·refine S4 1 J ?_
      refine c7<|lq h (λs58=>St.of [(1,.ptr 1 0 0),(3,.I s33),(4,.ptr 4 0 0),(5,.I s58)] [(4,vR (l7.Pv v49) 3),(1,vR (c5.Pv a0) 8)]) W λs58 x59 h hx52=>b9<|S4 3 J ?_
      refine cN h (λhc h=>?_) λhc h=>?_
      ·refine a8 ?_
       refine b9<|c7<|dr [] Ty.N3 (by kernel_rfl) (by kernel_rfl)<|S7 4 J<|n9 h λv60 hv53 h=>d0 J (p7 (f:=l7.Pv) (cs:=l7.Pc v60) hv53 J J Ty.e47 Ty.a8b J J) J<|S7 6 J<|o0 J (λhg _ hN=>oF J Ty.b4r J) J<|o0 J (λhg _ hN=>oF (ct hg) Ty.b6S J) J<|y8 J (λhg=>oS (ct hg) J J Ty.a47 J) J<|o0 J (λhg _ hN=>mI J) J<|y8 J (λhg=>p7 (f:=l7.Pv) (cs:=l7.Pc v60) hv53 (ct hg) (ct hg) Ty.e47 Ty.a8b J J) J<|o0 J (λhg _ hN=>A1 (ct hg) Ty.b2A J) J<|y8 J (λhg=>A8 (ct hg) Ty.a3 J) J<|o0 J (λhg _ hN=>oF J Ty.b2A J) J<|y8 J (λhg=>oS (ct hg) J J Ty.a3 J) J<|o0 J (λhg _ hN=>j2 (ct hg) (ct hg) J) J<|d7 J (λ_ hN=>k7 J J J (λq=>H2 q)) J<|L5 ?_
       refine cN h (λhc h=>?_) λhc h=>?_
       ·refine S4 1 J ?_
        refine a7 ?_
        have h:=xL hx52 h
        have h:=xL hx30 h
        cases h
        exact f1
       ·refine a8 ?_
        refine S6 3 J ?_
        exact eL h W
      ·refine j8 ?_
       refine b7<|b7<|c8 ?_
       have h:=xL hx52 h
       exact eJ h W
  ·refine j8 ?_
   refine b7<|b7<|c8 ?_
   have h:=xL hx30 h
   exact eJ h W

theorem Q9{a0 a1}:PO Tryz.prog 141 [c5.Pv a0,.I a1] (T4 a0 a1) λr=>.bool r:=by
 refine pO Tryz.func141 λr h _ _=>?_
 refine S4 2 J<|S3 3 J<|cF h C4 J J λv1 _ h=>S2 6 J<|S4 3 J<|a7 ?_
 cases h
 exact f1

theorem Y3{a0 a1}:PO Tryz.prog 125 [c5.Pv a0,.I a1] (T5 a0 a1) λr=>.bool r:=by
 refine pO Tryz.func125 λr h _ _=>?_
 unfold T5 at h
 refine S4 2 J<|S3 3 J<|b8 J (λhg=>oL J J J Ty.a51 Ty.X4 nl J)<|b8 J (λhg=>mI J)<|n9 h λv1 hv1 h=>b8 J (λhg=>w9 J Q9 (p5 (ct hg) (p5 (ct hg) J)) (A0 hv1 hg))<|y0 J (n0 J J J (λq=>H0 q))<|S2 1 J<|a7 ?_
 cases h
 exact f1

theorem b39{a0 a1}:PO Tryz.prog 79 [g6.Pv a0,.L iF a1] (a3c a0 a1) λr=>.L iF r:=by
 refine pO Tryz.func79 λr h _ _=>?_
 unfold a3c at h
 refine S4 2 J<|sR<|y0 J (A9 J Ty.w8 Ty.s3)<|S1 1 J<|n9 h λv1 hv1 h=>y1 J (a57 (f:=iF) hv1 J J (.inl ⟨_,J,J⟩) Ty.w8 Ty.s3 Ty.b3 Ty.z3 J (λ_=>J)) J<|S2 1 J ?_
 refine jq h (λj36=>St.of [(5,.sl 15)] [(15,⟨List.map iF j36,0,true,1,true⟩)]) (λj36 h=>?_) λκ35 h=>?_
 ·refine S4 2 J ?_
  refine a7 ?_
  cases h
  exact f1
 ·refine S4 1 J ?_
  refine c7<|lq h (λq=>St.of [(2,.ptr 2 0 0),(5,.sl 15),(6,.I q.1)] [(15,⟨List.map iF q.2,0,true,1,true⟩),(2,vR (g6.Pv a0) 3)]) W λq41 x40 h hx31=>?_
  obtain⟨s38,s39⟩:=q41
  refine b9<|S3 2 J<|y0 J (b7n (f:=iF) J J J Ty.w8)<|S2 1 J ?_
  refine cN h (λhc h=>?_) λhc h=>?_
  ·refine a8 ?_
   refine jq h (λj56=>St.of [(2,.ptr 2 0 0),(5,.sl 15),(6,.I s38)] [(15,⟨List.map iF j56,0,true,1,true⟩),(2,vR (g6.Pv a0) 3)]) (λj56 h=>?_) λκ55 h=>?_
   ·refine S6 3 J ?_
    exact eL h W
   ·refine c7 ?_
    refine S4 2 J<|c7<|lq h (λq=>St.of [(2,.ptr 2 0 0),(5,.sl 15),(6,.I s38),(7,.I q.1)] [(15,⟨List.map iF q.2,0,true,1,true⟩),(2,vR (g6.Pv a0) 3)]) W λq61 x60 h hx46=>?_
    obtain⟨s58,s59⟩:=q61
    refine b9<|S4 2 J ?_
    refine cN h (λhc h=>?_) λhc h=>?_
    ·refine a8 ?_
     refine b9<|c7<|dr [] Ty.N3 (by kernel_rfl) (by kernel_rfl)<|S7 1 J<|n9 h λv62 hv47 h=>d2f J (s7 J I1 J hv47) J<|S7 3 J<|n9 h λv63 hv48 h=>d0 J (Y9 (f:=iF) hv48 J J J J Ty.w8 Ty.s3 J) J<|d0 J (b2X (f:=iF) hv48 J J J Ty.a3 J) J<|n9 h λv64 hv49 h=>d2 J (w9 J P9 J hv49) J<|S8 5 J<|dr [] Ty.N3 (by kernel_rfl) (by kernel_rfl)<|S7 1 J<|d2f J (s7 J I1 J hv47) J<|S7 2 J<|n9 h λv65 hv50 h=>d0 J (Y9 (f:=iF) hv50 J J J J Ty.w8 Ty.s3 J) J<|d0 J (b2X (f:=iF) hv50 J J J Ty.a3 J) J<|n9 h λv66 hv51 h=>d2 J (w9 J P9 J hv51) J<|S8 5 J<|b9<|dr [] Ty.N3 (by kernel_rfl) (by kernel_rfl)<|S7 3 J<|o0 J (λhg _ hN=>mI J) J<|o0 J (λhg _ hN=>j2 (ct hg) J J) J<|d7 J (λ_ hN=>n0 J J J (λq=>H0 q)) J<|S7 1 J<|o0 J (λhg _ hN=>oF J Ty.a9h J) J<|y8 J (λhg=>oS (ct hg) J J Ty.a42 J) J<|o0 J (λhg _ hN=>mI J) J<|n9 h λv67 hv52 h=>y8 J (λhg=>p7 (f:=j1.Pv) (cs:=j1.Pc v67) (A0 hv52 hg) (ct hg) (ct hg) Ty.e42 Ty.a05 J J) J<|o0 J (λhg _ hN=>A1 (ct hg) Ty.a6v J) J<|o0 J (λhg _ hN=>A1 (ct hg) Ty.b6T J) J<|y8 J (λhg=>A8 (ct hg) Ty.a3 J) J<|o0 J (λhg _ hN=>oF J Ty.a9h J) J<|y8 J (λhg=>oS (ct hg) J J Ty.a42 J) J<|o0 J (λhg _ hN=>mI J) J<|n9 h λv68 hv53 h=>y8 J (λhg=>p7 (f:=j1.Pv) (cs:=j1.Pc v68) (A0 hv53 hg) (ct hg) (ct hg) Ty.e42 Ty.a05 J J) J<|o0 J (λhg _ hN=>A1 (ct hg) Ty.a6v J) J<|o0 J (λhg _ hN=>A1 (ct hg) Ty.b6T J) J<|y8 J (λhg=>A8 (ct hg) Ty.a3 J) J<|o0 J (λhg _ hN=>j2 (ct hg) (ct hg) J) J<|d7 J (λ_ hN=>n0 J J J (λq=>H0 q)) J<|L5 ?_
     refine cN h (λhc h=>?_) λhc h=>?_
     ·refine j8 ?_
      refine b7<|a88 (by decide)<|b7<|b7<|c8 ?_
      have h:=xL hx46 h
      exact eJ h W
     ·refine a8 ?_
      refine S3 2 J<|y0 J (Y9 (f:=iF) hv50 J J J J Ty.w8 Ty.s3 J)<|y0 J (b2X (f:=iF) hv50 J J J Ty.a3 J)<|S2 1 J<|S3 5 J<|y0 J (Y9 (f:=iF) hv48 J J J J Ty.w8 Ty.s3 J)<|y0 J (b2X (f:=iF) hv48 J J J Ty.a3 J)<|y0 J (Y9 (f:=iF) hv50 J J J J Ty.w8 Ty.s3 J)<|a3s (f:=iF) (v:=v63) hv50 J J (.inl J) Ty.s3<|yN<|S5 4 J<|n9 h λv69 hv54 h=>y0 J (Y9 (f:=iF) hv54 J J J J Ty.w8 Ty.s3 J)<|a3s (f:=iF) (v:=v65) hv54 J J (.inl J) Ty.s3<|yN<|S6 3 J ?_
      exact eL h W
    ·refine j8 ?_
     refine b7<|b7<|c8 ?_
     have h:=xL hx46 h
     exact eJ h W
  ·refine j8 ?_
   refine b7<|b7<|c8 ?_
   have h:=xL hx31 h
   exact eJ h W

theorem a3U{a0}:PO Tryz.prog 32 [g6.Pv a0] (a16 a0) λr=>.L iF r:=by
 refine pO Tryz.func32 λr h _ _=>?_
 refine S4 2 J<|sR<|y0 J (A9 J Ty.w8 Ty.s3)<|S2 1 J ?_
 refine jq h (λj15=>St.of [(1,.ptr 1 0 0),(3,.sl 910003)] [(910003,⟨List.map iF j15,(List.map iF j15).length,true,1,true⟩),(1,vR (g6.Pv a0) 3)]) (λj15 h=>?_) λκ14 h=>?_
 ·refine S3 2 J ?_
  obtain⟨v16,hv12,h⟩:=a6q h
  refine ycL J (s7 J b39 J hv12) J<|S2 1 J<|a7 ?_
  cases h
  exact f1
 ·refine S4 1 J ?_
  refine c7<|lq h (λq=>St.of [(1,.ptr 1 0 0),(3,.sl 910003),(4,.I q.1)] [(1,vR (g6.Pv a0) 3),(910003,⟨List.map iF q.2,(List.map iF q.2).length,true,1,true⟩)]) (Wk.trans (E1 (t:=3) (l:=920003) (z:=1) J J) (WP (λl=>if l=910003 then 920003 else l))) λq21 x20 h hx15=>?_
  obtain⟨s18,s19⟩:=q21
  refine b9<|S3 3 J<|nL J Ty.e42<|S2 1 J ?_
  refine cN h (λhc h=>?_) λhc h=>?_
  ·refine a8 ?_
   refine jq h (λj26=>St.of [(1,.ptr 1 0 0),(3,.sl 30),(4,.I s18)] [(30,⟨List.map iF j26,(List.map iF j26).length,true,1,true⟩),(1,vR (g6.Pv a0) 3)]) (λj26 h=>?_) λκ25 h=>?_
   ·refine S6 3 J ?_
    exact eL h (Wk.trans (k8 _ [30]) (WP (λl=>if l=910003 then 30 else l)))
   ·refine c7 ?_
    refine S3 3 J<|iL h J J Ty.e42 Ty.a05 λv27 hv20 h=>S2 3 J ?_
    refine cN h (λhc h=>?_) λhc h=>?_
    ·refine S5 5 J ?_
     refine y0 J (p7 (f:=j1.Pv) (cs:=j1.Pc v27) hv20 J J Ty.e42 Ty.a05 J J)<|S1 2 J<|cA h a3S J J λv28 _ h=>y0 J (L1 (f:=iF) (l:=[v28]) J Ty.w8 Ty.s3 Ty.z3 J J nl J J)<|n9 h λv29 hv22 h=>I9 J (F4 (f:=iF) hv22 J J J J J J (.inl ⟨_,J,J⟩) Ty.w8 Ty.s3 Ty.b3 Ty.z3 J (λ_=>J)) J J J<|S2 1 J ?_
     exact eJ h (Wk.trans (k8 _ [30]) W)
    ·refine a8 ?_
     exact eJ h (Wk.trans (k8 _ [910003]) (WP (λl=>if l=30 then 910003 else l)))
  ·refine j8 ?_
   refine b7<|b7<|c8 ?_
   have h:=xL hx15 h
   exact eJ h (Wk.trans (k8 _ [910003]) W)

theorem b7B{a0}:PO Tryz.prog 222 [.L g5.Pv a0] (a9V a0) λr=>.L iF r:=by
 refine pO Tryz.func222 λr h _ _=>?_
 refine S4 1 J<|sR<|y0 J (A9 J Ty.w8 Ty.s3)<|S2 1 J ?_
 refine jq h (λj13=>St.of [(3,.sl 910003)] [(910003,⟨List.map iF j13,(List.map iF j13).length,true,1,true⟩)]) (λj13 h=>?_) λκ12 h=>?_
 ·refine S4 2 J ?_
  refine a7 ?_
  cases h
  exact f1
 ·refine S4 1 J ?_
  refine c7<|lq h (λq=>St.of [(0,.L g5.Pv a0),(3,.sl 910003),(4,.I q.1)] [(910003,⟨List.map iF q.2,(List.map iF q.2).length,true,1,true⟩)]) (Wk.trans (E1 (t:=3) (l:=920003) (z:=1) J J) (WP (λl=>if l=910003 then 920003 else l))) λq18 x17 h hx12=>?_
  obtain⟨s15,s16⟩:=q18
  refine b9<|S3 2 J<|nL J Ty.e46<|S2 1 J ?_
  refine cN h (λhc h=>?_) λhc h=>?_
  ·refine a8 ?_
   refine jq h (λj22=>St.of [(0,.L g5.Pv a0),(3,.sl 25),(4,.I s15)] [(25,⟨List.map iF j22,(List.map iF j22).length,true,1,true⟩)]) (λj22 h=>?_) λκ21 h=>?_
   ·refine S6 3 J ?_
    exact eL h (Wk.trans (k8 _ [25]) (WP (λl=>if l=910003 then 25 else l)))
   ·refine c7 ?_
    refine S3 2 J<|iL h J J Ty.e46 Ty.a6h λv23 hv16 h=>S2 3 J ?_
    refine cN h (λhc h=>?_) λhc h=>?_
    ·refine S5 3 J ?_
     refine y0 J (p7 (f:=g5.Pv) (cs:=g5.Pc v23) hv16 J J Ty.e46 Ty.a6h J J)<|S1 2 J<|y0 J (L1 (f:=iF) (l:=[v23.Key]) J Ty.w8 Ty.s3 Ty.z3 J J nl J J)<|n9 h λv24 hv17 h=>I9 J (F4 (f:=iF) hv17 J J J J J J (.inl ⟨_,J,J⟩) Ty.w8 Ty.s3 Ty.b3 Ty.z3 J (λ_=>J)) J J J<|S2 1 J ?_
     exact eJ h (Wk.trans (k8 _ [25]) W)
    ·refine a8 ?_
     exact eJ h (Wk.trans (k8 _ [910003]) (WP (λl=>if l=25 then 910003 else l)))
  ·refine j8 ?_
   refine b7<|b7<|c8 ?_
   have h:=xL hx12 h
   exact eJ h (Wk.trans (k8 _ [910003]) W)

theorem a8R{a0 a1}:PO Tryz.prog 221 [.L g5.Pv a0,.I a1] (a7z a0 a1) λr=>.tup [.I r.1,.I r.2]:=by
 refine pO Tryz.func221 λr h _ _=>?_
 refine S4 2 J<|S3 2 J<|cA h a3V J J λv1 _ h=>S2 1 J<|b9<|S4 2 J ?_
 refine cN h (λhc h=>?_) λhc h=>?_
 ·refine S4 2 J ?_
  refine a7 ?_
  cases h
  exact f2
 ·refine a8 ?_
  refine S3 2 J<|iL h J J Ty.e46 Ty.a6h λv2 _ h=>S2 4 J<|a7 ?_
  cases h
  exact f2

theorem a9Y{a0}:PO Tryz.prog 140 [.L g5.Pv a0] (a4K a0) λr=>.L B3.Pv r:=by
 refine pO Tryz.func140 λr h _ _=>?_
 refine S4 1 J<|sR<|y0 J (A9 J Ty.b6O Ty.c1a)<|S2 1 J<|S3 1 J<|cF h b7B J J λv1 _ h=>S2 1 J ?_
 refine jq h (λj11=>St.of [(3,.sl 910003)] [(910003,⟨List.map B3.Pv j11,(List.map B3.Pv j11).length,true,2,true⟩)]) (λj11 h=>?_) λκ10 h=>?_
 ·refine S4 2 J ?_
  refine a7 ?_
  cases h
  exact f1
 ·refine S4 1 J ?_
  refine c7<|lq h (λq=>St.of [(0,.L g5.Pv a0),(3,.sl 910003),(4,.L iF v1),(5,.I q.1)] [(910003,⟨List.map B3.Pv q.2,(List.map B3.Pv q.2).length,true,2,true⟩)]) (Wk.trans (E1 (t:=3) (l:=920003) (z:=2) J J) (WP (λl=>if l=910003 then 920003 else l))) λq16 x15 h hx11=>?_
  obtain⟨s13,s14⟩:=q16
  refine b9<|S3 2 J<|nL J Ty.w8<|S2 1 J ?_
  refine cN h (λhc h=>?_) λhc h=>?_
  ·refine a8 ?_
   refine b9<|c7<|S3 3 J<|iL h J J Ty.w8 Ty.s3 λv17 hv12 h=>S1 1 J<|cA h a8R J J λv18 _ h=>S2 5 J<|S5 3 J<|y0 J (p7 (f:=iF) (cs:=[.I v17]) hv12 J J Ty.w8 Ty.s3 J J)<|S1 2 J<|y0 J (l4 (cs:=[.I v17,.I v18.1]) J Ty.d0l Ty.c7X J J J)<|y0 J (L1 (f:=B3.Pv) (l:=[(⟨v17,v18.1⟩:B3)]) J Ty.b6O Ty.c1a Ty.c7X J J nl J J)<|n9 h λv19 hv14 h=>I9 J (F4 (f:=B3.Pv) hv14 J J J J J J (.inl ⟨_,J,J⟩) Ty.b6O Ty.c1a Ty.c9L Ty.c7X J (λ_=>J)) J J J<|S2 1 J<|S6 3 J ?_
   exact eL h (Wk.trans (k8 _ [34]) (WP (λl=>if l=910003 then 34 else l)))
  ·refine j8 ?_
   refine b7<|b7<|c8 ?_
   have h:=xL hx11 h
   exact eJ h (Wk.trans (k8 _ [910003]) W)

theorem b5Q{a0}:PO Tryz.prog 71 [c5.Pv a0] (a7G a0) λr=>.bool r:=by
 refine pO Tryz.func71 λr h _ _=>?_
 refine S4 2 J ?_
 refine jq h (λ_=>St.of [(1,.ptr 1 0 0)] [(1,vR (c5.Pv a0) 8)]) (λq7 h=>?_) λκ6 h=>?_
 ·refine S3 2 J ?_
  refine cF h a3U J J λv8 _ h=>S2 1 J ?_
  refine jq h (λ_=>St.of [(1,.ptr 1 0 0)] [(1,vR (c5.Pv a0) 8)]) (λq29 h=>?_) λκ28 h=>?_
  ·refine S3 2 J ?_
   refine cF h a9Y J J λv30 _ h=>S2 1 J ?_
   refine jq h (λ_=>St.of [] []) (λq38 h=>?_) λκ37 h=>?_
   ·refine S4 1 J ?_
    refine a7 ?_
    cases h
    exact f1
   ·refine S4 1 J ?_
    refine c7<|lq h (λs40=>St.of [(1,.ptr 1 0 0),(9,.L B3.Pv v30),(10,.I s40)] [(1,vR (c5.Pv a0) 8)]) W λs40 x41 h hx37=>b9<|S3 2 J<|nL J Ty.b6O<|S2 1 J ?_
    refine cN h (λhc h=>?_) λhc h=>?_
    ·refine a8 ?_
     refine b9<|c7<|dr [] Ty.N3 (by kernel_rfl) (by kernel_rfl)<|S7 3 J<|n9 h λv42 hv38 h=>d0 J (p7 (f:=B3.Pv) (cs:=B3.Pc v42) hv38 J J Ty.b6O Ty.c1a J J) J<|S7 2 J<|n9 h λv43 hv39 h=>d2 J (w9 J Q9 J hv39) J<|S7 2 J<|y8 J (λhg=>oL J J J Ty.a51 Ty.X4 nl J) J<|o0 J (λhg _ hN=>om (d:=.L B3.Pv v30) J) J<|o0 J (λhg _ hN=>mI J) J<|y8 J (λhg=>p7 (f:=B3.Pv) (cs:=B3.Pc v42) hv38 (ct hg) (ct hg) Ty.b6O Ty.c1a J J) J<|o0 J (λhg _ hN=>A1 (ct hg) Ty.c6H J) J<|y8 J (λhg=>A8 (ct hg) Ty.a3 J) J<|n9 h λv44 hv40 h=>a1W J (λhg=>w9 J Q9 (p5 (ct hg) (p5 (ct hg) J)) (A0 hv40 hg)) J<|o0 J (λhg _ hN=>S0 (ct hg) J) J<|d7 J (λ_ hN=>n0 J J J (λq=>H0 q)) J<|L5 ?_
     refine cN h (λhc h=>?_) λhc h=>?_
     ·refine S4 1 J ?_
      refine a7 ?_
      have h:=xL hx37 h
      cases h
      exact f1
     ·refine a8 ?_
      refine S6 3 J ?_
      exact eL h W
    ·refine j8 ?_
     refine b7<|b7<|c8 ?_
     have h:=xL hx37 h
     exact eJ h W
  ·refine S4 1 J ?_
   refine c7<|lq h (λs46=>St.of [(1,.ptr 1 0 0),(4,.L iF v8),(5,.I s46)] [(1,vR (c5.Pv a0) 8)]) W λs46 x47 h hx43=>b9<|S3 2 J<|nL J Ty.w8<|S2 1 J ?_
   refine cN h (λhc h=>?_) λhc h=>?_
   ·refine a8 ?_
    refine jq h (λ_=>St.of [(1,.ptr 1 0 0),(4,.L iF v8),(5,.I s46)] [(1,vR (c5.Pv a0) 8)]) (λq56 h=>?_) λκ55 h=>?_
    ·refine S6 3 J ?_
     exact eL h W
    ·refine c7 ?_
     refine dr [] Ty.N3 (by kernel_rfl) (by kernel_rfl)<|S7 4 J<|n9 h λv57 hv52 h=>d0 J (p7 (f:=iF) (cs:=[.I v57]) hv52 J J Ty.w8 Ty.s3 J J) J<|S7 1 J<|n9 h λv58 hv53 h=>d2f J (s7 J C4 J hv53) J<|S7 4 J<|G9 (x':=y4.Pv v58.1) (cl':=true) J J (.inr J) Ty.s78<|S8 1 J<|S4 1 J<|c7<|lq h (λs60=>St.of [(1,.ptr 1 0 0),(4,.L iF v8),(5,.I s46),(6,.ptr 6 0 0),(8,.I s60)] [(6,vR (y4.Pv v58.1) 6),(1,vR (c5.Pv a0) 8)]) W λs60 x61 h hx56=>b9<|S3 3 J<|nL J Ty.w8<|S2 1 J ?_
     refine cN h (λhc h=>?_) λhc h=>?_
     ·refine a8 ?_
      refine b9<|c7<|dr [] Ty.N3 (by kernel_rfl) (by kernel_rfl)<|S7 4 J<|n9 h λv62 hv57 h=>d0 J (p7 (f:=iF) (cs:=[.I v62]) hv57 J J Ty.w8 Ty.s3 J J) J<|S7 1 J<|n9 h λv63 hv58 h=>d2 J (w9 J Y3 J hv58) J<|S8 1 J ?_
      refine cN h (λhc h=>?_) λhc h=>?_
      ·refine S4 1 J ?_
       refine a7 ?_
       have h:=xL hx56 h
       have h:=xL hx43 h
       cases h
       exact f1
      ·refine a8 ?_
       refine S6 3 J ?_
       exact eL h W
     ·refine j8 ?_
      refine b7<|b7<|c8 ?_
      have h:=xL hx56 h
      exact eJ h W
   ·refine j8 ?_
    refine b7<|b7<|c8 ?_
    have h:=xL hx43 h
    exact eJ h W
 ·refine S4 1 J ?_
  refine c7<|lq h (λs65=>St.of [(1,.ptr 1 0 0),(3,.I s65)] [(1,vR (c5.Pv a0) 8)]) W λs65 x66 h hx61=>b9<|S3 3 J<|nL J Ty.w8<|S2 1 J ?_
  refine cN h (λhc h=>?_) λhc h=>?_
  ·refine a8 ?_
   refine b9<|c7<|dr [] Ty.N3 (by kernel_rfl) (by kernel_rfl)<|S7 4 J<|n9 h λv67 hv62 h=>d0 J (p7 (f:=iF) (cs:=[.I v67]) hv62 J J Ty.w8 Ty.s3 J J) J<|S7 1 J<|n9 h λv68 hv63 h=>d2 J (w9 J Y3 J hv63) J<|S8 1 J ?_
   refine cN h (λhc h=>?_) λhc h=>?_
   ·refine S4 1 J ?_
    refine a7 ?_
    have h:=xL hx61 h
    cases h
    exact f1
   ·refine a8 ?_
    refine S6 3 J ?_
    exact eL h W
  ·refine j8 ?_
   refine b7<|b7<|c8 ?_
   have h:=xL hx61 h
   exact eJ h W

theorem a92{a0 a1}:PO Tryz.prog 143 [p6.Pv a0,.I a1] (a1A a0 a1) λr=>.bool r:=by
 refine pO Tryz.func143 λr h _ _=>?_
 refine S4 2 J ?_
 refine jq h (λ_=>St.of [] []) (λq6 h=>?_) λκ5 h=>?_
 ·refine S4 1 J ?_
  refine a7 ?_
  cases h
  exact f1
 ·refine S4 1 J ?_
  refine c7<|lq h (λs8=>St.of [(1,.I a1),(2,.ptr 2 0 0),(5,.I s8)] [(2,vR (p6.Pv a0) 2)]) W λs8 x9 h hx8=>b9<|S3 3 J<|nL J Ty.e47<|S2 1 J ?_
  refine cN h (λhc h=>?_) λhc h=>?_
  ·refine a8 ?_
   refine b9<|c7<|S3 3 J<|iL h J J Ty.e47 Ty.a8b λv10 hv9 h=>S1 4 J<|b8 J (λhg=>oF J Ty.b6S J)<|b8 J (λhg=>oS (ct hg) J J Ty.a47 J)<|b8 J (λhg=>mI J)<|b8 J (λhg=>p7 (f:=l7.Pv) (cs:=l7.Pc v10) hv9 (ct hg) (ct hg) Ty.e47 Ty.a8b J J)<|b8 J (λhg=>A1 (ct hg) Ty.b2A J)<|b8 J (λhg=>A8 (ct hg) Ty.a3 J)<|b8 J (λhg=>mI J)<|b8 J (λhg=>j2 (ct hg) (ct hg) J)<|y0 J (k7 J J J (λq=>H2 q))<|yN ?_
   refine cN h (λhc h=>?_) λhc h=>?_
   ·refine S4 1 J ?_
    refine a7 ?_
    have h:=xL hx8 h
    cases h
    exact f1
   ·refine a8 ?_
    refine S6 3 J ?_
    exact eL h W
  ·refine j8 ?_
   refine b7<|b7<|c8 ?_
   have h:=xL hx8 h
   exact eJ h W

theorem b5P{a0}:PO Tryz.prog 72 [c5.Pv a0] (a7F a0) λr=>.bool r:=by
 refine pO Tryz.func72 λr h _ _=>?_
 refine S4 2 J ?_
 refine jq h (λ_=>St.of [] []) (λq10 h=>?_) λκ9 h=>?_
 ·refine S4 1 J ?_
  refine a7 ?_
  cases h
  exact f1
 ·refine S4 1 J ?_
  refine c7<|lq h (λs12=>St.of [(1,.ptr 1 0 0),(3,.I s12)] [(1,vR (c5.Pv a0) 8)]) W λs12 x13 h hx12=>b9<|S3 3 J<|nL J Ty.e45<|S2 1 J ?_
  refine cN h (λhc h=>?_) λhc h=>?_
  ·refine a8 ?_
   refine b9<|c7<|S3 3 J<|iL h J J Ty.e45 Ty.a4R λv14 _ h=>S2 3 J<|dr [] Ty.N3 (by kernel_rfl) (by kernel_rfl)<|S7 2 J<|n9 h λv15 hv14 h=>d2f J (s7 J I1 J hv14) J<|S7 2 J<|n9 h λv16 hv15 h=>d2 J (w9 J P9 J hv15) J<|S8 5 J<|S3 4 J<|b8 J (λhg=>oF J Ty.c6E J)<|b8 J (λhg=>oS (ct hg) J J Ty.a3 J)<|b8 J (λhg=>j2 (ct hg) J J)<|y0 J (n0 J J J (λq=>H0 q))<|S1 1 J<|b8 J (λhg=>oF J Ty.b5b J)<|b8 J (λhg=>oS (ct hg) J J Ty.a3 J)<|b8 J (λhg=>j2 (ct hg) J J)<|b8 J (λhg=>om (d:=.bool (v14.Target==0)) (ct hg))<|b8 (m8 J J J) (λhg=>oF J Ty.b8s J)<|b8 (m8 J J J) (λhg=>oS (ct hg) J J Ty.a4 J)<|b8 J (λhg=>k7 (ct hg) J J (λq=>a1l hg (H2 q)))<|y0 J (n0 J J J (λq=>H0 q))<|S1 1 J<|b8 J (λhg=>oF J Ty.b5b J)<|b8 J (λhg=>oS (ct hg) J J Ty.a3 J)<|b8 J (λhg=>j2 (ct hg) J J)<|b8 J (λhg=>om (d:=.bool (v14.Target != 0)) (ct hg))<|b8 (m8 J J J) (λhg=>mI J)<|b8 (m8 J J J) (λhg=>j2 (ct hg) J J)<|b8 J (λhg=>k7 (ct hg) J J (λq=>a1l hg (H2 q)))<|y0 J (n0 J J J (λq=>H0 q))<|S1 1 J<|b8 J (λhg=>oF J Ty.b8s J)<|b8 J (λhg=>oS (ct hg) J J Ty.a4 J)<|b8 J (λhg=>om (d:=.bool v14.Intact) (ct hg))<|b8 (m8 J J J) (λhg=>oL J J J Ty.a51 Ty.X4 nl J) ?_
   refine b8 (m8 J J J) (λhg=>oF J Ty.b5b J)<|b8 (m8 J J J) (λhg=>oS (ct hg) J J Ty.a3 J)<|n9 h λv17 hv16 h=>b8 (m8 J J J) (λhg=>w9 J Q9 (p5 (ct hg) (p5 (ct hg) J)) (A0 hv16 hg))<|b8 (m8 J J J) (λhg=>S0 (ct hg) J)<|b8 (m8 J J J) (λhg=>om (d:=.bool (!v17)) (ct hg))<|b8 (m8 J J J) (λhg=>oF J Ty.b4r J)<|b8 (m8 J J J) (λhg=>oL (ct hg) J J Ty.a49 Ty.s49 nl J)<|b8 (m8 J J J) (λhg=>mI J)<|n9 h λv18 hv17 h=>b8 (m8 J J J) (λhg=>w9 J a92 (p5 (ct hg) (p5 (ct hg) J)) (A0 hv17 hg))<|b8 (m8 J J J) (λhg=>n0 (ct hg) J J (λq=>a1l hg (H0 q)))<|b8 J (λhg=>k7 (ct hg) J J (λq=>a1l hg (H2 q)))<|y0 J (n0 J J J (λq=>H0 q))<|yN ?_
   refine cN h (λhc h=>?_) λhc h=>?_
   ·refine S4 1 J ?_
    refine a7 ?_
    have h:=xL hx12 h
    cases h
    exact f1
   ·refine a8 ?_
    refine S6 3 J ?_
    exact eL h W
  ·refine j8 ?_
   refine b7<|b7<|c8 ?_
   have h:=xL hx12 h
   exact eJ h W

theorem b38{a0 a1}:PO Tryz.prog 144 [.I a0,.I a1] (a8Q a0 a1) λr=>.I r:=by
 refine pO Tryz.func144 λr h _ _=>?_
 refine S4 1 J<|S3 2 J<|cA h a3S J J λv1 _ h=>S2 1 J<|a7 ?_
 cases h
 exact f1

theorem b4a{a0 a1}:PO Tryz.prog 145 [.L g8.Pv a0,.I a1] (a5y a0 a1) λr=>.I r:=by
 refine pO Tryz.func145 λr h _ _=>?_
 refine S4 1 J<|S4 1 J ?_
 refine jq h (λj11=>St.of [(5,.I j11)] []) (λj11 h=>?_) λκ10 h=>?_
 ·refine S4 2 J ?_
  refine a7 ?_
  cases h
  exact f1
 ·refine S4 1 J ?_
  refine c7<|lq h (λq=>St.of [(0,.L g8.Pv a0),(1,.I a1),(5,.I q.1),(6,.I q.2)] []) W λq16 x15 h hx10=>?_
  obtain⟨s13,s14⟩:=q16
  refine b9<|S3 2 J<|nL J Ty.e45<|S2 1 J ?_
  refine cN h (λhc h=>?_) λhc h=>?_
  ·refine a8 ?_
   refine jq h (λj19=>St.of [(0,.L g8.Pv a0),(1,.I a1),(5,.I j19),(6,.I s14)] []) (λj19 h=>?_) λκ18 h=>?_
   ·refine S6 3 J ?_
    exact eL h W
   ·refine c7 ?_
    refine S3 2 J<|iL h J J Ty.e45 Ty.a4R λv20 _ h=>S1 5 J<|b8 J (λhg=>mI J)<|b8 J (λhg=>j2 (ct hg) J J)<|y0 J (k7 J J J (λq=>H2 q))<|yN ?_
    refine cN h (λhc h=>?_) λhc h=>?_
    ·refine S6 3 J ?_
     exact eJ h W
    ·refine a8 ?_
     exact eJ h W
  ·refine j8 ?_
   refine b7<|b7<|c8 ?_
   have h:=xL hx10 h
   exact eJ h W

theorem b5S{a0}:PO Tryz.prog 73 [c5.Pv a0] (a7I a0) λr=>.bool r:=by
 refine pO Tryz.func73 λr h _ _=>?_
 refine S4 2 J ?_
 refine jq h (λ_=>St.of [] []) (λq13 h=>?_) λκ12 h=>?_
 ·refine S4 1 J ?_
  refine a7 ?_
  cases h
  exact f1
 ·refine S4 1 J ?_
  refine c7<|lq h (λs15=>St.of [(1,.ptr 1 0 0),(3,.I s15)] [(1,vR (c5.Pv a0) 8)]) W λs15 x16 h hx14=>b9<|S3 4 J<|nL J Ty.e42<|S2 1 J ?_
  refine cN h (λhc h=>?_) λhc h=>?_
  ·refine a8 ?_
   refine jq h (λ_=>St.of [(1,.ptr 1 0 0),(3,.I s15)] [(1,vR (c5.Pv a0) 8)]) (λq21 h=>?_) λκ20 h=>?_
   ·refine S6 3 J ?_
    exact eL h W
   ·refine c7 ?_
    refine S3 4 J<|iL h J J Ty.e42 Ty.a05 λv22 _ h=>S2 3 J<|b9<|S3 4 J<|b8 J (λhg=>oF J Ty.b8q J)<|b8 J (λhg=>oS (ct hg) J J Ty.a3 J)<|b8 J (λhg=>j2 (ct hg) J J)<|y0 J (k7 J J J (λq=>H2 q))<|yN ?_
    refine cN h (λhc h=>?_) λhc h=>?_
    ·refine j8 ?_
     refine b7<|c8 ?_
     exact eJ h W
    ·refine a8 ?_
     refine S3 3 J<|cA h b38 J J λv23 _ h=>S2 1 J<|dr [] Ty.N3 (by kernel_rfl) (by kernel_rfl)<|S7 6 J<|n9 h λv24 hv21 h=>d2 J (w9 J b4a J hv21) J<|S7 2 J<|o0 J (λhg _ hN=>oF J Ty.b8q J) J<|y8 J (λhg=>oS (ct hg) J J Ty.a3 J) J<|o0 J (λhg _ hN=>j2 (ct hg) J J) J<|o0 J (λhg _ hN=>om (d:=.bool (v22.State==2)) (ct hg)) J<|o0 (m8 J J J) (λhg _ hN=>oF J Ty.a6v J) J<|o0 (m8 J J J) (λhg _ hN=>oF (ct hg) Ty.b4s J) J<|y8 (m8 J J J) (λhg=>oS (ct hg) J J Ty.a3 J) J<|o0 (m8 J J J) (λhg _ hN=>j2 (ct hg) J J) J<|o0 (m8 J J J) (λhg _ hN=>om (d:=.bool (decide (v22.Val.Weak<1))) (ct hg)) J<|o0 (m8 J J J) (λhg _ hN=>oF J Ty.a6v J) J<|o0 (m8 J J J) (λhg _ hN=>oF (ct hg) Ty.b6W J) J<|y8 (m8 J J J) (λhg=>oS (ct hg) J J Ty.a27 J) J<|y8 (m8 J J J) (λhg=>H7 (f:=iF) (ct hg) Ty.w8) J<|o0 (m8 J J J) (λhg _ hN=>j2 (ct hg) J J) J<|o0 (m8 J J J) (λhg _ hN=>n0 (ct hg) J J (λq=>a1l hg (H0 q))) J<|o0 (m8 J J J) (λhg _ hN=>om (d:=.bool ((decide (v22.Val.Weak<1))||(decide ((v22.Val.Fields.length:Int) > 0)))) (ct hg)) J<|o0 (m8 J J J) (λhg _ hN=>oF J Ty.a6v J) J<|o0 (m8 J J J) (λhg _ hN=>oF (ct hg) Ty.b6U J) J<|y8 (m8 J J J) (λhg=>oS (ct hg) J J Ty.a3 J) J<|o0 (m8 J J J) (λhg _ hN=>j2 (ct hg) J J) J<|o0 (m8 J J J) (λhg _ hN=>n0 (ct hg) J J (λq=>a1l hg (H0 q))) J<|o0 J (λhg _ hN=>k7 (ct hg) J J (λq=>a1l hg (H2 q))) J<|d7 J (λ_ hN=>n0 J J J (λq=>H0 q)) J<|L5 ?_
     refine cN h (λhc h=>?_) λhc h=>?_
     ·refine S4 1 J ?_
      refine a7 ?_
      have h:=xL hx14 h
      cases h
      exact f1
     ·refine a8 ?_
      exact eJ h W
  ·refine j8 ?_
   refine b7<|b7<|c8 ?_
   have h:=xL hx14 h
   exact eJ h W

theorem b7F{a0}:PO Tryz.prog 77 [p6.Pv a0] (a6P a0) λr=>.L iF r:=by
 refine pO Tryz.func77 λr h _ _=>?_
 refine S4 2 J<|sR<|y0 J (A9 J Ty.w8 Ty.s3)<|S2 1 J ?_
 refine jq h (λj13=>St.of [(3,.sl 910003)] [(910003,⟨List.map iF j13,(List.map iF j13).length,true,1,true⟩)]) (λj13 h=>?_) λκ12 h=>?_
 ·refine S4 2 J ?_
  refine a7 ?_
  cases h
  exact f1
 ·refine S4 1 J ?_
  refine c7<|lq h (λq=>St.of [(1,.ptr 1 0 0),(3,.sl 910003),(4,.I q.1)] [(1,vR (p6.Pv a0) 2),(910003,⟨List.map iF q.2,(List.map iF q.2).length,true,1,true⟩)]) (Wk.trans (E1 (t:=3) (l:=920003) (z:=1) J J) (WP (λl=>if l=910003 then 920003 else l))) λq18 x17 h hx12=>?_
  obtain⟨s15,s16⟩:=q18
  refine b9<|S3 3 J<|nL J Ty.e47<|S2 1 J ?_
  refine cN h (λhc h=>?_) λhc h=>?_
  ·refine a8 ?_
   refine jq h (λj22=>St.of [(1,.ptr 1 0 0),(3,.sl 28),(4,.I s15)] [(28,⟨List.map iF j22,(List.map iF j22).length,true,1,true⟩),(1,vR (p6.Pv a0) 2)]) (λj22 h=>?_) λκ21 h=>?_
   ·refine S6 3 J ?_
    exact eL h (Wk.trans (k8 _ [28]) (WP (λl=>if l=910003 then 28 else l)))
   ·refine c7 ?_
    refine S3 3 J<|iL h J J Ty.e47 Ty.a8b λv23 hv16 h=>S2 3 J ?_
    refine cN h (λhc h=>?_) λhc h=>?_
    ·refine S5 4 J ?_
     refine y0 J (p7 (f:=l7.Pv) (cs:=l7.Pc v23) hv16 J J Ty.e47 Ty.a8b J J)<|S1 2 J<|y0 J (L1 (f:=iF) (l:=[v23.At]) J Ty.w8 Ty.s3 Ty.z3 J J nl J J)<|n9 h λv24 hv17 h=>I9 J (F4 (f:=iF) hv17 J J J J J J (.inl ⟨_,J,J⟩) Ty.w8 Ty.s3 Ty.b3 Ty.z3 J (λ_=>J)) J J J<|S2 1 J ?_
     exact eJ h (Wk.trans (k8 _ [28]) W)
    ·refine a8 ?_
     exact eJ h (Wk.trans (k8 _ [910003]) (WP (λl=>if l=28 then 910003 else l)))
  ·refine j8 ?_
   refine b7<|b7<|c8 ?_
   have h:=xL hx12 h
   exact eJ h (Wk.trans (k8 _ [910003]) W)

theorem b5O{a0}:PO Tryz.prog 31 [c5.Pv a0] (a7E a0) λr=>.L iF r:=by
 refine pO Tryz.func31 λr h _ _=>?_
 refine S4 2 J<|sR<|y0 J (A9 J Ty.w8 Ty.s3)<|S2 1 J ?_
 refine jq h (λj13=>St.of [(1,.ptr 1 0 0),(3,.sl 910003)] [(910003,⟨List.map iF j13,(List.map iF j13).length,true,1,true⟩),(1,vR (c5.Pv a0) 8)]) (λj13 h=>?_) λκ12 h=>?_
 ·refine S3 3 J ?_
  refine cF h b7F J J λv14 _ h=>n9 h λv15 hv11 h=>I9 J (F4 (f:=iF) hv11 J J J J J J (.inl ⟨_,J,J⟩) Ty.w8 Ty.s3 Ty.b3 Ty.z3 J (λ_=>J)) J J J<|S2 1 J<|a7 ?_
  cases h
  exact f1
 ·refine S4 1 J ?_
  refine c7<|lq h (λq=>St.of [(1,.ptr 1 0 0),(3,.sl 910003),(4,.I q.1)] [(1,vR (c5.Pv a0) 8),(910003,⟨List.map iF q.2,(List.map iF q.2).length,true,1,true⟩)]) (Wk.trans (E1 (t:=3) (l:=920003) (z:=1) J J) (WP (λl=>if l=910003 then 920003 else l))) λq20 x19 h hx14=>?_
  obtain⟨s17,s18⟩:=q20
  refine b9<|S3 3 J<|nL J Ty.w8<|S2 1 J ?_
  refine cN h (λhc h=>?_) λhc h=>?_
  ·refine a8 ?_
   refine jq h (λj24=>St.of [(1,.ptr 1 0 0),(3,.sl 26),(4,.I s17)] [(26,⟨List.map iF j24,(List.map iF j24).length,true,1,true⟩),(1,vR (c5.Pv a0) 8)]) (λj24 h=>?_) λκ23 h=>?_
   ·refine S6 3 J ?_
    exact eL h (Wk.trans (k8 _ [26]) (WP (λl=>if l=910003 then 26 else l)))
   ·refine c7 ?_
    refine S3 3 J<|iL h J J Ty.w8 Ty.s3 λv25 hv18 h=>S2 2 J ?_
    refine cN h (λhc h=>?_) λhc h=>?_
    ·refine S5 4 J ?_
     refine y0 J (p7 (f:=iF) (cs:=[.I v25]) hv18 J J Ty.w8 Ty.s3 J J)<|S1 1 J<|y0 J (L1 (f:=iF) (l:=[v25]) J Ty.w8 Ty.s3 Ty.z3 J J nl J J)<|n9 h λv26 hv19 h=>I9 J (F4 (f:=iF) hv19 J J J J J J (.inl ⟨_,J,J⟩) Ty.w8 Ty.s3 Ty.b3 Ty.z3 J (λ_=>J)) J J J<|S2 1 J ?_
     exact eJ h (Wk.trans (k8 _ [26]) W)
    ·refine a8 ?_
     exact eJ h (Wk.trans (k8 _ [910003]) (WP (λl=>if l=26 then 910003 else l)))
  ·refine j8 ?_
   refine b7<|b7<|c8 ?_
   have h:=xL hx14 h
   exact eJ h (Wk.trans (k8 _ [910003]) W)

theorem a5x{a0}:PO Tryz.prog 224 [.I a0] (Y2 a0) λr=>.bool r:=by
 refine pO Tryz.func224 λr h _ _=>?_
 unfold Y2 at h
 refine S4 1 J<|S4 3 J<|a7 ?_
 cases h
 exact f1

theorem b5M{a0 a1}:PO Tryz.prog 146 [g6.Pv a0,.I a1] (a7D a0 a1) λr=>.bool r:=by
 refine pO Tryz.func146 λr h _ _=>?_
 refine S4 2 J<|S3 2 J<|cF h C4 J J λv1 _ h=>S2 6 J<|S3 2 J<|cA h a5x J J λv2 _ h=>S2 1 J<|a7 ?_
 cases h
 exact f1

theorem a9N{a0}:PO Tryz.prog 212 [.L iF a0] (a1x a0) λr=>.L iF r:=by
 refine pO Tryz.func212 λr h _ _=>?_
 refine S4 1 J<|sR<|y0 J (A9 J Ty.w8 Ty.s3)<|S2 1 J ?_
 refine jq h (λj13=>St.of [(3,.sl 910003)] [(910003,⟨List.map iF j13,(List.map iF j13).length,true,1,true⟩)]) (λj13 h=>?_) λκ12 h=>?_
 ·refine S4 2 J ?_
  refine a7 ?_
  cases h
  exact f1
 ·refine S4 1 J ?_
  refine c7<|lq h (λq=>St.of [(0,.L iF a0),(3,.sl 910003),(4,.I q.1)] [(910003,⟨List.map iF q.2,(List.map iF q.2).length,true,1,true⟩)]) (Wk.trans (E1 (t:=3) (l:=920003) (z:=1) J J) (WP (λl=>if l=910003 then 920003 else l))) λq18 x17 h hx12=>?_
  obtain⟨s15,s16⟩:=q18
  refine b9<|S3 2 J<|nL J Ty.w8<|S2 1 J ?_
  refine cN h (λhc h=>?_) λhc h=>?_
  ·refine a8 ?_
   refine jq h (λj22=>St.of [(0,.L iF a0),(3,.sl 23),(4,.I s15)] [(23,⟨List.map iF j22,(List.map iF j22).length,true,1,true⟩)]) (λj22 h=>?_) λκ21 h=>?_
   ·refine S6 3 J ?_
    exact eL h (Wk.trans (k8 _ [23]) (WP (λl=>if l=910003 then 23 else l)))
   ·refine c7 ?_
    refine S3 2 J<|iL h J J Ty.w8 Ty.s3 λv23 hv16 h=>S2 2 J ?_
    refine cN h (λhc h=>?_) λhc h=>?_
    ·refine S5 3 J ?_
     refine y0 J (p7 (f:=iF) (cs:=[.I v23]) hv16 J J Ty.w8 Ty.s3 J J)<|S1 1 J<|y0 J (L1 (f:=iF) (l:=[v23]) J Ty.w8 Ty.s3 Ty.z3 J J nl J J)<|n9 h λv24 hv17 h=>I9 J (F4 (f:=iF) hv17 J J J J J J (.inl ⟨_,J,J⟩) Ty.w8 Ty.s3 Ty.b3 Ty.z3 J (λ_=>J)) J J J<|S2 1 J ?_
     exact eJ h (Wk.trans (k8 _ [23]) W)
    ·refine a8 ?_
     exact eJ h (Wk.trans (k8 _ [910003]) (WP (λl=>if l=23 then 910003 else l)))
  ·refine j8 ?_
   refine b7<|b7<|c8 ?_
   have h:=xL hx12 h
   exact eJ h (Wk.trans (k8 _ [910003]) W)

theorem b83{a0 a1}:PO Tryz.prog 227 [g6.Pv a0,.I a1] (b16 a0 a1) λr=>.L iF r:=by
 refine pO Tryz.func227 λr h _ _=>?_
 refine S4 2 J<|S3 2 J<|cF h C4 J J λv1 _ h=>S2 6 J<|b9<|S4 2 J ?_
 refine cN h (λhc h=>?_) λhc h=>?_
 ·refine S4 1 J ?_
  refine a7 ?_
  cases h
  exact f1
 ·refine a8 ?_
  refine S3 2 J<|cF h a9N J J λv2 _ h=>S2 1 J<|a7 ?_
  cases h
  exact f1

theorem a2C{a0 a1}:PO Tryz.prog 35 [.L iF a0,.I a1] (a0A a0 a1) λr=>.I r:=by
 refine pO Tryz.func35 λr h _ _=>?_
 refine S4 1 J<|S4 1 J ?_
 refine jq h (λj11=>St.of [(5,.I j11)] []) (λj11 h=>?_) λκ10 h=>?_
 ·refine S4 2 J ?_
  refine a7 ?_
  cases h
  exact f1
 ·refine S4 1 J ?_
  refine c7<|lq h (λq=>St.of [(0,.L iF a0),(1,.I a1),(5,.I q.1),(6,.I q.2)] []) W λq16 x15 h hx10=>?_
  obtain⟨s13,s14⟩:=q16
  refine b9<|S3 2 J<|nL J Ty.w8<|S2 1 J ?_
  refine cN h (λhc h=>?_) λhc h=>?_
  ·refine a8 ?_
   refine jq h (λj19=>St.of [(0,.L iF a0),(1,.I a1),(5,.I j19),(6,.I s14)] []) (λj19 h=>?_) λκ18 h=>?_
   ·refine S6 3 J ?_
    exact eL h W
   ·refine c7 ?_
    refine S3 2 J<|iL h J J Ty.w8 Ty.s3 λv20 _ h=>S1 4 J<|b8 J (λhg=>mI J)<|b8 J (λhg=>j2 (ct hg) J J)<|y0 J (k7 J J J (λq=>H2 q))<|yN ?_
    refine cN h (λhc h=>?_) λhc h=>?_
    ·refine S6 3 J ?_
     exact eJ h W
    ·refine a8 ?_
     exact eJ h W
  ·refine j8 ?_
   refine b7<|b7<|c8 ?_
   have h:=xL hx10 h
   exact eJ h W

theorem c01{a0 a1}:PO Tryz.prog 285 [g6.Pv a0,.I a1] (b5H a0 a1) λr=>.I r:=by
 refine pO Tryz.func285 λr h _ _=>?_
 refine S4 2 J<|S4 1 J<|S3 1 J<|cF h a3U J J λv1 _ h=>S2 1 J ?_
 refine jq h (λj11=>St.of [(5,.I j11)] []) (λj11 h=>?_) λκ10 h=>?_
 ·refine S4 2 J ?_
  refine a7 ?_
  cases h
  exact f1
 ·refine S4 1 J ?_
  refine c7<|lq h (λq=>St.of [(1,.I a1),(2,.ptr 2 0 0),(5,.I q.1),(6,.L iF v1),(7,.I q.2)] [(2,vR (g6.Pv a0) 3)]) W λq16 x15 h hx11=>?_
  obtain⟨s13,s14⟩:=q16
  refine b9<|S3 2 J<|nL J Ty.w8<|S2 1 J ?_
  refine cN h (λhc h=>?_) λhc h=>?_
  ·refine a8 ?_
   refine b9<|c7<|a1w [] Ty.N3 (by kernel_rfl) (by kernel_rfl)<|S7 4 J<|n9 h λv17 hv12 h=>d0 J (p7 (f:=iF) (cs:=[.I v17]) hv12 J J Ty.w8 Ty.s3 J J) J<|S7 1 J<|n9 h λv18 hv13 h=>d2f J (s7 J b83 J hv13) J<|S7 1 J<|n9 h λv19 hv14 h=>d2 J (w9 J a2C J hv14) J<|S8 2 J<|S6 3 J ?_
   exact eL h W
  ·refine j8 ?_
   refine b7<|b7<|c8 ?_
   have h:=xL hx11 h
   exact eJ h W

theorem b5K{a0 a1}:PO Tryz.prog 286 [.L g5.Pv a0,.I a1] (a7B a0 a1) λr=>.I r:=by
 refine pO Tryz.func286 λr h _ _=>?_
 refine S4 1 J<|S4 1 J<|S3 1 J<|cF h a9Y J J λv1 _ h=>S2 1 J ?_
 refine jq h (λj12=>St.of [(5,.I j12)] []) (λj12 h=>?_) λκ11 h=>?_
 ·refine S4 2 J ?_
  refine a7 ?_
  cases h
  exact f1
 ·refine S4 1 J ?_
  refine c7<|lq h (λq=>St.of [(1,.I a1),(5,.I q.1),(6,.L B3.Pv v1),(7,.I q.2)] []) W λq17 x16 h hx11=>?_
  obtain⟨s14,s15⟩:=q17
  refine b9<|S3 2 J<|nL J Ty.b6O<|S2 1 J ?_
  refine cN h (λhc h=>?_) λhc h=>?_
  ·refine a8 ?_
   refine jq h (λj20=>St.of [(1,.I a1),(5,.I j20),(6,.L B3.Pv v1),(7,.I s15)] []) (λj20 h=>?_) λκ19 h=>?_
   ·refine S6 3 J ?_
    exact eL h W
   ·refine c7 ?_
    refine S3 2 J<|iL h J J Ty.b6O Ty.c1a λv21 _ h=>S1 5 J<|b8 J (λhg=>mI J)<|b8 J (λhg=>j2 (ct hg) J J)<|y0 J (k7 J J J (λq=>H2 q))<|yN ?_
    refine cN h (λhc h=>?_) λhc h=>?_
    ·refine S6 3 J ?_
     exact eJ h W
    ·refine a8 ?_
     exact eJ h W
  ·refine j8 ?_
   refine b7<|b7<|c8 ?_
   have h:=xL hx11 h
   exact eJ h W

theorem b5L{a0 a1 a2}:PO Tryz.prog 225 [g6.Pv a0,.L g5.Pv a1,.I a2] (a7C a0 a1 a2) λr=>.I r:=by
 refine pO Tryz.func225 λr h _ _=>?_
 refine S4 2 J<|S3 2 J<|cA h c01 J J λv1 _ h=>S1 2 J<|cA h b5K J J λv2 _ h=>S2 2 J<|a7 ?_
 cases h
 exact f1

theorem b7E{a0 a1 a2}:PO Tryz.prog 147 [g6.Pv a0,.L g5.Pv a1,.I a2] (a90 a0 a1 a2) λr=>.I r:=by
 refine pO Tryz.func147 λr h _ _=>?_
 refine S4 2 J<|S3 2 J<|cF h C4 J J λv1 _ h=>S2 6 J<|b9<|S4 2 J ?_
 refine cN h (λhc h=>?_) λhc h=>?_
 ·refine S4 1 J ?_
  refine a7 ?_
  cases h
  exact f1
 ·refine a8 ?_
  refine dr [] Ty.N3 (by kernel_rfl) (by kernel_rfl)<|S7 5 J<|n9 h λv2 hv2 h=>d2 J (w9 J b5L J hv2) J<|S8 2 J<|a7 ?_
  cases h
  exact f1

theorem b7D{a0 a1 a2}:PO Tryz.prog 74 [g6.Pv a0,.L g5.Pv a1,.L iF a2] (a9Z a0 a1 a2) λr=>.bool r:=by
 refine pO Tryz.func74 λr h _ _=>?_
 refine S4 2 J<|S3 1 J<|cF h a3U J J λv1 _ h=>S2 1 J ?_
 refine jq h (λ_=>St.of [] []) (λq10 h=>?_) λκ9 h=>?_
 ·refine S4 1 J ?_
  refine a7 ?_
  cases h
  exact f1
 ·refine S4 1 J ?_
  refine c7<|lq h (λs12=>St.of [(1,.L g5.Pv a1),(2,.L iF a2),(3,.ptr 3 0 0),(7,.L iF v1),(8,.I s12)] [(3,vR (g6.Pv a0) 3)]) W λs12 x13 h hx12=>b9<|S3 2 J<|nL J Ty.w8<|S2 1 J ?_
  refine cN h (λhc h=>?_) λhc h=>?_
  ·refine a8 ?_
   refine b9<|c7<|dr [] Ty.N3 (by kernel_rfl) (by kernel_rfl)<|S7 3 J<|n9 h λv14 hv13 h=>d0 J (p7 (f:=iF) (cs:=[.I v14]) hv13 J J Ty.w8 Ty.s3 J J) J<|S7 1 J<|n9 h λv15 hv14 h=>d2 J (w9 J b5M J hv14) J<|S7 2 J<|y8 J (λhg=>oL J J J Ty.a44 Ty.s44 nl J) J<|o0 J (λhg _ hN=>om (d:=.L g5.Pv a1) J) J<|o0 J (λhg _ hN=>om (d:=.L iF v1) J) J<|o0 J (λhg _ hN=>mI J) J<|y8 J (λhg=>p7 (f:=iF) (cs:=[.I v14]) hv13 (ct hg) (ct hg) Ty.w8 Ty.s3 J J) J<|y8 J (λhg=>A8 (ct hg) Ty.a3 J) J<|n9 h λv16 hv15 h=>a1W J (λhg=>w9 J b7E (p5 (ct hg) (p5 (ct hg) (p5 (ct hg) J))) (A0 hv15 hg)) J<|o0 J (λhg _ hN=>om (d:=.L iF a2) J) J<|o0 J (λhg _ hN=>om (d:=.L iF v1) J) J<|o0 J (λhg _ hN=>mI J) J<|y8 J (λhg=>p7 (f:=iF) (cs:=[.I v14]) hv13 (ct hg) (ct hg) Ty.w8 Ty.s3 J J) J<|y8 J (λhg=>A8 (ct hg) Ty.a3 J) J<|n9 h λv17 hv16 h=>a1W J (λhg=>w9 J a2C (p5 (ct hg) (p5 (ct hg) J)) (A0 hv16 hg)) J<|o0 J (λhg _ hN=>j2 (ct hg) (ct hg) J) J<|d7 J (λ_ hN=>k7 J J J (λq=>H2 q)) J<|L5 ?_
   refine cN h (λhc h=>?_) λhc h=>?_
   ·refine S4 1 J ?_
    refine a7 ?_
    have h:=xL hx12 h
    cases h
    exact f1
   ·refine a8 ?_
    refine S6 3 J ?_
    exact eL h W
  ·refine j8 ?_
   refine b7<|b7<|c8 ?_
   have h:=xL hx12 h
   exact eJ h W

theorem a93{a0}:PO Tryz.prog 28 [c5.Pv a0] (a1B a0) λr=>.bool r:=by
 refine pO Tryz.func28 λr h _ _=>?_
 refine S4 2 J<|b9<|S3 2 J<|cA h b5G J J λv1 _ h=>S1 2 J<|b8 J (λhg=>oF J Ty.b9J J)<|b8 J (λhg=>oS (ct hg) J J Ty.a46 J)<|n9 h λv2 hv2 h=>b8 J (λhg=>w9 J b5J (p5 (ct hg) J) (A0 hv2 hg))<|b8 J (λhg=>S0 (ct hg) J)<|y0 J (n0 J J J (λq=>H0 q))<|S1 1 J<|b8 J (λhg=>oF J Ty.c2a J)<|b8 J (λhg=>oS (ct hg) J J Ty.a27 J)<|b8 J (λhg=>H7 (f:=iF) (ct hg) Ty.w8)<|b8 J (λhg=>j2 (ct hg) J J)<|y0 J (n0 J J J (λq=>H0 q))<|S1 1 J<|b8 J (λhg=>oF J Ty.c2b J)<|b8 J (λhg=>oS (ct hg) J J Ty.a45 J)<|b8 J (λhg=>H7 (f:=g8.Pv) (ct hg) Ty.e45)<|b8 J (λhg=>j2 (ct hg) J J)<|y0 J (n0 J J J (λq=>H0 q))<|yN ?_
 refine cN h (λhc h=>?_) λhc h=>?_
 ·refine S4 1 J ?_
  refine a7 ?_
  cases h
  exact f1
 ·refine a8 ?_
  refine dr [] Ty.N3 (by kernel_rfl) (by kernel_rfl)<|S7 1 J<|n9 h λv3 hv3 h=>d2 J (w9 J b5R J hv3) J<|S7 1 J<|y8 J (λhg=>oL J J J Ty.a51 Ty.X4 nl J) J<|n9 h λv4 hv4 h=>a1W J (λhg=>w9 J b5Q (p5 (ct hg) J) (A0 hv4 hg)) J<|d7 J (λ_ hN=>k7 J J J (λq=>H2 q)) J<|S7 1 J<|y8 J (λhg=>oL J J J Ty.a51 Ty.X4 nl J) J<|n9 h λv5 hv5 h=>a1W J (λhg=>w9 J b5P (p5 (ct hg) J) (A0 hv5 hg)) J<|d7 J (λ_ hN=>k7 J J J (λq=>H2 q)) J<|S7 1 J<|y8 J (λhg=>oL J J J Ty.a51 Ty.X4 nl J) J<|n9 h λv6 hv6 h=>a1W J (λhg=>w9 J b5S (p5 (ct hg) J) (A0 hv6 hg)) J<|d7 J (λ_ hN=>k7 J J J (λq=>H2 q)) J<|S7 1 J<|o0 J (λhg _ hN=>oF J Ty.c8q J) J<|y8 J (λhg=>oL (ct hg) J J Ty.a44 Ty.s44 nl J) J<|o0 J (λhg _ hN=>oF J Ty.b9J J) J<|y8 J (λhg=>oS (ct hg) J J Ty.a46 J) J<|y8 J (λhg=>oL J J J Ty.a51 Ty.X4 nl J) J<|n9 h λv7 hv7 h=>b2r J (λhg=>s7 J b5O (p5 (ct hg) J) (A0 hv7 hg)) J<|n9 h λv8 hv8 h=>a1W J (λhg=>w9 J b7D (p5 (ct hg) (p5 (ct hg) (p5 (ct hg) J))) (A0 hv8 hg)) J<|d7 J (λ_ hN=>k7 J J J (λq=>H2 q)) J<|S8 1 J<|a7 ?_
  cases h
  exact f1

theorem b6q{a0}:PO Tryz.prog 36 [hold_Heap.Pv a0] (a7Y a0) λr=>.bool r:=by
 refine pO Tryz.func36 λr h _ _=>?_
 refine S4 2 J<|S3 1 J<|cA h a8Z J J λv1 _ h=>S1 1 J<|b8 J (λhg=>oF J Ty.c19 J)<|b8 J (λhg=>oF (ct hg) Ty.b9G J)<|b8 J (λhg=>oS (ct hg) J J Ty.a3 J)<|b8 J (λhg=>j2 (ct hg) J J)<|y0 J (k7 J J J (λq=>H2 q))<|S1 1 J<|b8 J (λhg=>oL J J J Ty.R8 Ty.M4 nl J)<|n9 h λv2 hv2 h=>c3V J (λhg=>s7 J Q1 (p5 (ct hg) J) (A0 hv2 hg))<|n9 h λv3 hv3 h=>b8 J (λhg=>w9 J a93 (p5 (ct hg) J) (A0 hv3 hg))<|y0 J (k7 J J J (λq=>H2 q))<|S2 1 J<|a7 ?_
 cases h
 exact f1

theorem b1s{a0}:PO Tryz.prog 75 [c5.Pv a0] (a3f a0) λr=>.L iF r:=by
 refine pO Tryz.func75 λr h _ _=>?_
 refine S4 2 J<|sR<|y0 J (A9 J Ty.w8 Ty.s3)<|S2 1 J<|S3 2 J<|cF h a3U J J λv1 _ h=>S2 1 J ?_
 refine jq h (λj16=>St.of [(3,.sl 910003)] [(910003,⟨List.map iF j16,(List.map iF j16).length,true,1,true⟩)]) (λj16 h=>?_) λκ15 h=>?_
 ·refine S4 2 J ?_
  refine a7 ?_
  cases h
  exact f1
 ·refine S4 1 J ?_
  refine c7<|lq h (λq=>St.of [(1,.ptr 1 0 0),(3,.sl 910003),(4,.L iF v1),(5,.I q.1)] [(1,vR (c5.Pv a0) 8),(910003,⟨List.map iF q.2,(List.map iF q.2).length,true,1,true⟩)]) (Wk.trans (E1 (t:=3) (l:=920003) (z:=1) J J) (WP (λl=>if l=910003 then 920003 else l))) λq21 x20 h hx15=>?_
  obtain⟨s18,s19⟩:=q21
  refine b9<|S3 2 J<|nL J Ty.w8<|S2 1 J ?_
  refine cN h (λhc h=>?_) λhc h=>?_
  ·refine a8 ?_
   refine jq h (λj26=>St.of [(1,.ptr 1 0 0),(3,.sl 37),(4,.L iF v1),(5,.I s18)] [(37,⟨List.map iF j26,(List.map iF j26).length,true,1,true⟩),(1,vR (c5.Pv a0) 8)]) (λj26 h=>?_) λκ25 h=>?_
   ·refine S6 3 J ?_
    exact eL h (Wk.trans (k8 _ [37]) (WP (λl=>if l=910003 then 37 else l)))
   ·refine c7 ?_
    refine dr [] Ty.N3 (by kernel_rfl) (by kernel_rfl)<|S7 4 J<|n9 h λv27 hv20 h=>d0 J (p7 (f:=iF) (cs:=[.I v27]) hv20 J J Ty.w8 Ty.s3 J J) J<|S7 1 J<|n9 h λv28 hv21 h=>d2f J (s7 J C4 J hv21) J<|S7 4 J<|G9 (x':=y4.Pv v28.1) (cl':=true) J J (.inr J) Ty.s78<|S8 1 J<|S4 3 J ?_
    refine cN h (λhc h=>?_) λhc h=>?_
    ·refine S5 3 J ?_
     refine y0 J (p7 (f:=iF) (cs:=[.I v27]) hv20 J J Ty.w8 Ty.s3 J J)<|S1 1 J<|y0 J (L1 (f:=iF) (l:=[v27]) J Ty.w8 Ty.s3 Ty.z3 J J nl J J)<|n9 h λv29 hv22 h=>I9 J (F4 (f:=iF) hv22 J J J J J J (.inl ⟨_,J,J⟩) Ty.w8 Ty.s3 Ty.b3 Ty.z3 J (λ_=>J)) J J J<|S2 1 J ?_
     exact eJ h (Wk.trans (k8 _ [37]) W)
    ·refine a8 ?_
     exact eJ h (Wk.trans (k8 _ [910003]) (WP (λl=>if l=37 then 910003 else l)))
  ·refine j8 ?_
   refine b7<|b7<|c8 ?_
   have h:=xL hx15 h
   exact eJ h (Wk.trans (k8 _ [910003]) W)

theorem a6T{a0}:PO Tryz.prog 29 [c5.Pv a0] (a19 a0) λr=>.bool r:=by
 refine pO Tryz.func29 λr h _ _=>?_
 refine S4 2 J<|S3 1 J<|cF h b1s J J λv1 _ h=>nL J Ty.w8<|S2 2 J<|a7 ?_
 cases h
 exact f1

theorem a7d{a0}:PO Tryz.prog 10 [hold_Heap.Pv a0] (a3p a0) λr=>.bool r:=by
 refine pO Tryz.func10 λr h _ _=>?_
 refine S4 2 J<|S3 1 J<|cA h b6q J J λv1 _ h=>S1 1 J<|b8 J (λhg=>oL J J J Ty.R8 Ty.M4 nl J)<|n9 h λv2 hv2 h=>c3V J (λhg=>s7 J Q1 (p5 (ct hg) J) (A0 hv2 hg))<|n9 h λv3 hv3 h=>b8 J (λhg=>w9 J a6T (p5 (ct hg) J) (A0 hv3 hg))<|y0 J (k7 J J J (λq=>H2 q))<|S2 1 J<|a7 ?_
 cases h
 exact f1

theorem a6i{a0 a1}:PO Tryz.prog 133 [.I a0,.I a1] (a3l a0 a1) λr=>slab_Slab_store_Obj.Pv r:=by
 refine pO Tryz.func133 λr h _ _=>?_
 refine S4 1 J<|b9<|S3 3 J<|b8 J (λhg=>mI J)<|b8 J (λhg=>j2 (ct hg) J J)<|y0 J (n0 J J J (λq=>H0 q))<|S1 1 J<|b8 J (λhg=>mI J)<|b8 J (λhg=>j2 (ct hg) J J)<|y0 J (n0 J J J (λq=>H0 q))<|S1 1 J<|b8 J (λhg=>mI J)<|b8 J (λhg=>j2 (ct hg) J J)<|y0 J (n0 J J J (λq=>H0 q))<|yN ?_
 refine cN h (λhc h=>?_) λhc h=>?_
 ·refine sR ?_
  refine y0 J (l4 (cs:=[.nl,.I 0]) J Ty.p24 Ty.z24 J J J)<|a7e (x':=.agg [.nl,.I 0]) (cl':=true) J J (.inl J) Ty.s24<|yN<|a7 ?_
  cases h
  exact⟨J,[_],⟨oL J J J Ty.a24 Ty.s24 nl J,tr⟩,J,io⟩
 ·refine a8 ?_
  refine S3 1 J<|n9 h λv1 hv1 h=>y1 J (b7o (f:=slab_Cell_store_Obj.Pv) hv1 J J J Ty.e22 Ty.a4Q Ty.c1q Ty.c8e J J J) J<|S1 1 J<|y0 J (l4 (cs:=[.sl 21,.I a1]) J Ty.p24 Ty.z24 J J J)<|S2 1 J<|a7 ?_
  cases h
  exact⟨J,[_],⟨oL J J J Ty.a24 Ty.s24 nl J,tr⟩,J,io⟩

theorem b6e{a0 a1}:PO Tryz.prog 60 [.I a0,.I a1] (b4U a0 a1) λr=>store_Store.Pv r:=by
 refine pO Tryz.func60 λr h _ _=>?_
 refine S4 1 J<|S3 2 J<|cF h a6i J J λv1 _ h=>y0 J (l4 (cs:=[.L slab_Cell_store_Obj.Pv v1.Cells,.I v1.Last,.I 0]) J Ty.p26 Ty.z26 J J J)<|S2 1 J<|a7 ?_
 cases h
 exact⟨J,[_],⟨oL J J J Ty.a26 Ty.s26 nl J,tr⟩,J,io⟩

theorem b75{a0}:PO Tryz.prog 61 [.I a0] (b74 a0) λr=>.L weak_Cell.Pv r:=by
 refine pO Tryz.func61 λr h _ _=>?_
 refine S4 1 J<|b9<|S3 3 J<|b8 J (λhg=>mI J)<|b8 J (λhg=>j2 (ct hg) J J)<|y0 J (n0 J J J (λq=>H0 q))<|yN ?_
 refine cN h (λhc h=>?_) λhc h=>?_
 ·refine S4 1 J ?_
  refine a7 ?_
  cases h
  exact f1
 ·refine a8 ?_
  refine S3 1 J<|n9 h λv1 hv1 h=>y1 J (b7o (f:=weak_Cell.Pv) hv1 J J J Ty.e28 Ty.s84 Ty.z84 Ty.b84 J J J) J<|S2 1 J ?_
  refine jq h (λj9=>St.of [(3,.sl 12)] [(12,⟨List.map weak_Cell.Pv j9,0,true,3,true⟩)]) (λj9 h=>?_) λκ8 h=>?_
  ·refine S4 2 J ?_
   refine a7 ?_
   cases h
   exact f1
  ·refine S3 1 J ?_
   refine y0 J (b7n (f:=weak_Cell.Pv) J J J Ty.e28)<|S2 1 J<|c7<|lq h (λq=>St.of [(3,.sl 12),(14,.I (v1.length:Int)),(15,.I q.1)] [(12,⟨List.map weak_Cell.Pv q.2,0,true,3,true⟩)]) W λq14 x13 h hx9=>?_
   obtain⟨s11,s12⟩:=q14
   refine S4 1 J<|b9 ?_
   refine cN h (λhc h=>?_) λhc h=>?_
   ·refine a8 ?_
    refine b9<|c7<|S4 2 J<|S5 2 J<|n9 h λv15 hv10 h=>y0 J (Y9 (f:=weak_Cell.Pv) hv10 J J J J Ty.e28 Ty.s84 J)<|S1 1 J<|a3s (f:=weak_Cell.Pv) (v:=(⟨v15.Target,v15.Intact,(-1)⟩:weak_Cell)) hv10 J J (.inl J) Ty.s3<|yN<|S6 2 J ?_
    exact eL h W
   ·refine j8 ?_
    refine b7<|b7<|c8 ?_
    have h:=xL hx9 h
    exact eJ h W

theorem b65{a0}:PO Tryz.prog 62 [.I a0] (b64 a0) λr=>.L hash_Place.Pv r:=by
 refine pO Tryz.func62 λr h _ _=>?_
 refine S4 1 J<|b9<|S3 3 J<|b8 J (λhg=>mI J)<|b8 J (λhg=>j2 (ct hg) J J)<|y0 J (n0 J J J (λq=>H0 q))<|yN ?_
 refine cN h (λhc h=>?_) λhc h=>?_
 ·refine S4 1 J ?_
  refine a7 ?_
  cases h
  exact f1
 ·refine a8 ?_
  refine S3 1 J<|n9 h λv1 hv1 h=>y1 J (b7o (f:=hash_Place.Pv) hv1 J J J Ty.e29 Ty.a8U Ty.c1t Ty.c8g J J J) J<|S2 1 J<|a7 ?_
  cases h
  exact f1

theorem a5w{a0}:PO Tryz.prog 134 [.I a0] (Z3 a0) λr=>queue_Queue_task_Task.Pv r:=by
 refine pO Tryz.func134 λr h _ _=>?_
 unfold Z3 at h
 refine S4 1 J<|S3 1 J<|y0 J (l4 (cs:=[.nl,.I a0]) J Ty.p32 Ty.z32 J J J)<|a7e (x':=.agg [.nl,.I a0]) (cl':=true) J J (.inl J) Ty.s32<|yN<|a7 ?_
 cases h
 exact⟨J,[_],⟨oL J J J Ty.a32 Ty.s32 nl J,tr⟩,J,io⟩

theorem b1z:PO Tryz.prog 63 [] (b0h) λr=>queue_Queue_task_Task.Pv r:=by
 refine pO Tryz.func63 λr h _ _=>?_
 refine S4 1 J<|sR<|cF h a5w J J λv1 _ h=>S2 1 J<|a7 ?_
 cases h
 exact⟨J,[_],⟨oL J J J Ty.a32 Ty.s32 nl J,tr⟩,J,io⟩

theorem b68{a0 a1 a2}:PO Tryz.prog 22 [.I a0,.I a1,.I a2] (b2K a0 a1 a2) λr=>hold_Heap.Pv r:=by
 refine pO Tryz.func22 λr h _ _=>?_
 refine S4 1 J<|b9<|S3 3 J<|b8 J (λhg=>mI J)<|b8 J (λhg=>j2 (ct hg) J J)<|y0 J (n0 J J J (λq=>H0 q))<|S1 1 J<|b8 J (λhg=>mI J)<|b8 J (λhg=>j2 (ct hg) J J)<|y0 J (n0 J J J (λq=>H0 q))<|S1 1 J<|b8 J (λhg=>mI J)<|b8 J (λhg=>j2 (ct hg) J J)<|y0 J (n0 J J J (λq=>H0 q))<|S1 1 J<|b8 J (λhg=>mI J)<|b8 J (λhg=>j2 (ct hg) J J)<|y0 J (n0 J J J (λq=>H0 q))<|S1 1 J<|b8 J (λhg=>mI J)<|b8 J (λhg=>j2 (ct hg) J J)<|y0 J (n0 J J J (λq=>H0 q))<|yN ?_
 refine cN h (λhc h=>?_) λhc h=>?_
 ·refine sR ?_
  refine y0 J (l4 (cs:=[.nl,.I 0,.I 0,.nl,.nl,.nl,.nl,.I 0]) J Ty.p34 Ty.z34 J J J)<|a7e (x':=.agg [.nl,.I 0,.I 0,.nl,.nl,.nl,.nl,.I 0]) (cl':=true) J J (.inl J) Ty.M4<|yN<|a7 ?_
  cases h
  exact⟨J,[_],⟨oL J J J Ty.R8 Ty.M4 nl J,tr⟩,J,io⟩
 ·refine a8 ?_
  refine dr [] Ty.N3 (by kernel_rfl) (by kernel_rfl)<|S7 2 J<|n9 h λv1 hv1 h=>d2f J (s7 J b6e J hv1) J<|n9 h λv2 hv2 h=>d1 J (b7o (f:=iF) hv2 J J J Ty.w8 Ty.s3 Ty.z3 Ty.b3 J J J) J J J<|n9 h λv3 hv3 h=>d2f J (s7 J b75 J hv3) J<|S7 1 J<|n9 h λv4 hv4 h=>d2f J (s7 J b65 J hv4) J<|n9 h λv5 hv5 h=>d2f J (s7 J b1z J hv5) J<|d7 J (λ_ hN=>l4 (cs:=[.L slab_Cell_store_Obj.Pv v1.S.Cells,.I v1.S.Last,.I v1.Serial,.sl 33,.L weak_Cell.Pv v3,.L hash_Place.Pv v4,.L task_Task.Pv v5.L,.I v5.Cap]) J Ty.p34 Ty.z34 J J J) J<|G9 (x':=.agg [.L slab_Cell_store_Obj.Pv v1.S.Cells,.I v1.S.Last,.I v1.Serial,.sl 33,.L weak_Cell.Pv v3,.L hash_Place.Pv v4,.L task_Task.Pv v5.L,.I v5.Cap]) (cl':=false) J J (.inr J) Ty.M4<|L5<|a7 ?_
  cases h
  exact⟨J,[_],⟨oL J J J Ty.R8 Ty.M4 nl J,tr⟩,J,io⟩

theorem w7:PO Tryz.prog 177 [.fn (.func 178) []] (U2) λr=>c9.Pv r:=by
 refine pO Tryz.func177 λr h _ _=>?_
 unfold U2 at h
 refine S4 1 J<|S3 1 J<|y0 J (l4 (cs:=[.fn (.func 178) [],.I 0,.I 5,.I 6]) J Ty.b20 Ty.a3y J J J)<|K9 (a2x 4 (d':=.agg [fvE (some 178),.I 0,.I 5,.I 6]) J)<|S2 1 J<|a7 ?_
 cases h
 exact⟨J,[_],⟨oL J J J Ty.b40 Ty.a4g nl J,tr⟩,J,io⟩

theorem U6:PO Tryz.prog 180 [.fn (.func 181) []] (M7) λr=>c9.Pv r:=by
 refine pO Tryz.func180 λr h _ _=>?_
 unfold M7 at h
 refine S4 1 J<|S3 1 J<|y0 J (l4 (cs:=[.fn (.func 181) [],.I (-1),.I 5,.I 13]) J Ty.b20 Ty.a3y J J J)<|K9 (a2x 4 (d':=.agg [fvE (some 181),.I (-1),.I 5,.I 13]) J)<|S2 1 J<|a7 ?_
 cases h
 exact⟨J,[_],⟨oL J J J Ty.b40 Ty.a4g nl J,tr⟩,J,io⟩

theorem C2{a0}:PO Tryz.prog 176 [.L c9.Pv a0] (G4 a0) λr=>.L c9.Pv r:=by
 refine pO Tryz.func176 λr h _ _=>?_
 unfold G4 at h
 refine S4 1 J<|S4 2 J<|a7 ?_
 cases h
 exact f1

theorem H8:PO Tryz.prog 177 [.fn (.func 179) []] (U3) λr=>c9.Pv r:=by
 refine pO Tryz.func177 λr h _ _=>?_
 unfold U3 at h
 refine S4 1 J<|S3 1 J<|y0 J (l4 (cs:=[.fn (.func 179) [],.I 0,.I 5,.I 6]) J Ty.b20 Ty.a3y J J J)<|K9 (a2x 4 (d':=.agg [fvE (some 179),.I 0,.I 5,.I 6]) J)<|S2 1 J<|a7 ?_
 cases h
 exact⟨J,[_],⟨oL J J J Ty.b40 Ty.a4g nl J,tr⟩,J,io⟩

theorem a3v:PO Tryz.prog 182 [.fn (.func 181) []] (Q3) λr=>c9.Pv r:=by
 refine pO Tryz.func182 λr h _ _=>?_
 unfold Q3 at h
 refine S4 1 J<|S3 1 J<|y0 J (l4 (cs:=[.fn (.func 181) [],.I 0,.I 3,.I 5]) J Ty.b20 Ty.a3y J J J)<|K9 (a2x 4 (d':=.agg [fvE (some 181),.I 0,.I 3,.I 5]) J)<|S2 1 J<|a7 ?_
 cases h
 exact⟨J,[_],⟨oL J J J Ty.b40 Ty.a4g nl J,tr⟩,J,io⟩

theorem a3u:PO Tryz.prog 182 [.fn (.func 179) []] (Q2) λr=>c9.Pv r:=by
 refine pO Tryz.func182 λr h _ _=>?_
 unfold Q2 at h
 refine S4 1 J<|S3 1 J<|y0 J (l4 (cs:=[.fn (.func 179) [],.I 0,.I 3,.I 5]) J Ty.b20 Ty.a3y J J J)<|K9 (a2x 4 (d':=.agg [fvE (some 179),.I 0,.I 3,.I 5]) J)<|S2 1 J<|a7 ?_
 cases h
 exact⟨J,[_],⟨oL J J J Ty.b40 Ty.a4g nl J,tr⟩,J,io⟩

theorem a1m:PO Tryz.prog 183 [.fn (.func 181) []] (K7) λr=>c9.Pv r:=by
 refine pO Tryz.func183 λr h _ _=>?_
 unfold K7 at h
 refine S4 1 J<|S3 1 J<|y0 J (l4 (cs:=[.fn (.func 181) [],.I (-1),.I 5,.I 6]) J Ty.b20 Ty.a3y J J J)<|K9 (a2x 4 (d':=.agg [fvE (some 181),.I (-1),.I 5,.I 6]) J)<|S2 1 J<|a7 ?_
 cases h
 exact⟨J,[_],⟨oL J J J Ty.b40 Ty.a4g nl J,tr⟩,J,io⟩

theorem a38:PO Tryz.prog 184 [.fn (.func 178) []] (U0) λr=>c9.Pv r:=by
 refine pO Tryz.func184 λr h _ _=>?_
 unfold U0 at h
 refine S4 1 J<|S3 1 J<|y0 J (l4 (cs:=[.fn (.func 178) [],.I 0,.I 5,.I 7]) J Ty.b20 Ty.a3y J J J)<|K9 (a2x 4 (d':=.agg [fvE (some 178),.I 0,.I 5,.I 7]) J)<|S2 1 J<|a7 ?_
 cases h
 exact⟨J,[_],⟨oL J J J Ty.b40 Ty.a4g nl J,tr⟩,J,io⟩

theorem O3:PO Tryz.prog 183 [.fn (.func 179) []] (K6) λr=>c9.Pv r:=by
 refine pO Tryz.func183 λr h _ _=>?_
 unfold K6 at h
 refine S4 1 J<|S3 1 J<|y0 J (l4 (cs:=[.fn (.func 179) [],.I (-1),.I 5,.I 6]) J Ty.b20 Ty.a3y J J J)<|K9 (a2x 4 (d':=.agg [fvE (some 179),.I (-1),.I 5,.I 6]) J)<|S2 1 J<|a7 ?_
 cases h
 exact⟨J,[_],⟨oL J J J Ty.b40 Ty.a4g nl J,tr⟩,J,io⟩

theorem a4a:PO Tryz.prog 184 [.fn (.func 179) []] (U1) λr=>c9.Pv r:=by
 refine pO Tryz.func184 λr h _ _=>?_
 unfold U1 at h
 refine S4 1 J<|S3 1 J<|y0 J (l4 (cs:=[.fn (.func 179) [],.I 0,.I 5,.I 7]) J Ty.b20 Ty.a3y J J J)<|K9 (a2x 4 (d':=.agg [fvE (some 179),.I 0,.I 5,.I 7]) J)<|S2 1 J<|a7 ?_
 cases h
 exact⟨J,[_],⟨oL J J J Ty.b40 Ty.a4g nl J,tr⟩,J,io⟩

theorem b1H:PO Tryz.prog 95 [] (a5c) λr=>.abs (a2s (List.map (ent iF (Ls c9.Pv)) r)):=by
 refine pO Tryz.func95 λr h _ _=>?_
 refine S4 1 J<|sR<|b4W (KT:=Int) (VT:=List c9) (EK:=iF) (E:=(Ls c9.Pv)) 5000001 J J<|cF h w7 J J λv1 hv1 h=>y0 J (l4 (cs:=[.fn (.func 179) [],.I 0,.I 4,.I 1]) J Ty.b20 Ty.a3y J J J)<|K9 (a2x 3 (d':=.agg [fvE (some 179),.I 0,.I 4,.I 1]) J)<|cF h U6 J J λv2 hv2 h=>y0 J (L1 (f:=c9.Pv) (l:=[v1,(⟨(some 179),0,4,1⟩:c9),v2]) J Ty.b0A Ty.a4g Ty.a3y J J nl J J)<|cF h C2 J J λv3 _ h=>Z5 (es:=[]) (k:=1) (v:=v3) (E:=(Ls c9.Pv)) (EK:=iF) (.inr J) J J J J J J Ty.a4B (z8 Ty.u3)<|yc J (s7 J w7 J hv1)<|cF h H8 J J λv4 hv4 h=>y0 J (L1 (f:=c9.Pv) (l:=[v1,v4]) J Ty.b0A Ty.a4g Ty.a3y J J nl J J)<|cF h C2 J J λv5 hv5 h=>Z5 (es:=(m7 [] 1 v3)) (k:=2) (v:=v5) (E:=(Ls c9.Pv)) (EK:=iF) (.inr J) J J J J J J Ty.a4B (z8 Ty.u3)<|yc J (s7 J w7 J hv1)<|y0 J (L1 (f:=c9.Pv) (l:=[v1]) J Ty.b0A Ty.a4g Ty.a3y J J nl J J)<|cF h C2 J J λv6 _ h=>Z5 (es:=(m7 (m7 [] 1 v3) 2 v5)) (k:=3) (v:=v6) (E:=(Ls c9.Pv)) (EK:=iF) (.inr J) J J J J J J Ty.a4B (z8 Ty.u3)<|yc J (s7 J w7 J hv1)<|yc J (s7 J H8 J hv4)<|cF h a3v J J λv7 _ h=>y0 J (L1 (f:=c9.Pv) (l:=[v1,v4,v7]) J Ty.b0A Ty.a4g Ty.a3y J J nl J J)<|cF h C2 J J λv8 _ h=>Z5 (es:=(m7 (m7 (m7 [] 1 v3) 2 v5) 3 v6)) (k:=4) (v:=v8) (E:=(Ls c9.Pv)) (EK:=iF) (.inr J) J J J J J J Ty.a4B (z8 Ty.u3)<|yc J (s7 J w7 J hv1)<|cF h a3u J J λv9 _ h=>cF h a1m J J λv10 _ h=>y0 J (L1 (f:=c9.Pv) (l:=[v1,v9,v10]) J Ty.b0A Ty.a4g Ty.a3y J J nl J J)<|cF h C2 J J λv11 _ h=>?_
 refine Z5 (es:=(m7 (m7 (m7 (m7 [] 1 v3) 2 v5) 3 v6) 4 v8)) (k:=5) (v:=v11) (E:=(Ls c9.Pv)) (EK:=iF) (.inr J) J J J J J J Ty.a4B (z8 Ty.u3)<|cF h a38 J J λv12 _ h=>cF h O3 J J λv13 hv13 h=>yc J (s7 J U6 J hv2)<|y0 J (L1 (f:=c9.Pv) (l:=[v12,v13,v2]) J Ty.b0A Ty.a4g Ty.a3y J J nl J J)<|cF h C2 J J λv14 _ h=>Z5 (es:=(m7 (m7 (m7 (m7 (m7 [] 1 v3) 2 v5) 3 v6) 4 v8) 5 v11)) (k:=6) (v:=v14) (E:=(Ls c9.Pv)) (EK:=iF) (.inr J) J J J J J J Ty.a4B (z8 Ty.u3)<|yc J (s7 J w7 J hv1)<|cF h a4a J J λv15 _ h=>y0 J (L1 (f:=c9.Pv) (l:=[v1,v15]) J Ty.b0A Ty.a4g Ty.a3y J J nl J J)<|cF h C2 J J λv16 _ h=>Z5 (es:=(m7 (m7 (m7 (m7 (m7 (m7 [] 1 v3) 2 v5) 3 v6) 4 v8) 5 v11) 6 v14)) (k:=7) (v:=v16) (E:=(Ls c9.Pv)) (EK:=iF) (.inr J) J J J J J J Ty.a4B (z8 Ty.u3)<|yc J (s7 J w7 J hv1)<|yc J (s7 J O3 J hv13)<|y0 J (L1 (f:=c9.Pv) (l:=[v1,v13]) J Ty.b0A Ty.a4g Ty.a3y J J nl J J)<|cF h C2 J J λv17 _ h=>Z5 (es:=(m7 (m7 (m7 (m7 (m7 (m7 (m7 [] 1 v3) 2 v5) 3 v6) 4 v8) 5 v11) 6 v14) 7 v16)) (k:=8) (v:=v17) (E:=(Ls c9.Pv)) (EK:=iF) (.inr J) J J J J J J Ty.a4B (z8 Ty.u3)<|yc J (s7 J w7 J hv1)<|yc J (s7 J H8 J hv4)<|y0 J (L1 (f:=c9.Pv) (l:=[v1,v4]) J Ty.b0A Ty.a4g Ty.a3y J J nl J J)<|yc J (s7 J C2 J hv5)<|Z5 (es:=(m7 (m7 (m7 (m7 (m7 (m7 (m7 (m7 [] 1 v3) 2 v5) 3 v6) 4 v8) 5 v11) 6 v14) 7 v16) 8 v17)) (k:=9) (v:=v5) (E:=(Ls c9.Pv)) (EK:=iF) (.inr J) J J J J J J Ty.a4B (z8 Ty.u3)<|yc J (s7 J w7 J hv1)<|yc J (s7 J H8 J hv4)<|y0 J (L1 (f:=c9.Pv) (l:=[v1,v4]) J Ty.b0A Ty.a4g Ty.a3y J J nl J J)<|yc J (s7 J C2 J hv5)<|Z5 (es:=(m7 (m7 (m7 (m7 (m7 (m7 (m7 (m7 (m7 [] 1 v3) 2 v5) 3 v6) 4 v8) 5 v11) 6 v14) 7 v16) 8 v17) 9 v5)) (k:=10) (v:=v5) (E:=(Ls c9.Pv)) (EK:=iF) (.inr J) J J J J J J Ty.a4B (z8 Ty.u3)<|cF h C2 J J λv18 _ h=>Z5 (es:=(m7 (m7 (m7 (m7 (m7 (m7 (m7 (m7 (m7 (m7 [] 1 v3) 2 v5) 3 v6) 4 v8) 5 v11) 6 v14) 7 v16) 8 v17) 9 v5) 10 v5)) (k:=11) (v:=v18) (E:=(Ls c9.Pv)) (EK:=iF) (.inr J) J J J J J J Ty.a4B (z8 Ty.u3)<|y0 J (l4 (cs:=[.fn (.func 178) [],.I 0,.I 200,.I 12]) J Ty.b20 Ty.a3y J J J) ?_
 refine K9 (a2x 46 (d':=.agg [fvE (some 178),.I 0,.I 200,.I 12]) J)<|y0 J (L1 (f:=c9.Pv) (l:=[(⟨(some 178),0,200,12⟩:c9)]) J Ty.b0A Ty.a4g Ty.a3y J J nl J J)<|cF h C2 J J λv19 _ h=>Z5 (es:=(m7 (m7 (m7 (m7 (m7 (m7 (m7 (m7 (m7 (m7 (m7 [] 1 v3) 2 v5) 3 v6) 4 v8) 5 v11) 6 v14) 7 v16) 8 v17) 9 v5) 10 v5) 11 v18)) (k:=12) (v:=v19) (E:=(Ls c9.Pv)) (EK:=iF) (.inr J) J J J J J J Ty.a4B (z8 Ty.u3)<|S2 2 J<|a2u (c3R 0 5000001 J J)<|a7 ?_
 cases h
 exact f1

theorem a8h{a0}:PO Tryz.prog 178 [code_Op.Pv a0] (a8C a0) λr=>.I r:=by
 refine pO Tryz.func178 λr h _ _=>?_
 unfold a8C at h
 refine S4 2 J<|S4 3 J<|a7 ?_
 cases h
 exact f1

theorem a8i{a0}:PO Tryz.prog 179 [code_Op.Pv a0] (a8D a0) λr=>.I r:=by
 refine pO Tryz.func179 λr h _ _=>?_
 unfold a8D at h
 refine S4 2 J<|S4 3 J<|a7 ?_
 cases h
 exact f1

theorem a8j{a0}:PO Tryz.prog 181 [code_Op.Pv a0] (a8E a0) λr=>.I r:=by
 refine pO Tryz.func181 λr h _ _=>?_
 unfold a8E at h
 refine S4 2 J<|S4 3 J<|a7 ?_
 cases h
 exact f1

theorem b8x{f:Fv}{a0:code_Op}{r:Int}(h:a9l f a0=some r):∃n,f=some n∧z7 Tryz.prog n∧O1 Tryz.prog n [code_Op.Pv a0] (.I r):=by
 unfold a9l at h
 by_cases e178:f=some 178
 ·rw[if_pos e178] at h;exact⟨178,e178,(@a8h a0).1,(@a8h a0).2 _ h⟩
 rw[if_neg e178] at h
 by_cases e179:f=some 179
 ·rw[if_pos e179] at h;exact⟨179,e179,(@a8i a0).1,(@a8i a0).2 _ h⟩
 rw[if_neg e179] at h
 by_cases e181:f=some 181
 ·rw[if_pos e181] at h;exact⟨181,e181,(@a8j a0).1,(@a8j a0).2 _ h⟩
 rw[if_neg e181] at h
 cases h

theorem b30{a0}:PO Tryz.prog 39 [code_Op.Pv a0] (a2S a0) λr=>.I r:=by
 refine pO Tryz.func39 λr h _ _=>?_
 unfold a2S at h
 refine S4 2 J<|dr [] Ty.N3 (by kernel_rfl) (by kernel_rfl)<|n9 h λv1 hv1 h=>d2f J (s7 J b1H J hv1) J<|S7 2 J<|d4 J (c2R (es:=v1) (k:=a0.Kind) (E:=(Ls c9.Pv)) (EK:=iF) (d:=.tup [.L c9.Pv ((y7 v1 a0.Kind).getD ([]:List c9)),.bool ((y7 v1 a0.Kind).isSome)]) J J Ty.a4B (z8 Ty.u3) Ty.d0H J (lk2 _ _ ([]:List c9))) J<|S8 5 J<|b9<|S4 2 J ?_
 refine cN h (λhc h=>?_) λhc h=>?_
 ·refine S4 1 J ?_
  refine a7 ?_
  cases h
  exact f1
 ·refine a8 ?_
  refine jq h (λ_=>St.of [] []) (λq9 h=>?_) λκ8 h=>?_
  ·refine S4 1 J ?_
   refine a7 ?_
   cases h
   exact f1
  ·refine S3 1 J ?_
   refine nL J Ty.b0A<|S2 1 J<|c7<|lq h (λs11=>St.of [(1,.ptr 1 0 0),(17,.L c9.Pv ((y7 v1 a0.Kind).getD ([]:List c9))),(18,.I (((y7 v1 a0.Kind).getD ([]:List c9)).length:Int)),(19,.I s11)] [(1,vR (code_Op.Pv a0) 4)]) W λs11 x12 h hx13=>S4 1 J<|b9 ?_
   refine cN h (λhc h=>?_) λhc h=>?_
   ·refine a8 ?_
    refine b9<|c7<|sR<|iL h J J Ty.b0A Ty.a4g λv13 _ h=>S2 3 J<|S3 3 J ?_
    obtain⟨v14,hv15,h⟩:=a6q h
    obtain⟨n15,he16,hk17,hp18⟩:=b8x hv15
    refine K9 (c0o 24 J he16)<|y0 J (b2W J hk17 J hp18)<|S2 1 J<|S3 5 J<|b8 J (λhg=>mI J)<|b8 J (λhg=>oF J Ty.c6D J)<|b8 J (λhg=>oS (ct hg) J J Ty.a3 J)<|b8 J (λhg=>j2 (ct hg) (ct hg) J)<|y0 J (n0 J J J (λq=>H0 q))<|yN ?_
    refine cN h (λhc h=>?_) λhc h=>?_
    ·refine S4 3 J ?_
     refine a7 ?_
     have h:=xL hx13 h
     cases h
     exact f1
    ·refine a8 ?_
     refine S6 2 J ?_
     exact eL h W
   ·refine j8 ?_
    refine b7<|b7<|c8 ?_
    have h:=xL hx13 h
    exact eJ h W

theorem b0O:PO Tryz.prog 40 [] (a1R) λr=>.abs (a2s (List.map (ent iF fvE) r)):=by
 refine pO Tryz.func40 λr h _ _=>?_
 unfold a1R at h
 refine S4 1 J<|sR<|b4W (KT:=Int) (VT:=Fv) (EK:=iF) (E:=fvE) 5000001 J J<|a4i (es:=[]) (k:=1) (v:=(some 96)) (E:=fvE) (EK:=iF) (.inr J) J J J J J J Ty.b2S (z8 Ty.u3)<|a4i (es:=(m7 [] 1 (some 96))) (k:=2) (v:=(some 97)) (E:=fvE) (EK:=iF) (.inr J) J J J J J J Ty.b2S (z8 Ty.u3)<|a4i (es:=(m7 (m7 [] 1 (some 96)) 2 (some 97))) (k:=3) (v:=(some 98)) (E:=fvE) (EK:=iF) (.inr J) J J J J J J Ty.b2S (z8 Ty.u3)<|a4i (es:=(m7 (m7 (m7 [] 1 (some 96)) 2 (some 97)) 3 (some 98))) (k:=4) (v:=(some 99)) (E:=fvE) (EK:=iF) (.inr J) J J J J J J Ty.b2S (z8 Ty.u3)<|a4i (es:=(m7 (m7 (m7 (m7 [] 1 (some 96)) 2 (some 97)) 3 (some 98)) 4 (some 99))) (k:=5) (v:=(some 100)) (E:=fvE) (EK:=iF) (.inr J) J J J J J J Ty.b2S (z8 Ty.u3)<|a4i (es:=(m7 (m7 (m7 (m7 (m7 [] 1 (some 96)) 2 (some 97)) 3 (some 98)) 4 (some 99)) 5 (some 100))) (k:=6) (v:=(some 101)) (E:=fvE) (EK:=iF) (.inr J) J J J J J J Ty.b2S (z8 Ty.u3)<|a4i (es:=(m7 (m7 (m7 (m7 (m7 (m7 [] 1 (some 96)) 2 (some 97)) 3 (some 98)) 4 (some 99)) 5 (some 100)) 6 (some 101))) (k:=7) (v:=(some 102)) (E:=fvE) (EK:=iF) (.inr J) J J J J J J Ty.b2S (z8 Ty.u3)<|a4i (es:=(m7 (m7 (m7 (m7 (m7 (m7 (m7 [] 1 (some 96)) 2 (some 97)) 3 (some 98)) 4 (some 99)) 5 (some 100)) 6 (some 101)) 7 (some 102))) (k:=8) (v:=(some 103)) (E:=fvE) (EK:=iF) (.inr J) J J J J J J Ty.b2S (z8 Ty.u3)<|a4i (es:=(m7 (m7 (m7 (m7 (m7 (m7 (m7 (m7 [] 1 (some 96)) 2 (some 97)) 3 (some 98)) 4 (some 99)) 5 (some 100)) 6 (some 101)) 7 (some 102)) 8 (some 103))) (k:=9) (v:=(some 104)) (E:=fvE) (EK:=iF) (.inr J) J J J J J J Ty.b2S (z8 Ty.u3)<|a4i (es:=(m7 (m7 (m7 (m7 (m7 (m7 (m7 (m7 (m7 [] 1 (some 96)) 2 (some 97)) 3 (some 98)) 4 (some 99)) 5 (some 100)) 6 (some 101)) 7 (some 102)) 8 (some 103)) 9 (some 104))) (k:=10) (v:=(some 105)) (E:=fvE) (EK:=iF) (.inr J) J J J J J J Ty.b2S (z8 Ty.u3)<|S2 2 J<|a2u (c3R 0 5000001 J J)<|a7 ?_
 cases h
 exact f1

theorem b9r{a0}:PO Tryz.prog 254 [.I a0] (b6n a0) λr=>.tup [.L iF r.1,.I r.2]:=by
 refine pO Tryz.func254 λr h _ _=>?_
 refine S4 2 J<|b9<|S3 3 J<|b8 J (λhg=>mI J)<|b8 J (λhg=>j2 (ct hg) J J)<|y0 J (n0 J J J (λq=>H0 q))<|yN ?_
 refine cN h (λhc h=>?_) λhc h=>?_
 ·refine S4 2 J ?_
  refine a7 ?_
  cases h
  exact f2
 ·refine a8 ?_
  refine S3 1 J<|n9 h λv1 hv1 h=>y1 J (b7o (f:=iF) hv1 J J J Ty.w8 Ty.s3 Ty.z3 Ty.b3 J J J) J<|S2 2 J<|a7 ?_
  cases h
  exact f2

theorem a2e{a0}:PO Tryz.prog 255 [.I a0] (G0 a0) λr=>.bool r:=by
 refine pO Tryz.func255 λr h _ _=>?_
 unfold G0 at h
 refine S4 1 J<|S3 3 J<|b8 J (λhg=>mI J)<|b8 J (λhg=>j2 (ct hg) J J)<|y0 J (k7 J J J (λq=>H2 q))<|S2 1 J<|a7 ?_
 cases h
 exact f1

theorem a5K{a0}:PO Tryz.prog 304 [slab_Slab_store_Obj.Pv a0] (K3 a0) λr=>.fn (.func 327) [.rptr (slab_Slab_store_Obj.Pc r)]:=by
 refine pO Tryz.func304 λr h _ _=>?_
 unfold K3 at h
 refine S4 2 J<|S4 2 J<|a7 ?_
 cases h
 exact f1

theorem I7{a0}:PON Tryz.prog 328 [.L slab_Cell_store_Obj.Pv a0] (r8 a0) λr=>⟨List.map slab_Cell_store_Obj.Pv r,0,true,8,true⟩:=by
 refine pON Tryz.func328 λr h _ _=>?_
 unfold r8 at h
 refine S4 1 J<|b9<|S3 1 J<|b6v J Ty.e22 λb hb=>yN ?_
 refine F6 b J (λhc=>?_) (λhc=>?_)
 ·obtain rfl:a0 = []:=by simpa using hb hc
  refine S4 1 J<|a2u (E1 (t:=2) (l:=920000) (z:=8) J J)<|a7 ?_
  cases h
  exact⟨J,_,_,J,J,J,J⟩
 ·refine a8 ?_
  refine sR<|y0 J (A9 J Ty.e22 Ty.a4Q)<|S1 1 J<|y1 J (a57 (f:=slab_Cell_store_Obj.Pv) h J J (.inl ⟨_,J,J⟩) Ty.e22 Ty.a4Q Ty.c8e Ty.c1q J (λ_=>J)) J<|S2 1 J<|a7 ?_
  exact⟨J,_,_,J,J,J,J⟩

theorem F8{a0 a1 a2}:PO Tryz.prog 305 [slab_Slab_store_Obj.Pv a0,.I a1,slab_Cell_store_Obj.Pv a2] (B0 a0 a1 a2) λr=>slab_Slab_store_Obj.Pv r:=by
 refine pO Tryz.func305 λr h _ _=>?_
 unfold B0 at h
 refine S4 3 J<|S3 2 J<|n9 h λv1 hv1 h=>ycN J (b4I J I7 J hv1) J J<|S2 2 J<|S3 4 J<|n9 h λv2 hv2 h=>y0 J (Y9 (f:=slab_Cell_store_Obj.Pv) hv2 J J J J Ty.e22 Ty.a4Q J)<|a3s (f:=slab_Cell_store_Obj.Pv) (v:=a2) hv2 J J (.inr J) Ty.a4Q<|yN<|S4 2 J<|a7 ?_
 cases h
 exact⟨J,[_],⟨oL J J J Ty.a24 Ty.s24 nl J,tr⟩,J,io⟩

theorem a2Y{a0 a1}:PO Tryz.prog 83 [.I a0,.I a1] (V3 a0 a1) λr=>.I r:=by
 refine pO Tryz.func83 λr h _ _=>?_
 refine S4 1 J<|b9<|S3 3 J<|b8 J (λhg=>mI J)<|b8 J (λhg=>j2 (ct hg) J J)<|y0 J (n0 J J J (λq=>H0 q))<|S1 1 J<|b8 J (λhg=>mI J)<|b8 J (λhg=>j2 (ct hg) J J)<|y0 J (n0 J J J (λq=>H0 q))<|S1 1 J<|b8 J (λhg=>mI J)<|b8 J (λhg=>j2 (ct hg) J J)<|y0 J (n0 J J J (λq=>H0 q))<|yN ?_
 refine cN h (λhc h=>?_) λhc h=>?_
 ·refine S4 1 J ?_
  refine a7 ?_
  cases h
  exact f1
 ·refine a8 ?_
  refine S4 7 J<|a7 ?_
  cases h
  exact f1

theorem a5J{a0 a1}:PO Tryz.prog 256 [slab_Slab_store_Obj.Pv a0,store_Obj.Pv a1] (G1 a0 a1) λr=>.tup [slab_Slab_store_Obj.Pv r.1,.I r.2.1,.I r.2.2]:=by
 refine pO Tryz.func256 λr h _ _=>?_
 refine S4 5 J ?_
 refine jq h (λ_=>St.of [(2,.ptr 2005 0 0),(4,.ptr 2003 0 0),(5,.ptr 2002 0 0),(6,.ptr 2001 0 0)] [(2001,vR (.I 0) 1),(2002,vR (.I 0) 1),(2003,vR (.agg [.nl,.I 0]) 2),(2005,vR (slab_Slab_store_Obj.Pv a0) 2)]) (λq10 h=>?_) λκ9 h=>?_
 ·refine S4 4 J ?_
  refine a7 ?_
  cases h
  exact⟨J,[_,_,_],⟨oL J J J Ty.a24 Ty.s24 nl J,⟨oS J J J Ty.a3 J,⟨oS J J J Ty.a39 J,tr⟩⟩⟩,J,io⟩
 ·refine S3 1 J ?_
  refine cF h a5K J J λv11 _ h=>yN<|c7<|a2u (WPE (λl=>if l=2006 then 6 else if l=2007 then 5 else if l=2008 then 4 else if l=2009 then 3 else if l=2010 then 2 else l) [(2,.ptr 2010 0 0),(3,.ptr 2009 0 0),(4,.ptr 2008 0 0),(5,.ptr 2007 0 0),(6,.ptr 2006 0 0),(10,.fn (.func 327) [.rptr (slab_Slab_store_Obj.Pc v11)])] [(2006,vR (.I 0) 1),(2007,vR (.I 0) 1),(2008,vR (.agg [.nl,.I 0]) 2),(2009,vR (store_Obj.Pv a1) 6),(2010,vR (slab_Slab_store_Obj.Pv a0) 2)]) ?_
  refine a0a (fn:=Tryz.f327) (N1:=23) J Tryz.func327 J J nl J Ty.d0e J J (λl19 e20 o21 hR22=>?_)
  refine S3 2 J<|nL J Ty.e22<|S2 1 J<|c7<|lq h (λs13=>St.of [(1000002,.ptr 2010 0 0),(1000003,.ptr 2009 0 0),(1000004,.ptr 2008 0 0),(1000005,.ptr 2007 0 0),(1000006,.ptr 2006 0 0),(1000010,.fn (.func 327) [.rptr (slab_Slab_store_Obj.Pc v11)]),(0,.fn (.yield l19) []),(6,.L slab_Cell_store_Obj.Pv v11.Cells),(7,.I (v11.Cells.length:Int)),(8,.I s13)] [(2006,vR (.I 0) 1),(2007,vR (.I 0) 1),(2008,vR (.agg [.nl,.I 0]) 2),(2009,vR (store_Obj.Pv a1) 6),(2010,vR (slab_Slab_store_Obj.Pv a0) 2)]) W λs13 x14 h hx25=>S4 1 J<|b9 ?_
  refine cN h (λhc h=>?_) λhc h=>?_
  ·refine a8 ?_
   refine b9<|c7<|S3 1 J<|iL h J J Ty.e22 Ty.a4Q λv15 _ h=>S2 4 J<|S3 4 J<|b8 J (λhg=>om (d:=.fn (.yield l19) []) J)<|b8 J (λhg=>mI J) ?_
   rcases Bool.eq_false_or_eq_true ((v15.State==0)==true) with hg27 | hg27
   ·have h:=ifT h hg27
    refine K9 (WE [(1000002,.ptr 2010 0 0),(1000003,.ptr 2009 0 0),(1000004,.ptr 2008 0 0),(1000005,.ptr 2007 0 0),(1000006,.ptr 2006 0 0),(1000010,.fn (.func 327) [.rptr (slab_Slab_store_Obj.Pc v11)]),(0,.fn (.yield l19) []),(6,.L slab_Cell_store_Obj.Pv v11.Cells),(7,.I (v11.Cells.length:Int)),(8,.I s13),(16,.bool (v15.State==0)),(17,.fn (.yield l19) []),(18,.I s13)] [(2006,vR (.I 0) 1),(2007,vR (.I 0) 1),(2008,vR (.agg [.nl,.I 0]) 2),(2009,vR (store_Obj.Pv a1) 6),(2010,vR (slab_Slab_store_Obj.Pv a0) 2)]) ?_
    refine a36 hR22 (congrArg some hg27) J J J J J (λe28 o29 o30=>?_)
    refine S6 1 J ?_
    refine⟨J,?_⟩
    refine c7<|S3 3 J<|iL h J J Ty.e22 Ty.a4Q λv16 _ h=>S2 3 J<|S3 4 J<|y0 J (l4 (cs:=[.I 1,.I v16.Gen,.I a1.Serial,.I a1.Strong,.I a1.Weak,.I a1.Prog,.bool a1.Started,.L iF a1.Fields]) J Ty.c40 Ty.c1q J J J)<|cF h F8 J J λv17 _ h=>S1 2 J<|cA h a2Y J J λv18 _ h=>S2 3 J<|a7 ?_
    refine⟨J,?_⟩
    refine K9 (WE [(1000002,.ptr 2010 0 0),(1000003,.ptr 2009 0 0),(1000004,.ptr 2008 0 0),(1000005,.ptr 2007 0 0),(1000006,.ptr 2006 0 0),(1000010,.fn (.func 327) [.rptr (slab_Slab_store_Obj.Pc v11)]),(0,.fn (.yield l19) []),(6,.L slab_Cell_store_Obj.Pv v11.Cells),(7,.I (v11.Cells.length:Int)),(8,.I s13),(16,.bool (v15.State==0)),(19,.bool false)] [(2006,vR (.I 0) 1),(2007,vR (.I v18) 1),(2008,vR (slab_Slab_store_Obj.Pv v17) 2),(2009,vR (store_Obj.Pv a1) 6),(2010,vR (slab_Slab_store_Obj.Pv a0) 2)])<|y0 (congrArg some hg27) (S0 J J)<|y0 J (a7v J J hg27)<|yN ?_
    refine F6 true J (λ_=>?_) (λq=>nomatch q)
    refine a7 ?_
    refine .inr ⟨.ret,J,c4v ?_⟩
    have h:=xL hx25 h
    cases h
    exact⟨J,[_,_,_],⟨oL J J J Ty.a24 Ty.s24 nl J,⟨oS J J J Ty.a3 J,⟨oS J J J Ty.a39 J,tr⟩⟩⟩,J,io⟩
   ·have h:=ifF h hg27
    refine a1b (congrArg some hg27)<|a1b (congrArg some hg27)<|y0 J (a7u J J hg27)<|yN ?_
    refine F6 false J (λq=>nomatch q) (λ_=>?_)
    refine a8<|S6 2 J ?_
    exact eL h W
  ·refine j8 ?_
   refine b7<|b7<|c8 ?_
   refine .inl ⟨J,?_⟩
   have h:=xL hx25 h
   exact eJ h (WP (λl=>if l=2005 then 2010 else if l=2003 then 2008 else if l=2002 then 2007 else if l=2001 then 2006 else l))

theorem b4h{a0 a1 a2}:PO Tryz.prog 185 [store_Store.Pv a0,.I a1,.I a2] (N2 a0 a1 a2) λr=>.tup [store_Store.Pv r.1,.I r.2.1,.I r.2.2]:=by
 refine pO Tryz.func185 λr h _ _=>?_
 refine S4 4 J<|S3 1 J<|cF h b9r J J λv1 _ h=>S2 5 J<|b9<|S4 2 J ?_
 refine cN h (λhc h=>?_) λhc h=>?_
 ·refine S4 5 J ?_
  refine a7 ?_
  cases h
  exact⟨J,[_,_,_],⟨oL J J J Ty.a26 Ty.s26 nl J,⟨J,⟨J,tr⟩⟩⟩,J,io⟩
 ·refine a8 ?_
  refine b9<|S3 1 J<|cA h a2e J J λv2 _ h=>S2 1 J ?_
  refine cN h (λhc h=>?_) λhc h=>?_
  ·refine S4 4 J ?_
   refine a7 ?_
   cases h
   exact⟨J,[_,_,_],⟨oL J J J Ty.a26 Ty.s26 nl J,⟨J,⟨J,tr⟩⟩⟩,J,io⟩
  ·refine a8 ?_
   refine S3 7 J<|y0 J (l4 (cs:=[.I (s6 (a0.Serial+1)),.I 0,.I 0,.I a2,.bool false,.L iF v1.1]) J Ty.d0j Ty.d0G J J J)<|cF h a5J J J λv3 _ h=>S2 8 J<|b9<|S4 2 J ?_
   refine cN h (λhc h=>?_) λhc h=>?_
   ·refine S4 5 J ?_
    refine a7 ?_
    cases h
    exact⟨J,[_,_,_],⟨oL J J J Ty.a26 Ty.s26 nl J,⟨J,⟨J,tr⟩⟩⟩,J,io⟩
   ·refine a8 ?_
    refine S3 4 J<|y0 J (l4 (cs:=[.L slab_Cell_store_Obj.Pv v3.1.Cells,.I v3.1.Last,.I (s6 (a0.Serial+1))]) J Ty.p26 Ty.z26 J J J)<|S2 4 J<|a7 ?_
    cases h
    exact⟨J,[_,_,_],⟨oL J J J Ty.a26 Ty.s26 nl J,⟨J,⟨J,tr⟩⟩⟩,J,io⟩

theorem a5Y{a0}:PO Tryz.prog 300 [.I a0] (a0O a0) λr=>.tup [.I r.1,.I r.2.1,.bool r.2.2]:=by
 refine pO Tryz.func300 λr h _ _=>?_
 refine S4 3 J<|b9<|S4 2 J ?_
 refine cN h (λhc h=>?_) λhc h=>?_
 ·refine S4 3 J ?_
  refine a7 ?_
  cases h
  exact f3
 ·refine a8 ?_
  refine S3 2 J<|n9 h λv1 hv1 h=>y0 J (a3Q J J hv1)<|n9 h λv2 hv2 h=>y0 J (a3Q J J hv2)<|S1 2 J<|n9 h λv3 hv3 h=>y0 J (a3Q J J hv3)<|S2 2 J<|b9<|S3 3 J<|b8 J (λhg=>mI J)<|b8 J (λhg=>j2 (ct hg) J J)<|y0 J (n0 J J J (λq=>H0 q))<|yN ?_
  refine cN h (λhc h=>?_) λhc h=>?_
  ·refine S4 3 J ?_
   refine a7 ?_
   cases h
   exact f3
  ·refine a8 ?_
   refine S4 5 J<|a7 ?_
   cases h
   exact f3

theorem a6y{a0}:PO Tryz.prog 246 [.I a0] (a1Y a0) λr=>.I r:=by
 refine pO Tryz.func246 λr h _ _=>?_
 refine S4 1 J<|S3 1 J<|cA h a5Y J J λv1 _ h=>S2 7 J<|S4 2 J<|a7 ?_
 cases h
 exact f1

theorem a8n{a0}:PO Tryz.prog 247 [.I a0] (a2W a0) λr=>.I r:=by
 refine pO Tryz.func247 λr h _ _=>?_
 refine S4 1 J<|S3 1 J<|cA h a5Y J J λv1 _ h=>S2 7 J<|S4 2 J<|a7 ?_
 cases h
 exact f1

theorem D4{a0 a1}:PO Tryz.prog 168 [slab_Slab_store_Obj.Pv a0,.I a1] (o8 a0 a1) λr=>.tup [.I r.1,.I r.2]:=by
 refine pO Tryz.func168 λr h _ _=>?_
 refine S4 3 J<|b9<|S4 2 J ?_
 refine cN h (λhc h=>?_) λhc h=>?_
 ·refine S4 2 J ?_
  refine a7 ?_
  cases h
  exact f2
 ·refine a8 ?_
  refine S3 1 J<|cA h a6y J J λv1 _ h=>S2 1 J<|b9<|S3 3 J<|b8 J (λhg=>mI J)<|b8 J (λhg=>oF J Ty.c8o J)<|b8 J (λhg=>oS (ct hg) J J Ty.a22 J)<|b8 J (λhg=>H7 (f:=slab_Cell_store_Obj.Pv) (ct hg) Ty.e22)<|b8 J (λhg=>j2 (ct hg) (ct hg) J)<|y0 J (n0 J J J (λq=>H0 q))<|yN ?_
  refine cN h (λhc h=>?_) λhc h=>?_
  ·refine S4 2 J ?_
   refine a7 ?_
   cases h
   exact f2
  ·refine a8 ?_
   refine S3 3 J<|iL h J J Ty.e22 Ty.a4Q λv2 _ h=>S2 3 J<|b9<|dr [] Ty.N3 (by kernel_rfl) (by kernel_rfl)<|S7 3 J<|n9 h λv3 hv3 h=>d2 J (w9 J a8n J hv3) J<|S7 2 J<|o0 J (λhg _ hN=>oF J Ty.b2z J) J<|y8 J (λhg=>oS (ct hg) J J Ty.a3 J) J<|o0 J (λhg _ hN=>j2 (ct hg) J J) J<|o0 J (λhg _ hN=>om (d:=.bool (v2.State != 1)) (ct hg)) J<|o0 (m8 J J J) (λhg _ hN=>oF J Ty.b2z J) J<|y8 (m8 J J J) (λhg=>oS (ct hg) J J Ty.a3 J) J<|o0 (m8 J J J) (λhg _ hN=>j2 (ct hg) J J) J<|o0 J (λhg _ hN=>k7 (ct hg) J J (λq=>a1l hg (H2 q))) J<|d7 J (λ_ hN=>n0 J J J (λq=>H0 q)) J<|L5 ?_
   refine cN h (λhc h=>?_) λhc h=>?_
   ·refine S4 2 J ?_
    refine a7 ?_
    cases h
    exact f2
   ·refine a8 ?_
    refine S4 3 J<|a7 ?_
    cases h
    exact f2

theorem a1k{a0 a1}:PO Tryz.prog 132 [slab_Slab_store_Obj.Pv a0,.I a1] (B9 a0 a1) λr=>.tup [store_Obj.Pv r.1,.I r.2]:=by
 refine pO Tryz.func132 λr h _ _=>?_
 refine S4 3 J<|S4 1 J<|S3 2 J<|cA h D4 J J λv1 _ h=>S2 5 J<|b9<|S4 2 J ?_
 refine cN h (λhc h=>?_) λhc h=>?_
 ·refine S3 2 J ?_
  refine a7e (x':=.agg [.I 0,.I 0,.I 0,.I 0,.bool false,.nl]) (cl':=true) J J (.inl J) Ty.b7R<|S2 1 J<|a7 ?_
  cases h
  exact⟨J,[_,_],⟨oL J J J Ty.c1y Ty.b7R nl J,⟨J,tr⟩⟩,J,io⟩
 ·refine a8 ?_
  refine b9<|S3 3 J<|iL h J J Ty.e22 Ty.a4Q λv2 hv2 h=>S2 3 J ?_
  refine cN h (λhc h=>?_) λhc h=>?_
  ·refine S3 1 J ?_
   refine a7e (x':=.agg [.I 0,.I 0,.I 0,.I 0,.bool false,.nl]) (cl':=true) J J (.inl J) Ty.b7R<|S2 1 J<|a7 ?_
   cases h
   exact⟨J,[_,_],⟨oL J J J Ty.c1y Ty.b7R nl J,⟨J,tr⟩⟩,J,io⟩
  ·refine a8 ?_
   refine S3 3 J<|y0 J (p7 (f:=slab_Cell_store_Obj.Pv) (cs:=slab_Cell_store_Obj.Pc v2) hv2 J J Ty.e22 Ty.a4Q J J)<|S2 4 J<|a7 ?_
   cases h
   exact⟨J,[_,_],⟨oL J J J Ty.c1y Ty.b7R nl J,⟨J,tr⟩⟩,J,io⟩

theorem A5{a0 a1}:PO Tryz.prog 58 [store_Store.Pv a0,.I a1] (r7 a0 a1) λr=>.tup [store_Obj.Pv r.1,.I r.2]:=by
 refine pO Tryz.func58 λr h _ _=>?_
 refine S4 3 J<|S3 3 J<|cF h a1k J J λv1 _ h=>S2 4 J<|a7 ?_
 cases h
 exact⟨J,[_,_],⟨oL J J J Ty.c1y Ty.b7R nl J,⟨J,tr⟩⟩,J,io⟩

theorem a0R{a0 a1}:PO Tryz.prog 162 [hold_Heap.Pv a0,.I a1] (V6 a0 a1) λr=>.bool r:=by
 refine pO Tryz.func162 λr h _ _=>?_
 refine S4 2 J<|S3 3 J<|cF h A5 J J λv1 _ h=>S2 6 J<|S4 3 J<|a7 ?_
 cases h
 exact f1

theorem L0{a0 a1}:PO Tryz.prog 158 [hold_Heap.Pv a0,.I a1] (E6 a0 a1) λr=>.bool r:=by
 refine pO Tryz.func158 λr h _ _=>?_
 unfold E6 at h
 refine S4 2 J<|S3 3 J<|b8 J (λhg=>oL J J J Ty.R8 Ty.M4 nl J)<|b8 J (λhg=>mI J)<|n9 h λv1 hv1 h=>b8 J (λhg=>w9 J a0R (p5 (ct hg) (p5 (ct hg) J)) (A0 hv1 hg))<|y0 J (n0 J J J (λq=>H0 q))<|S2 1 J<|a7 ?_
 cases h
 exact f1

theorem V2{a0}:PO Tryz.prog 250 [.I a0] (D7 a0) λr=>.bool r:=by
 refine pO Tryz.func250 λr h _ _=>?_
 unfold D7 at h
 refine S4 1 J<|S4 3 J<|a7 ?_
 cases h
 exact f1

end Go.Proofs.YtfihndcobnkiaaaGreat.Ok
