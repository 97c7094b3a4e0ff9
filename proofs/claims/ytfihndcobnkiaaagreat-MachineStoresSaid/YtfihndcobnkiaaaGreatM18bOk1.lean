/-
 The functions of the program do as the plain functions do.
-/
import Derived.Test.YtfihndcobnkiaaaGreatM18bPwC
import Derived.Test.YtfihndcobnkiaaaGreatM18bPwD
import Derived.Test.YtfihndcobnkiaaaGreatSrt
import Derived.Test.YtfihndcobnkiaaaGreatM18bSh
import Derived.Test.YtfihndcobnkiaaaGreatProg
set_option linter.unusedVariables false
set_option linter.unusedSimpArgs false
set_option linter.unusedSectionVars false
namespace Go.Proofs.YtfihndcobnkiaaaGreat.Ok
open Go Go.Pw Go.Sh Go.Proofs
set_option maxRecDepth 100000
set_option maxHeartbeats 4000000
abbrev _root_.Go.Sh.store_Obj.Pc(x:store_Obj):List PV:=[.I x.Serial,.I x.Strong,.I x.Weak,.I x.Prog,.bool x.Started,.L iF x.Fields]
abbrev _root_.Go.Sh.store_Obj.Pv(x:store_Obj):PV:=.agg x.Pc
abbrev _root_.Go.Sh.slab_Cell_store_Obj.Pc(x:slab_Cell_store_Obj):List PV:=[.I x.State,.I x.Gen,.I x.Val.Serial,.I x.Val.Strong,.I x.Val.Weak,.I x.Val.Prog,.bool x.Val.Started,.L iF x.Val.Fields]
abbrev _root_.Go.Sh.slab_Cell_store_Obj.Pv(x:slab_Cell_store_Obj):PV:=.agg x.Pc
abbrev _root_.Go.Sh.slab_Slab_store_Obj.Pc(x:slab_Slab_store_Obj):List PV:=[.L slab_Cell_store_Obj.Pv x.Cells,.I x.Last]
abbrev _root_.Go.Sh.slab_Slab_store_Obj.Pv(x:slab_Slab_store_Obj):PV:=.agg x.Pc
abbrev _root_.Go.Sh.store_Store.Pc(x:store_Store):List PV:=[.L slab_Cell_store_Obj.Pv x.S.Cells,.I x.S.Last,.I x.Serial]
abbrev _root_.Go.Sh.store_Store.Pv(x:store_Store):PV:=.agg x.Pc
abbrev _root_.Go.Sh.weak_Cell.Pc(x:weak_Cell):List PV:=[.I x.Target,.bool x.Intact,.I x.Call]
abbrev _root_.Go.Sh.weak_Cell.Pv(x:weak_Cell):PV:=.agg x.Pc
abbrev _root_.Go.Sh.hash_Place.Pc(x:hash_Place):List PV:=[.I x.State,.I x.Key,.I x.Val]
abbrev _root_.Go.Sh.hash_Place.Pv(x:hash_Place):PV:=.agg x.Pc
abbrev _root_.Go.Sh.task_Task.Pc(x:task_Task):List PV:=[.I x.Kind,.I x.At,.I x.Prog]
abbrev _root_.Go.Sh.task_Task.Pv(x:task_Task):PV:=.agg x.Pc
abbrev _root_.Go.Sh.queue_Queue_task_Task.Pc(x:queue_Queue_task_Task):List PV:=[.L task_Task.Pv x.L,.I x.Cap]
abbrev _root_.Go.Sh.queue_Queue_task_Task.Pv(x:queue_Queue_task_Task):PV:=.agg x.Pc
abbrev _root_.Go.Sh.hold_Heap.Pc(x:hold_Heap):List PV:=[.L slab_Cell_store_Obj.Pv x.S.S.Cells,.I x.S.S.Last,.I x.S.Serial,.L iF x.Roots,.L weak_Cell.Pv x.Cells,.L hash_Place.Pv x.T,.L task_Task.Pv x.Q.L,.I x.Q.Cap]
abbrev _root_.Go.Sh.hold_Heap.Pv(x:hold_Heap):PV:=.agg x.Pc
abbrev _root_.Go.Sh.code_Op.Pc(x:code_Op):List PV:=[.I x.Kind,.I x.A,.I x.B,.I x.C]
abbrev _root_.Go.Sh.code_Op.Pv(x:code_Op):PV:=.agg x.Pc
abbrev _root_.Go.Sh.A5.Pc(x:A5):List PV:=[.I x.Serial,.I x.Strong,.I x.Weak,.I x.Prog,.bool x.Started,.L iF x.Fields]
abbrev _root_.Go.Sh.A5.Pv(x:A5):PV:=.agg x.Pc
abbrev _root_.Go.Sh.n0.Pc(x:n0):List PV:=[.I x.State,.I x.Gen,.I x.Val.Serial,.I x.Val.Strong,.I x.Val.Weak,.I x.Val.Prog,.bool x.Val.Started,.L iF x.Val.Fields]
abbrev _root_.Go.Sh.n0.Pv(x:n0):PV:=.agg x.Pc
abbrev _root_.Go.Sh.p7.Pc(x:p7):List PV:=[.I x.Target,.bool x.Intact,.I x.Call]
abbrev _root_.Go.Sh.p7.Pv(x:p7):PV:=.agg x.Pc
abbrev _root_.Go.Sh.j2.Pc(x:j2):List PV:=[.I x.State,.I x.Key,.I x.Val]
abbrev _root_.Go.Sh.j2.Pv(x:j2):PV:=.agg x.Pc
abbrev _root_.Go.Sh.p6.Pc(x:p6):List PV:=[.I x.Kind,.I x.At,.I x.Prog]
abbrev _root_.Go.Sh.p6.Pv(x:p6):PV:=.agg x.Pc
abbrev _root_.Go.Sh.j1.Pc(x:j1):List PV:=[.L n0.Pv x.Cells,.I x.Last,.I x.Serial]
abbrev _root_.Go.Sh.j1.Pv(x:j1):PV:=.agg x.Pc
abbrev _root_.Go.Sh.x6.Pc(x:x6):List PV:=[.L p6.Pv x.L,.I x.Cap]
abbrev _root_.Go.Sh.x6.Pv(x:x6):PV:=.agg x.Pc
abbrev _root_.Go.Sh.g6.Pc(x:g6):List PV:=[.L n0.Pv x.S.Cells,.I x.S.Last,.I x.S.Serial,.L iF x.Roots,.L p7.Pv x.Cells,.L j2.Pv x.T,.L p6.Pv x.Q.L,.I x.Q.Cap]
abbrev _root_.Go.Sh.g6.Pv(x:g6):PV:=.agg x.Pc
abbrev _root_.Go.Sh.z8.Pc(x:z8):List PV:=[.I x.State,.I x.Gen,.I x.Val]
abbrev _root_.Go.Sh.z8.Pv(x:z8):PV:=.agg x.Pc
abbrev _root_.Go.Sh.B1.Pc(x:B1):List PV:=[.L z8.Pv x.Cells,.I x.Last]
abbrev _root_.Go.Sh.B1.Pv(x:B1):PV:=.agg x.Pc
abbrev _root_.Go.Sh.r7.Pc(x:r7):List PV:=[.I x.Key,.I x.Val]
abbrev _root_.Go.Sh.r7.Pv(x:r7):PV:=.agg x.Pc
abbrev _root_.Go.Sh.g7.Pc(x:g7):List PV:=[fvE x.part,.I x.least,.I x.most,.I x.e]
abbrev _root_.Go.Sh.g7.Pv(x:g7):PV:=.agg x.Pc
abbrev _root_.Go.Sh.n8.Pc(x:n8):List PV:=[.L slab_Cell_store_Obj.Pv x.x.S.S.Cells,.I x.x.S.S.Last,.I x.x.S.Serial,.L iF x.x.Roots,.L weak_Cell.Pv x.x.Cells,.L hash_Place.Pv x.x.T,.L task_Task.Pv x.x.Q.L,.I x.x.Q.Cap,.I x.o.Kind,.I x.o.A,.I x.o.B,.I x.o.C]
abbrev _root_.Go.Sh.n8.Pv(x:n8):PV:=.agg x.Pc
abbrev _root_.Go.Sh.F4.Pc(x:F4):List PV:=[.I x.r,.I x.h]
abbrev _root_.Go.Sh.F4.Pv(x:F4):PV:=.agg x.Pc
abbrev _root_.Go.Sh.E4.Pc(x:E4):List PV:=[.I x.h,.I x.k,.I x.v]
abbrev _root_.Go.Sh.E4.Pv(x:E4):PV:=.agg x.Pc
abbrev _root_.Go.Sh.F3.Pc(x:F3):List PV:=[.L hash_Place.Pv x.t]
abbrev _root_.Go.Sh.F3.Pv(x:F3):PV:=.agg x.Pc
abbrev _root_.Go.Sh.A9.Pc(x:A9):List PV:=[fvE x.kept]
abbrev _root_.Go.Sh.A9.Pv(x:A9):PV:=.agg x.Pc
abbrev _root_.Go.Sh.j5.Pc(x:j5):List PV:=[.I x.Key,.I x.Val]
abbrev _root_.Go.Sh.j5.Pv(x:j5):PV:=.agg x.Pc
abbrev _root_.Go.Sh.a2f.Pc(x:a2f):List PV:=[.I x.Kind,.I x.A,.I x.B,.I x.C]
abbrev _root_.Go.Sh.a2f.Pv(x:a2f):PV:=.agg x.Pc
namespace Ty
theorem a3:G8 Tryz.prog 3=some false:=by kernel_rfl
theorem a4:G8 Tryz.prog 4=some false:=by kernel_rfl
theorem a22:G8 Tryz.prog 22=some false:=by kernel_rfl
theorem a24:G8 Tryz.prog 24=some true:=by kernel_rfl
theorem a26:G8 Tryz.prog 26=some true:=by kernel_rfl
theorem a27:G8 Tryz.prog 27=some false:=by kernel_rfl
theorem a28:G8 Tryz.prog 28=some false:=by kernel_rfl
theorem a29:G8 Tryz.prog 29=some false:=by kernel_rfl
theorem a30:G8 Tryz.prog 30=some false:=by kernel_rfl
theorem a32:G8 Tryz.prog 32=some true:=by kernel_rfl
theorem U6:G8 Tryz.prog 34=some true:=by kernel_rfl
theorem a39:G8 Tryz.prog 39=some false:=by kernel_rfl
theorem a42:G8 Tryz.prog 42=some false:=by kernel_rfl
theorem a44:G8 Tryz.prog 44=some true:=by kernel_rfl
theorem a45:G8 Tryz.prog 45=some false:=by kernel_rfl
theorem a46:G8 Tryz.prog 46=some false:=by kernel_rfl
theorem a47:G8 Tryz.prog 47=some false:=by kernel_rfl
theorem a49:G8 Tryz.prog 49=some true:=by kernel_rfl
theorem a51:G8 Tryz.prog 51=some true:=by kernel_rfl
theorem a78:G8 Tryz.prog 78=some true:=by kernel_rfl
theorem c0Q:G8 Tryz.prog 116=some true:=by kernel_rfl
theorem c9d:G8 Tryz.prog 138=some false:=by kernel_rfl
theorem c9e:G8 Tryz.prog 140=some true:=by kernel_rfl
theorem b4B:G8 Tryz.prog 156=some true:=by kernel_rfl
theorem c9f:G8 Tryz.prog 181=some true:=by kernel_rfl
theorem c5L:G8 Tryz.prog 184=some true:=by kernel_rfl
theorem c9h:G8 Tryz.prog 359=some true:=by kernel_rfl
theorem b3:G9 Tryz.prog 3=some 8:=by kernel_rfl
theorem b84:G9 Tryz.prog 84=some 24:=by kernel_rfl
theorem c9m:G9 Tryz.prog 134=some 80:=by kernel_rfl
theorem c7K:G9 Tryz.prog 143=some 80:=by kernel_rfl
theorem c9n:G9 Tryz.prog 178=some 24:=by kernel_rfl
theorem c9o:G9 Tryz.prog 180=some 24:=by kernel_rfl
theorem c7L:G9 Tryz.prog 181=some 24:=by kernel_rfl
theorem c9p:G9 Tryz.prog 183=some 24:=by kernel_rfl
theorem c9q:G9 Tryz.prog 184=some 24:=by kernel_rfl
theorem c9r:G9 Tryz.prog 196=some 16:=by kernel_rfl
theorem c9s:G9 Tryz.prog 202=some 24:=by kernel_rfl
theorem c7M:G9 Tryz.prog 212=some 16:=by kernel_rfl
theorem e22:w8 Tryz.prog 22=some 143:=by kernel_rfl
theorem z6:w8 Tryz.prog 27=some 3:=by kernel_rfl
theorem e28:w8 Tryz.prog 28=some 84:=by kernel_rfl
theorem e29:w8 Tryz.prog 29=some 181:=by kernel_rfl
theorem e30:w8 Tryz.prog 30=some 184:=by kernel_rfl
theorem e42:w8 Tryz.prog 42=some 134:=by kernel_rfl
theorem e45:w8 Tryz.prog 45=some 178:=by kernel_rfl
theorem e46:w8 Tryz.prog 46=some 180:=by kernel_rfl
theorem e47:w8 Tryz.prog 47=some 183:=by kernel_rfl
theorem e61:w8 Tryz.prog 61=some 36:=by kernel_rfl
theorem b4I:w8 Tryz.prog 138=some 202:=by kernel_rfl
theorem c53:w8 Tryz.prog 147=some 37:=by kernel_rfl
theorem b0q:w8 Tryz.prog 150=some 156:=by kernel_rfl
theorem b0r:w8 Tryz.prog 193=some 196:=by kernel_rfl
theorem b7G:w8 Tryz.prog 213=some 212:=by kernel_rfl
theorem c54:w8 Tryz.prog 282=some 286:=by kernel_rfl
theorem c7S:D1 Tryz.prog 24 0=some (0,22):=by kernel_rfl
theorem c1p:D1 Tryz.prog 24 1=some (1,3):=by kernel_rfl
theorem c1q:D1 Tryz.prog 26 0=some (0,24):=by kernel_rfl
theorem b8S:D1 Tryz.prog 26 1=some (2,3):=by kernel_rfl
theorem c1r:D1 Tryz.prog 32 0=some (0,30):=by kernel_rfl
theorem c7T:D1 Tryz.prog 32 1=some (1,3):=by kernel_rfl
theorem c1s:D1 Tryz.prog 34 0=some (0,26):=by kernel_rfl
theorem b8T:D1 Tryz.prog 34 1=some (3,27):=by kernel_rfl
theorem b35:D1 Tryz.prog 34 2=some (4,28):=by kernel_rfl
theorem c5e:D1 Tryz.prog 34 3=some (5,29):=by kernel_rfl
theorem b6q:D1 Tryz.prog 34 4=some (6,32):=by kernel_rfl
theorem c7U:D1 Tryz.prog 36 1=some (1,3):=by kernel_rfl
theorem c1t:D1 Tryz.prog 44 0=some (0,42):=by kernel_rfl
theorem c5f:D1 Tryz.prog 44 2=some (2,3):=by kernel_rfl
theorem c1u:D1 Tryz.prog 49 0=some (0,47):=by kernel_rfl
theorem c7V:D1 Tryz.prog 51 0=some (0,44):=by kernel_rfl
theorem c7W:D1 Tryz.prog 51 1=some (3,27):=by kernel_rfl
theorem c7X:D1 Tryz.prog 51 2=some (4,45):=by kernel_rfl
theorem c5g:D1 Tryz.prog 51 3=some (5,46):=by kernel_rfl
theorem c1v:D1 Tryz.prog 51 4=some (6,49):=by kernel_rfl
theorem b07:D1 Tryz.prog 78 0=some (0,3):=by kernel_rfl
theorem c1w:D1 Tryz.prog 78 1=some (1,3):=by kernel_rfl
theorem c1x:D1 Tryz.prog 78 2=some (2,3):=by kernel_rfl
theorem c1y:D1 Tryz.prog 78 3=some (3,3):=by kernel_rfl
theorem c5h:D1 Tryz.prog 78 4=some (4,4):=by kernel_rfl
theorem c1z:D1 Tryz.prog 78 5=some (5,27):=by kernel_rfl
theorem c1A:D1 Tryz.prog 84 0=some (0,3):=by kernel_rfl
theorem c5i:D1 Tryz.prog 84 1=some (1,4):=by kernel_rfl
theorem c7Y:D1 Tryz.prog 84 2=some (2,3):=by kernel_rfl
theorem c1c:D1 Tryz.prog 116 0=some (0,3):=by kernel_rfl
theorem c1d:D1 Tryz.prog 116 1=some (1,3):=by kernel_rfl
theorem b7L:D1 Tryz.prog 116 2=some (2,3):=by kernel_rfl
theorem c58:D1 Tryz.prog 116 3=some (3,3):=by kernel_rfl
theorem b7M:D1 Tryz.prog 116 4=some (4,4):=by kernel_rfl
theorem b7N:D1 Tryz.prog 116 5=some (5,27):=by kernel_rfl
theorem b7O:D1 Tryz.prog 134 0=some (0,3):=by kernel_rfl
theorem b0x:D1 Tryz.prog 134 2=some (2,78):=by kernel_rfl
theorem c59:D1 Tryz.prog 140 0=some (0,138):=by kernel_rfl
theorem b7P:D1 Tryz.prog 140 1=some (1,3):=by kernel_rfl
theorem b2d:D1 Tryz.prog 143 0=some (0,3):=by kernel_rfl
theorem c6a:D1 Tryz.prog 143 1=some (1,3):=by kernel_rfl
theorem b4M:D1 Tryz.prog 143 2=some (2,116):=by kernel_rfl
theorem c6b:D1 Tryz.prog 156 2=some (2,3):=by kernel_rfl
theorem b7Q:D1 Tryz.prog 178 0=some (0,3):=by kernel_rfl
theorem c1e:D1 Tryz.prog 178 1=some (1,4):=by kernel_rfl
theorem c6c:D1 Tryz.prog 178 2=some (2,3):=by kernel_rfl
theorem c1f:D1 Tryz.prog 180 0=some (0,3):=by kernel_rfl
theorem c1g:D1 Tryz.prog 180 1=some (1,3):=by kernel_rfl
theorem c6d:D1 Tryz.prog 180 2=some (2,3):=by kernel_rfl
theorem c6e:D1 Tryz.prog 181 0=some (0,3):=by kernel_rfl
theorem c1h:D1 Tryz.prog 181 1=some (1,3):=by kernel_rfl
theorem c1i:D1 Tryz.prog 183 0=some (0,3):=by kernel_rfl
theorem b2e:D1 Tryz.prog 183 1=some (1,3):=by kernel_rfl
theorem c1j:D1 Tryz.prog 183 2=some (2,3):=by kernel_rfl
theorem c1k:D1 Tryz.prog 184 1=some (1,3):=by kernel_rfl
theorem c1l:D1 Tryz.prog 184 2=some (2,3):=by kernel_rfl
theorem c6f:D1 Tryz.prog 196 0=some (0,3):=by kernel_rfl
theorem c1m:D1 Tryz.prog 196 1=some (1,3):=by kernel_rfl
theorem b7R:D1 Tryz.prog 202 0=some (0,3):=by kernel_rfl
theorem c1n:D1 Tryz.prog 202 1=some (1,3):=by kernel_rfl
theorem c1o:D1 Tryz.prog 212 1=some (1,3):=by kernel_rfl
theorem k84:y9 Tryz.prog 84:=kC Tryz.func84 J
theorem k85:y9 Tryz.prog 85:=kC Tryz.func85 J
theorem c9Q:y9 Tryz.prog 163:=kC Tryz.func163 J
theorem c9R:y9 Tryz.prog 164:=kC Tryz.func164 J
theorem c9S:y9 Tryz.prog 174:=kC Tryz.func174 J
theorem c71:y9 Tryz.prog 199:=kC Tryz.func199 J
theorem c9T:y9 Tryz.prog 260:=kC Tryz.func260 J
theorem c9U:y9 Tryz.prog 267:=kC Tryz.func267 J
theorem c72:y9 Tryz.prog 298:=kC Tryz.func298 J
theorem c73:y9 Tryz.prog 303:=kC Tryz.func303 J
theorem c9V:y9 Tryz.prog 306:=kC Tryz.func306 J
theorem c74:y9 Tryz.prog 316:=kC Tryz.func316 J
theorem c75:y9 Tryz.prog 323:=kC Tryz.func323 J
theorem c9W:y9 Tryz.prog 327:=kC Tryz.func327 J
theorem c9X:y9 Tryz.prog 332:=kC Tryz.func332 J
theorem b2w:a8I Tryz.prog 92=some (3,90):=by kernel_rfl
theorem c2c:a8I Tryz.prog 145=some (3,3):=by kernel_rfl
theorem a4s:a8I Tryz.prog 152=some (3,150):=by kernel_rfl
theorem c5x:a8I Tryz.prog 216=some (184,4):=by kernel_rfl
theorem b89:a8I Tryz.prog 314=some (3,4):=by kernel_rfl
theorem p24:B7 Tryz.prog 24=some (λi=>(#[(0,1),(1,1)]:Array (Nat × Nat))[i]?):=by kernel_rfl
theorem p26:B7 Tryz.prog 26=some (λi=>(#[(0,2),(2,1)]:Array (Nat × Nat))[i]?):=by kernel_rfl
theorem p32:B7 Tryz.prog 32=some (λi=>(#[(0,1),(1,1)]:Array (Nat × Nat))[i]?):=by kernel_rfl
theorem p34:B7 Tryz.prog 34=some (λi=>(#[(0,3),(3,1),(4,1),(5,1),(6,2)]:Array (Nat × Nat))[i]?):=by kernel_rfl
theorem p36:B7 Tryz.prog 36=some (λi=>(#[(0,1),(1,1),(2,1),(3,1)]:Array (Nat × Nat))[i]?):=by kernel_rfl
theorem p44:B7 Tryz.prog 44=some (λi=>(#[(0,1),(1,1),(2,1)]:Array (Nat × Nat))[i]?):=by kernel_rfl
theorem p49:B7 Tryz.prog 49=some (λi=>(#[(0,1),(1,1)]:Array (Nat × Nat))[i]?):=by kernel_rfl
theorem p51:B7 Tryz.prog 51=some (λi=>(#[(0,3),(3,1),(4,1),(5,1),(6,2)]:Array (Nat × Nat))[i]?):=by kernel_rfl
theorem p78:B7 Tryz.prog 78=some (λi=>(#[(0,1),(1,1),(2,1),(3,1),(4,1),(5,1)]:Array (Nat × Nat))[i]?):=by kernel_rfl
theorem p84:B7 Tryz.prog 84=some (λi=>(#[(0,1),(1,1),(2,1)]:Array (Nat × Nat))[i]?):=by kernel_rfl
theorem p96:B7 Tryz.prog 96=some (λi=>(#[(0,8),(8,4)]:Array (Nat × Nat))[i]?):=by kernel_rfl
theorem c90:B7 Tryz.prog 116=some (λi=>(#[(0,1),(1,1),(2,1),(3,1),(4,1),(5,1)]:Array (Nat × Nat))[i]?):=by kernel_rfl
theorem c91:B7 Tryz.prog 134=some (λi=>(#[(0,1),(1,1),(2,6)]:Array (Nat × Nat))[i]?):=by kernel_rfl
theorem c92:B7 Tryz.prog 140=some (λi=>(#[(0,1),(1,1)]:Array (Nat × Nat))[i]?):=by kernel_rfl
theorem c4t:B7 Tryz.prog 143=some (λi=>(#[(0,1),(1,1),(2,6)]:Array (Nat × Nat))[i]?):=by kernel_rfl
theorem b2D:B7 Tryz.prog 156=some (λi=>(#[(0,1),(1,1),(2,1),(3,1)]:Array (Nat × Nat))[i]?):=by kernel_rfl
theorem c4u:B7 Tryz.prog 181=some (λi=>(#[(0,1),(1,1),(2,1)]:Array (Nat × Nat))[i]?):=by kernel_rfl
theorem c6V:B7 Tryz.prog 184=some (λi=>(#[(0,1),(1,1),(2,1)]:Array (Nat × Nat))[i]?):=by kernel_rfl
theorem c93:B7 Tryz.prog 196=some (λi=>(#[(0,1),(1,1)]:Array (Nat × Nat))[i]?):=by kernel_rfl
theorem c94:B7 Tryz.prog 202=some (λi=>(#[(0,1),(1,1),(2,1)]:Array (Nat × Nat))[i]?):=by kernel_rfl
theorem c8k:B7 Tryz.prog 212=some (λi=>(#[(0,1),(1,1)]:Array (Nat × Nat))[i]?):=by kernel_rfl
theorem c95:B7 Tryz.prog 227=some (λi=>(#[(0,1)]:Array (Nat × Nat))[i]?):=by kernel_rfl
theorem c4v:B7 Tryz.prog 286=some (λi=>(#[(0,1)]:Array (Nat × Nat))[i]?):=by kernel_rfl
theorem c96:B7 Tryz.prog 301=some (λi=>(#[(0,1),(1,1),(2,1)]:Array (Nat × Nat))[i]?):=by kernel_rfl
theorem c97:B7 Tryz.prog 310=some (λi=>(#[(0,1)]:Array (Nat × Nat))[i]?):=by kernel_rfl
theorem c98:B7 Tryz.prog 343=some (λi=>(#[(0,1),(1,1)]:Array (Nat × Nat))[i]?):=by kernel_rfl
theorem c8l:B7 Tryz.prog 359=some (λi=>some (i*1,1)):=by kernel_rfl
theorem c8p:a2a Tryz.prog 181=some [1,1,1]:=by kernel_rfl
theorem c8q:a2a Tryz.prog 184=some [1,1,1]:=by kernel_rfl
theorem d0a:a2a Tryz.prog 359=some [1,1,1,1]:=by kernel_rfl
theorem s3:o8 Tryz.prog 3=some 1:=by kernel_rfl
theorem s4:o8 Tryz.prog 4=some 1:=by kernel_rfl
theorem s24:o8 Tryz.prog 24=some 2:=by kernel_rfl
theorem s26:o8 Tryz.prog 26=some 3:=by kernel_rfl
theorem s27:o8 Tryz.prog 27=some 1:=by kernel_rfl
theorem s30:o8 Tryz.prog 30=some 1:=by kernel_rfl
theorem s32:o8 Tryz.prog 32=some 2:=by kernel_rfl
theorem O0:o8 Tryz.prog 34=some 8:=by kernel_rfl
theorem s36:o8 Tryz.prog 36=some 4:=by kernel_rfl
theorem s37:o8 Tryz.prog 37=some 1:=by kernel_rfl
theorem s44:o8 Tryz.prog 44=some 3:=by kernel_rfl
theorem s49:o8 Tryz.prog 49=some 2:=by kernel_rfl
theorem s51:o8 Tryz.prog 51=some 8:=by kernel_rfl
theorem s78:o8 Tryz.prog 78=some 6:=by kernel_rfl
theorem s84:o8 Tryz.prog 84=some 3:=by kernel_rfl
theorem b7g:o8 Tryz.prog 116=some 6:=by kernel_rfl
theorem a91:o8 Tryz.prog 134=some 8:=by kernel_rfl
theorem d0j:o8 Tryz.prog 138=some 1:=by kernel_rfl
theorem c8B:o8 Tryz.prog 140=some 2:=by kernel_rfl
theorem a4I:o8 Tryz.prog 143=some 8:=by kernel_rfl
theorem a35:o8 Tryz.prog 156=some 4:=by kernel_rfl
theorem c21:o8 Tryz.prog 178=some 3:=by kernel_rfl
theorem b3P:o8 Tryz.prog 180=some 3:=by kernel_rfl
theorem a8G:o8 Tryz.prog 181=some 3:=by kernel_rfl
theorem b3Q:o8 Tryz.prog 183=some 3:=by kernel_rfl
theorem b3R:o8 Tryz.prog 184=some 3:=by kernel_rfl
theorem b3S:o8 Tryz.prog 196=some 2:=by kernel_rfl
theorem c0v:o8 Tryz.prog 202=some 3:=by kernel_rfl
theorem c22:o8 Tryz.prog 212=some 2:=by kernel_rfl
theorem c8C:o8 Tryz.prog 286=some 1:=by kernel_rfl
theorem d0k:o8 Tryz.prog 359=some 4:=by kernel_rfl
theorem u3:Tryz.prog.underlying 3=some (.int .i64):=by kernel_rfl
theorem u4:Tryz.prog.underlying 4=some (.bool):=by kernel_rfl
theorem z3:u7 Tryz.prog 3=some ((.I 0)):=by kernel_rfl
theorem z4:u7 Tryz.prog 4=some ((.bool false)):=by kernel_rfl
theorem z24:u7 Tryz.prog 24=some ((.agg #[(.slice none 0 0),(.I 0)])):=by kernel_rfl
theorem z26:u7 Tryz.prog 26=some ((.agg #[(.slice none 0 0),(.I 0),(.I 0)])):=by kernel_rfl
theorem z32:u7 Tryz.prog 32=some ((.agg #[(.slice none 0 0),(.I 0)])):=by kernel_rfl
theorem z34:u7 Tryz.prog 34=some ((.agg #[(.slice none 0 0),(.I 0),(.I 0),(.slice none 0 0),(.slice none 0 0),(.slice none 0 0),(.slice none 0 0),(.I 0)])):=by kernel_rfl
theorem z36:u7 Tryz.prog 36=some ((.agg #[(.I 0),(.I 0),(.I 0),(.I 0)])):=by kernel_rfl
theorem z37:u7 Tryz.prog 37=some (.nilFunc):=by kernel_rfl
theorem z44:u7 Tryz.prog 44=some ((.agg #[(.slice none 0 0),(.I 0),(.I 0)])):=by kernel_rfl
theorem z49:u7 Tryz.prog 49=some ((.agg #[(.slice none 0 0),(.I 0)])):=by kernel_rfl
theorem z51:u7 Tryz.prog 51=some ((.agg #[(.slice none 0 0),(.I 0),(.I 0),(.slice none 0 0),(.slice none 0 0),(.slice none 0 0),(.slice none 0 0),(.I 0)])):=by kernel_rfl
theorem z78:u7 Tryz.prog 78=some ((.agg #[(.I 0),(.I 0),(.I 0),(.I 0),(.bool false),(.slice none 0 0)])):=by kernel_rfl
theorem z84:u7 Tryz.prog 84=some ((.agg #[(.I 0),(.bool false),(.I 0)])):=by kernel_rfl
theorem z90:u7 Tryz.prog 90=some (.nilFunc):=by kernel_rfl
theorem z96:u7 Tryz.prog 96=some ((.agg #[(.slice none 0 0),(.I 0),(.I 0),(.slice none 0 0),(.slice none 0 0),(.slice none 0 0),(.slice none 0 0),(.I 0),(.I 0),(.I 0),(.I 0),(.I 0)])):=by kernel_rfl
theorem d0l:u7 Tryz.prog 116=some ((.agg #[(.I 0),(.I 0),(.I 0),(.I 0),(.bool false),(.slice none 0 0)])):=by kernel_rfl
theorem c7v:u7 Tryz.prog 134=some ((.agg #[(.I 0),(.I 0),(.I 0),(.I 0),(.I 0),(.I 0),(.bool false),(.slice none 0 0)])):=by kernel_rfl
theorem d0m:u7 Tryz.prog 140=some ((.agg #[(.slice none 0 0),(.I 0)])):=by kernel_rfl
theorem c0K:u7 Tryz.prog 143=some ((.agg #[(.I 0),(.I 0),(.I 0),(.I 0),(.I 0),(.I 0),(.bool false),(.slice none 0 0)])):=by kernel_rfl
theorem d0n:u7 Tryz.prog 150=some ((.slice none 0 0)):=by kernel_rfl
theorem a3t:u7 Tryz.prog 156=some ((.agg #[.nilFunc,(.I 0),(.I 0),(.I 0)])):=by kernel_rfl
theorem c8Q:u7 Tryz.prog 178=some ((.agg #[(.I 0),(.bool false),(.I 0)])):=by kernel_rfl
theorem c8R:u7 Tryz.prog 180=some ((.agg #[(.I 0),(.I 0),(.I 0)])):=by kernel_rfl
theorem c0L:u7 Tryz.prog 181=some ((.agg #[(.I 0),(.I 0),(.I 0)])):=by kernel_rfl
theorem c8S:u7 Tryz.prog 183=some ((.agg #[(.I 0),(.I 0),(.I 0)])):=by kernel_rfl
theorem c3r:u7 Tryz.prog 184=some ((.agg #[(.I 0),(.I 0),(.I 0)])):=by kernel_rfl
theorem c7w:u7 Tryz.prog 196=some ((.agg #[(.I 0),(.I 0)])):=by kernel_rfl
theorem c7x:u7 Tryz.prog 202=some ((.agg #[(.I 0),(.I 0),(.I 0)])):=by kernel_rfl
theorem c0M:u7 Tryz.prog 212=some ((.agg #[(.I 0),(.I 0)])):=by kernel_rfl
theorem d0o:u7 Tryz.prog 227=some ((.agg #[.nilFunc])):=by kernel_rfl
theorem c3s:u7 Tryz.prog 286=some ((.agg #[.nilFunc])):=by kernel_rfl
theorem d0p:u7 Tryz.prog 301=some ((.agg #[(.I 0),(.I 0),(.I 0)])):=by kernel_rfl
theorem d0q:u7 Tryz.prog 310=some ((.agg #[(.slice none 0 0)])):=by kernel_rfl
theorem d0r:u7 Tryz.prog 343=some ((.agg #[(.I 0),(.I 0)])):=by kernel_rfl
theorem c8T:u7 Tryz.prog 359=some ((.agg #[(.I 0),(.I 0),(.I 0),(.I 0)])):=by kernel_rfl
theorem mix:Tryz.prog.follows .mixedOrders=true:=by kernel_rfl
end Ty
def tb:TB:=⟨[((24,0),(0,22)),((24,1),(1,3)),((26,0),(0,24)),((26,1),(2,3)),((32,0),(0,30)),((32,1),(1,3)),((34,0),(0,26)),((34,1),(3,27)),((34,2),(4,28)),((34,3),(5,29)),((34,4),(6,32)),((36,0),(0,3)),((36,1),(1,3)),((36,2),(2,3)),((36,3),(3,3)),((44,0),(0,42)),((44,1),(1,3)),((49,0),(0,47)),((49,1),(1,3)),((51,0),(0,44)),((51,1),(3,27)),((51,2),(4,45)),((51,3),(5,46)),((51,4),(6,49)),((78,0),(0,3)),((78,1),(1,3)),((78,2),(2,3)),((78,5),(5,27)),((84,0),(0,3)),((84,1),(1,4)),((84,2),(2,3)),((96,0),(0,34)),((96,1),(8,36)),((116,0),(0,3)),((116,1),(1,3)),((116,2),(2,3)),((116,3),(3,3)),((116,4),(4,4)),((116,5),(5,27)),((134,0),(0,3)),((134,1),(1,3)),((134,2),(2,78)),((140,0),(0,138)),((143,0),(0,3)),((143,1),(1,3)),((143,2),(2,116)),((156,0),(0,154)),((156,1),(1,3)),((156,3),(3,39)),((178,0),(0,3)),((178,2),(2,3)),((180,0),(0,3)),((180,1),(1,3)),((180,2),(2,3)),((181,0),(0,3)),((181,1),(1,3)),((181,2),(2,3)),((183,0),(0,3)),((183,1),(1,3)),((184,0),(0,3)),((184,1),(1,3)),((196,0),(0,3)),((196,1),(1,3)),((202,0),(0,3)),((202,1),(1,3)),((202,2),(2,3)),((212,0),(0,3)),((227,0),(0,225)),((286,0),(0,284)),((301,0),(0,3)),((301,1),(1,3)),((301,2),(2,3)),((310,0),(0,29)),((343,0),(0,3)),((343,1),(1,3))],[(3,false),(4,false),(22,false),(24,true),(26,true),(27,false),(28,false),(29,false),(30,false),(32,true),(34,true),(36,true),(37,false),(39,false),(42,false),(44,true),(45,false),(46,false),(47,false),(49,true),(51,true),(78,true),(84,true),(96,true),(116,true),(134,true),(138,false),(140,true),(143,true),(145,false),(154,false),(156,true),(178,true),(180,true),(181,true),(183,true),(184,true),(202,true),(212,true),(213,false),(215,false),(216,false),(225,false),(227,true),(284,false),(286,true)],[(3,1),(4,1),(22,1),(24,2),(26,3),(27,1),(28,1),(29,1),(32,2),(34,8),(36,4),(39,1),(44,3),(49,2),(51,8),(78,6),(84,3),(96,12),(116,6),(134,8),(140,2),(143,8),(145,1),(156,4),(178,3),(180,3),(181,3),(183,3),(184,3),(202,3),(212,2),(213,1),(216,1),(227,1),(286,1),(359,4)],[(3,.I 0),(4,.bool false),(24,.agg [.lst true (List.map slab_Cell_store_Obj.Pv []),.I 0]),(26,.agg [.lst true (List.map slab_Cell_store_Obj.Pv []),.I 0,.I 0]),(27,.lst true (List.map iF [])),(29,.lst true (List.map hash_Place.Pv [])),(32,.agg [.lst true (List.map task_Task.Pv []),.I 0]),(34,.agg [.lst true (List.map slab_Cell_store_Obj.Pv []),.I 0,.I 0,.lst true (List.map iF []),.lst true (List.map weak_Cell.Pv []),.lst true (List.map hash_Place.Pv []),.lst true (List.map task_Task.Pv []),.I 0]),(36,.agg [.I 0,.I 0,.I 0,.I 0]),(39,.I 0),(44,.agg [.lst true (List.map n0.Pv []),.I 0,.I 0]),(49,.agg [.lst true (List.map p6.Pv []),.I 0]),(51,.agg [.lst true (List.map n0.Pv []),.I 0,.I 0,.lst true (List.map iF []),.lst true (List.map p7.Pv []),.lst true (List.map j2.Pv []),.lst true (List.map p6.Pv []),.I 0]),(78,.agg [.I 0,.I 0,.I 0,.I 0,.bool false,.lst true (List.map iF [])]),(84,.agg [.I 0,.bool false,.I 0]),(116,.agg [.I 0,.I 0,.I 0,.I 0,.bool false,.lst true (List.map iF [])]),(134,.agg [.I 0,.I 0,.I 0,.I 0,.I 0,.I 0,.bool false,.lst true (List.map iF [])]),(140,.agg [.lst true (List.map z8.Pv []),.I 0]),(143,.agg [.I 0,.I 0,.I 0,.I 0,.I 0,.I 0,.bool false,.lst true (List.map iF [])]),(145,.abs b7A),(156,.agg [.nilfn,.I 0,.I 0,.I 0]),(178,.agg [.I 0,.bool false,.I 0]),(180,.agg [.I 0,.I 0,.I 0]),(181,.agg [.I 0,.I 0,.I 0]),(183,.agg [.I 0,.I 0,.I 0]),(184,.agg [.I 0,.I 0,.I 0]),(202,.agg [.I 0,.I 0,.I 0]),(212,.agg [.I 0,.I 0]),(213,.lst true (List.map j5.Pv [])),(216,.abs b7A),(227,.agg [.nilfn]),(286,.agg [.nilfn]),(359,.agg [.I 0,.I 0,.I 0,.I 0])]⟩
theorem Tb:TB.Ok Tryz.prog tb:=⟨by kernel_rfl,by kernel_rfl,by kernel_rfl,by kernel_rfl⟩
section
variable{X:Ctx}{ops:Array Oper}{K:Ctx→St→Prop}{i n:Nat}{l l':List Oper}{env env':Nat→PV}{σ σ':Nat→Option Row}{Q:PX→Ctx→St→Prop}{y:Code}{KD:St→Prop}{bar:List Nat}
theorem S1(n:Nat)(h:run tb n l env σ=some (l',env',σ'))(k:Sq X ops (i+n) l' K ⟨env',σ'⟩)(hb:TB.Ok X.P tb:=by exact Tb):Sq X ops i l K ⟨env,σ⟩:=seg hb n h k
theorem S2(n:Nat)(h:run tb n l env σ=some ([],env',σ'))(k:K X ⟨env',σ'⟩)(hb:TB.Ok X.P tb:=by exact Tb):Sq X ops i l K ⟨env,σ⟩:=seg hb n h (yN k)
theorem S3{id:Nat}(n:Nat)(h:run tb n l env σ=some (l',env',σ'))(k:Sq X l.toArray (0+n) l' (λX' s=>Q2 X' y Q s) ⟨env',σ'⟩)(hd:a1T X.N l.toArray=true:=by kernel_rfl)(hb:TB.Ok X.P tb:=by exact Tb):Q2 X (.seq (.region id l.toArray false) y) Q ⟨env,σ⟩:=sr hd (seg hb n h k)
theorem S4{id:Nat}(n:Nat)(h:run tb n l env σ=some ([],env',σ'))(k:Q2 X y Q ⟨env',σ'⟩)(hd:a1T X.N l.toArray=true:=by kernel_rfl)(hb:TB.Ok X.P tb:=by exact Tb):Q2 X (.seq (.region id l.toArray false) y) Q ⟨env,σ⟩:=sr hd (seg hb n h (yN k))
theorem S5{id:Nat}(n:Nat)(h:run tb n l env σ=some (l',env',σ'))(k:Sq X l.toArray (0+n) l' (Q .normal) ⟨env',σ'⟩)(hd:a1T X.N l.toArray=true:=by kernel_rfl)(hb:TB.Ok X.P tb:=by exact Tb):Q2 X (.region id l.toArray false) Q ⟨env,σ⟩:=sr1 hd (seg hb n h k)
theorem S6{id:Nat}(n:Nat)(h:run tb n l env σ=some ([],env',σ'))(k:Q .normal X ⟨env',σ'⟩)(hd:a1T X.N l.toArray=true:=by kernel_rfl)(hb:TB.Ok X.P tb:=by exact Tb):Q2 X (.region id l.toArray false) Q ⟨env,σ⟩:=sr1 hd (seg hb n h (yN k))
theorem S7(n:Nat)(h:c4J tb bar n i l env σ=some (l',env',σ'))(k:Ex X.P ops bar true (i+n) l' ⟨env',σ'⟩ KD)(hb:TB.Ok X.P tb:=by exact Tb):Ex X.P ops bar true i l ⟨env,σ⟩ KD:=dG hb n h k
theorem S8(n:Nat)(h:c4J tb bar n i l env σ=some ([],env',σ'))(k:KD ⟨env',σ'⟩)(hb:TB.Ok X.P tb:=by exact Tb):Ex X.P ops bar true i l ⟨env,σ⟩ KD:=dG hb n h k
end
theorem c7i:b4A Tryz.prog (Tryz.sortF_ren.f 6):=c0A Tryz.sortF
theorem b53{a0}:PO Tryz.prog 53 [store_Store.Pv a0] (a7J a0) λr=>.bool r:=by
 refine pO Tryz.func53 λr h _ _=>?_
 refine S4 2 J ?_
 refine jq h (λ_=>St.of [(1,.ptr 1 0 0)] [(1,vR (store_Store.Pv a0) 3)]) (λq6 h=>?_) λκ5 h=>?_
 ·refine S3 3 J ?_
  refine nL J Ty.e22<|S2 2 J<|a7 ?_
  cases h
  exact f1
 ·refine S4 1 J ?_
  refine b9<|lq h (λs8=>St.of [(1,.ptr 1 0 0),(3,.I s8)] [(1,vR (store_Store.Pv a0) 3)]) W λs8 x9 h hx8=>g5<|S3 4 J<|nL J Ty.e22<|S1 2 J<|b8 J (λhg=>mI J)<|b8 J (λhg=>j8 (ct hg) J J)<|y0 J (l7 J J J (λq=>L5 q))<|yN ?_
  refine cN h (λhc h=>?_) λhc h=>?_
  ·refine a8 ?_
   refine g5<|b9<|S3 4 J<|iL h J J Ty.e22 Ty.a4I λv10 _ h=>S1 3 J<|nL J Ty.z6<|S2 1 J ?_
   refine cN h (λhc h=>?_) λhc h=>?_
   ·refine S4 1 J ?_
    refine a7 ?_
    have h:=xL hx8 h
    cases h
    exact f1
   ·refine a8 ?_
    refine S6 3 J ?_
    exact eL h W
  ·refine k8 ?_
   refine b7<|b7<|g8 ?_
   have h:=xL hx8 h
   exact eJ h W

theorem a8N{a0}:PO Tryz.prog 16 [hold_Heap.Pv a0] (a5L a0) λr=>.bool r:=by
 refine pO Tryz.func16 λr h _ _=>?_
 refine S4 2 J<|S3 2 J<|cA h b53 J J λv1 _ h=>S1 1 J<|b8 J (λhg=>oF J Ty.b8T J)<|b8 J (λhg=>oS (ct hg) J J Ty.a27 J)<|b8 J (λhg=>M0 (f:=iF) (ct hg) Ty.z6)<|b8 J (λhg=>j8 (ct hg) J J)<|y0 J (l7 J J J (λq=>L5 q))<|S1 1 J<|b8 J (λhg=>oF J Ty.b35 J)<|b8 J (λhg=>oS (ct hg) J J Ty.a28 J)<|b8 J (λhg=>M0 (f:=weak_Cell.Pv) (ct hg) Ty.e28)<|b8 J (λhg=>j8 (ct hg) J J)<|y0 J (l7 J J J (λq=>L5 q))<|S1 1 J<|b8 J (λhg=>oF J Ty.c5e J)<|b8 J (λhg=>oS (ct hg) J J Ty.a29 J)<|b8 J (λhg=>M0 (f:=hash_Place.Pv) (ct hg) Ty.e29)<|b8 J (λhg=>j8 (ct hg) J J)<|y0 J (l7 J J J (λq=>L5 q))<|S1 1 J<|b8 J (λhg=>oF J Ty.b6q J)<|b8 J (λhg=>oF (ct hg) Ty.c1r J)<|b8 J (λhg=>oS (ct hg) J J Ty.a30 J)<|b8 J (λhg=>M0 (f:=task_Task.Pv) (ct hg) Ty.e30)<|b8 J (λhg=>j8 (ct hg) J J)<|y0 J (l7 J J J (λq=>L5 q))<|S2 1 J<|a7 ?_
 cases h
 exact f1

theorem b8G{a0}:PO Tryz.prog 82 [store_Obj.Pv a0] (b1X a0) λr=>A5.Pv r:=by
 refine pO Tryz.func82 λr h _ _=>?_
 unfold b1X at h
 refine S4 2 J<|S3 12 J<|y0 J (m7 (cs:=[.I a0.Serial,.I a0.Strong,.I a0.Weak,.I a0.Prog,.bool a0.Started,.L iF a0.Fields]) J Ty.p78 Ty.z78 J J J)<|S2 1 J<|a7 ?_
 cases h
 exact⟨J,[_],⟨oL J J J Ty.a78 Ty.s78 nl J,tr⟩,J,io⟩

theorem b3j{a0}:PO Tryz.prog 34 [store_Store.Pv a0] (b0g a0) λr=>j1.Pv r:=by
 refine pO Tryz.func34 λr h _ _=>?_
 refine S4 2 J<|sR<|y0 J (F7 J Ty.e42 Ty.a91)<|S2 1 J ?_
 refine jq h (λj10=>St.of [(1,.ptr 1 0 0),(2,.ptr 2 0 0),(3,.sl 910003)] [(910003,⟨List.map n0.Pv j10,(List.map n0.Pv j10).length,true,8,true⟩),(2,vR (.agg [.nl,.I 0,.I 0]) 3),(1,vR (store_Store.Pv a0) 3)]) (λj10 h=>?_) λκ9 h=>?_
 ·refine S3 6 J ?_
  refine y0 J (m7 (cs:=[.sl 910003,.I a0.S.Last,.I a0.Serial]) J Ty.p44 Ty.z44 J J J)<|S2 1 J<|a7 ?_
  cases h
  exact⟨J,[_],⟨oL J J J Ty.a44 Ty.s44 nl J,tr⟩,J,io⟩
 ·refine S4 1 J ?_
  refine b9<|lq h (λq=>St.of [(1,.ptr 1 0 0),(2,.ptr 2 0 0),(3,.sl 910003),(4,.I q.1)] [(2,vR (.agg [.nl,.I 0,.I 0]) 3),(1,vR (store_Store.Pv a0) 3),(910003,⟨List.map n0.Pv q.2,(List.map n0.Pv q.2).length,true,8,true⟩)]) (Wk.trans (I0 (t:=3) (l:=920003) (z:=8) J J) (WP (λl=>if l=910003 then 920003 else l))) λq15 x14 h hx10=>?_
  obtain⟨s12,s13⟩:=q15
  refine g5<|S3 4 J<|nL J Ty.e22<|S2 1 J ?_
  refine cN h (λhc h=>?_) λhc h=>?_
  ·refine a8 ?_
   refine g5<|b9<|S3 4 J<|iL h J J Ty.e22 Ty.a4I λv16 _ h=>S2 3 J<|a6A [] Ty.mix (by kernel_rfl) (by kernel_rfl)<|S7 7 J<|s6 h λv17 hv12 h=>d2f J (y8 J b8G J hv12) J<|d7 J (λ_ hN=>m7 (cs:=[.I v16.State,.I v16.Gen,.I v17.Serial,.I v17.Strong,.I v17.Weak,.I v17.Prog,.bool v17.Started,.L iF v17.Fields]) J Ty.c91 Ty.c7v J J J) J<|d1n J (M3 (f:=n0.Pv) (l:=[(⟨v16.State,v16.Gen,v17⟩:n0)]) J Ty.e42 Ty.a91 Ty.c7v J J nl J J) J<|s6 h λv18 hv13 h=>d3a J (I8 (f:=n0.Pv) hv13 J J J J J J (.inl ⟨_,J,J⟩) Ty.e42 Ty.a91 Ty.c9m Ty.c7v J (λ_=>J)) J J J J J<|S8 1 J<|S6 3 J ?_
   exact eL h (Wk.trans (l4 _ [31]) (WP (λl=>if l=910003 then 31 else l)))
  ·refine k8 ?_
   refine b7<|b7<|g8 ?_
   have h:=xL hx10 h
   exact eJ h (Wk.trans (l4 _ [910003]) W)

theorem b52{a0}:PO Tryz.prog 50 [.L weak_Cell.Pv a0] (a7I a0) λr=>.L p7.Pv r:=by
 refine pO Tryz.func50 λr h _ _=>?_
 refine S4 1 J<|sR<|y0 J (F7 J Ty.e45 Ty.c21)<|S2 1 J ?_
 refine jq h (λj9=>St.of [(3,.sl 910003)] [(910003,⟨List.map p7.Pv j9,(List.map p7.Pv j9).length,true,3,true⟩)]) (λj9 h=>?_) λκ8 h=>?_
 ·refine S4 2 J ?_
  refine a7 ?_
  cases h
  exact f1
 ·refine S4 1 J ?_
  refine b9<|lq h (λq=>St.of [(0,.L weak_Cell.Pv a0),(3,.sl 910003),(4,.I q.1)] [(910003,⟨List.map p7.Pv q.2,(List.map p7.Pv q.2).length,true,3,true⟩)]) (Wk.trans (I0 (t:=3) (l:=920003) (z:=3) J J) (WP (λl=>if l=910003 then 920003 else l))) λq14 x13 h hx9=>?_
  obtain⟨s11,s12⟩:=q14
  refine g5<|S3 2 J<|nL J Ty.e28<|S2 1 J ?_
  refine cN h (λhc h=>?_) λhc h=>?_
  ·refine a8 ?_
   refine g5<|b9<|S5 3 J<|iL h J J Ty.e28 Ty.s84 λv15 _ h=>S1 1 J<|y0 J (M3 (f:=p7.Pv) (l:=[(⟨v15.Target,v15.Intact,v15.Call⟩:p7)]) J Ty.e45 Ty.c21 Ty.c8Q J J nl J J)<|s6 h λv16 hv11 h=>L9 J (I8 (f:=p7.Pv) hv11 J J J J J J (.inl ⟨_,J,J⟩) Ty.e45 Ty.c21 Ty.c9n Ty.c8Q J (λ_=>J)) J J J<|S2 1 J<|S6 3 J ?_
   exact eL h (Wk.trans (l4 _ [18]) (WP (λl=>if l=910003 then 18 else l)))
  ·refine k8 ?_
   refine b7<|b7<|g8 ?_
   have h:=xL hx9 h
   exact eJ h (Wk.trans (l4 _ [910003]) W)

theorem b8H{a0}:PO Tryz.prog 51 [.L hash_Place.Pv a0] (b1Y a0) λr=>.L j2.Pv r:=by
 refine pO Tryz.func51 λr h _ _=>?_
 refine S4 1 J<|sR<|y0 J (F7 J Ty.e46 Ty.b3P)<|S2 1 J ?_
 refine jq h (λj9=>St.of [(3,.sl 910003)] [(910003,⟨List.map j2.Pv j9,(List.map j2.Pv j9).length,true,3,true⟩)]) (λj9 h=>?_) λκ8 h=>?_
 ·refine S4 2 J ?_
  refine a7 ?_
  cases h
  exact f1
 ·refine S4 1 J ?_
  refine b9<|lq h (λq=>St.of [(0,.L hash_Place.Pv a0),(3,.sl 910003),(4,.I q.1)] [(910003,⟨List.map j2.Pv q.2,(List.map j2.Pv q.2).length,true,3,true⟩)]) (Wk.trans (I0 (t:=3) (l:=920003) (z:=3) J J) (WP (λl=>if l=910003 then 920003 else l))) λq14 x13 h hx9=>?_
  obtain⟨s11,s12⟩:=q14
  refine g5<|S3 2 J<|nL J Ty.e29<|S2 1 J ?_
  refine cN h (λhc h=>?_) λhc h=>?_
  ·refine a8 ?_
   refine g5<|b9<|S5 3 J<|iL h J J Ty.e29 Ty.a8G λv15 _ h=>S1 1 J<|y0 J (M3 (f:=j2.Pv) (l:=[(⟨v15.State,v15.Key,v15.Val⟩:j2)]) J Ty.e46 Ty.b3P Ty.c8R J J nl J J)<|s6 h λv16 hv11 h=>L9 J (I8 (f:=j2.Pv) hv11 J J J J J J (.inl ⟨_,J,J⟩) Ty.e46 Ty.b3P Ty.c9o Ty.c8R J (λ_=>J)) J J J<|S2 1 J<|S6 3 J ?_
   exact eL h (Wk.trans (l4 _ [18]) (WP (λl=>if l=910003 then 18 else l)))
  ·refine k8 ?_
   refine b7<|b7<|g8 ?_
   have h:=xL hx9 h
   exact eJ h (Wk.trans (l4 _ [910003]) W)

theorem b55{a0}:PO Tryz.prog 52 [queue_Queue_task_Task.Pv a0] (a7L a0) λr=>x6.Pv r:=by
 refine pO Tryz.func52 λr h _ _=>?_
 refine S4 2 J<|sR<|y0 J (F7 J Ty.e47 Ty.b3Q)<|S2 1 J ?_
 refine jq h (λj9=>St.of [(1,.ptr 1 0 0),(2,.ptr 2 0 0),(3,.sl 910003)] [(910003,⟨List.map p6.Pv j9,(List.map p6.Pv j9).length,true,3,true⟩),(2,vR (.agg [.nl,.I 0]) 2),(1,vR (queue_Queue_task_Task.Pv a0) 2)]) (λj9 h=>?_) λκ8 h=>?_
 ·refine S3 3 J ?_
  refine y0 J (m7 (cs:=[.sl 910003,.I a0.Cap]) J Ty.p49 Ty.z49 J J J)<|S2 1 J<|a7 ?_
  cases h
  exact⟨J,[_],⟨oL J J J Ty.a49 Ty.s49 nl J,tr⟩,J,io⟩
 ·refine S4 1 J ?_
  refine b9<|lq h (λq=>St.of [(1,.ptr 1 0 0),(2,.ptr 2 0 0),(3,.sl 910003),(4,.I q.1)] [(2,vR (.agg [.nl,.I 0]) 2),(1,vR (queue_Queue_task_Task.Pv a0) 2),(910003,⟨List.map p6.Pv q.2,(List.map p6.Pv q.2).length,true,3,true⟩)]) (Wk.trans (I0 (t:=3) (l:=920003) (z:=3) J J) (WP (λl=>if l=910003 then 920003 else l))) λq14 x13 h hx9=>?_
  obtain⟨s11,s12⟩:=q14
  refine g5<|S3 3 J<|nL J Ty.e30<|S2 1 J ?_
  refine cN h (λhc h=>?_) λhc h=>?_
  ·refine a8 ?_
   refine g5<|b9<|S5 4 J<|iL h J J Ty.e30 Ty.b3R λv15 _ h=>S1 1 J<|y0 J (M3 (f:=p6.Pv) (l:=[(⟨v15.Kind,v15.At,v15.Prog⟩:p6)]) J Ty.e47 Ty.b3Q Ty.c8S J J nl J J)<|s6 h λv16 hv11 h=>L9 J (I8 (f:=p6.Pv) hv11 J J J J J J (.inl ⟨_,J,J⟩) Ty.e47 Ty.b3Q Ty.c9p Ty.c8S J (λ_=>J)) J J J<|S2 1 J<|S6 3 J ?_
   exact eL h (Wk.trans (l4 _ [20]) (WP (λl=>if l=910003 then 20 else l)))
  ·refine k8 ?_
   refine b7<|b7<|g8 ?_
   have h:=xL hx9 h
   exact eJ h (Wk.trans (l4 _ [910003]) W)

theorem a61{a0}:PO Tryz.prog 14 [hold_Heap.Pv a0] (a16 a0) λr=>g6.Pv r:=by
 refine pO Tryz.func14 λr h _ _=>?_
 unfold a16 at h
 refine S4 2 J<|dr [] Ty.mix (by kernel_rfl) (by kernel_rfl)<|S7 2 J<|s6 h λv1 hv1 h=>d2f J (y8 J b3j J hv1) J<|S7 4 J<|s6 h λv2 hv2 h=>d2f J (y8 J b52 J hv2) J<|S7 2 J<|s6 h λv3 hv3 h=>d2f J (y8 J b8H J hv3) J<|S7 2 J<|s6 h λv4 hv4 h=>d2f J (y8 J b55 J hv4) J<|d7 J (λ_ hN=>m7 (cs:=[.L n0.Pv v1.Cells,.I v1.Last,.I v1.Serial,.L iF a0.Roots,.L p7.Pv v2,.L j2.Pv v3,.L p6.Pv v4.L,.I v4.Cap]) J Ty.p51 Ty.z51 J J J) J<|Z7 (x':=.agg [.L n0.Pv v1.Cells,.I v1.Last,.I v1.Serial,.L iF a0.Roots,.L p7.Pv v2,.L j2.Pv v3,.L p6.Pv v4.L,.I v4.Cap]) (cl':=true) J J (.inr J) Ty.s51<|a0M<|a7 ?_
 cases h
 exact⟨J,[_],⟨oL J J J Ty.a51 Ty.s51 nl J,tr⟩,J,io⟩

theorem a04{a0}:PO Tryz.prog 81 [j1.Pv a0] (J5 a0) λr=>B1.Pv r:=by
 refine pO Tryz.func81 λr h _ _=>?_
 refine S4 2 J<|S3 2 J<|y0 J (m7 (cs:=[.nl,.I a0.Last]) J Ty.c92 Ty.d0m J J J)<|S1 1 J<|b0j (x':=.agg [.nl,.I a0.Last]) (cl':=true) J J (.inl J) Ty.c8B<|yN ?_
 refine jq h (λj9=>St.of [(2,.ptr 2 0 0),(3,.ptr 3 0 0)] [(3,vS (.agg [.sl 910503,.I a0.Last]) 2),(910503,⟨List.map z8.Pv j9,(List.map z8.Pv j9).length,true,3,true⟩),(2,vR (.agg [.nl,.I 0]) 2)]) (λj9 h=>?_) λκ8 h=>?_
 ·refine S4 2 J ?_
  refine a7 ?_
  cases h
  exact⟨J,[_],⟨oL J J J Ty.c9e Ty.c8B nl J,tr⟩,J,io⟩
 ·refine S4 1 J ?_
  refine b9<|lq h (λq=>St.of [(1,.ptr 1 0 0),(2,.ptr 2 0 0),(3,.ptr 3 0 0),(4,.I q.1)] [(3,vS (.agg [.sl 910503,.I a0.Last]) 2),(2,vR (.agg [.nl,.I 0]) 2),(1,vR (j1.Pv a0) 3),(910503,⟨List.map z8.Pv q.2,(List.map z8.Pv q.2).length,true,3,true⟩)]) (Wk.trans (a7M (l0:=3) (j:=0) (l:=920503) (z:=3) J J J J J) (WP (λl=>if l=910503 then 920503 else l))) λq14 x13 h hx9=>?_
  obtain⟨s11,s12⟩:=q14
  refine g5<|S3 3 J<|nL J Ty.e42<|S2 1 J ?_
  refine cN h (λhc h=>?_) λhc h=>?_
  ·refine a8 ?_
   refine g5<|b9<|a6A [] Ty.mix (by kernel_rfl) (by kernel_rfl)<|S7 5 J<|s6 h λv15 hv10 h=>d0 J (A3 (f:=n0.Pv) (cs:=n0.Pc v15) hv10 J J Ty.e42 Ty.a91 J J) J<|S7 5 J<|d0 J (A3 (f:=n0.Pv) (cs:=n0.Pc v15) hv10 J J Ty.e42 Ty.a91 J J) J<|S7 3 J<|d7 J (λ_ hN=>m7 (cs:=[.I v15.State,.I v15.Gen,.I s11]) J Ty.c94 Ty.c7x J J J) J<|d1n J (M3 (f:=z8.Pv) (l:=[(⟨v15.State,v15.Gen,s11⟩:z8)]) J Ty.b4I Ty.c0v Ty.c7x J J nl J J) J<|s6 h λv16 hv11 h=>d3a J (I8 (f:=z8.Pv) hv11 J J J J J J (.inl ⟨_,J,J⟩) Ty.b4I Ty.c0v Ty.c9s Ty.c7x J (λ_=>J)) J J J J J<|S7 1 J<|Z7 (x':=.agg [.sl 32,.I a0.Last]) (cl':=false) J J (.inl J) Ty.d0j<|a0M<|S6 3 J ?_
   exact eL h (Wk.trans (l4 _ [32]) (WP (λl=>if l=910503 then 32 else l)))
  ·refine k8 ?_
   refine b7<|b7<|g8 ?_
   have h:=xL hx9 h
   exact eJ h (Wk.trans (l4 _ [910503]) W)

theorem b5e{a0}:PO Tryz.prog 136 [B1.Pv a0] (a7k a0) λr=>.bool r:=by
 refine pO Tryz.func136 λr h _ _=>?_
 refine S4 2 J<|g5<|S3 2 J<|nL J Ty.b4I<|S1 2 J<|b8 J (λhg=>oF J Ty.b7P J)<|b8 J (λhg=>oS (ct hg) J J Ty.a3 J)<|b8 J (λhg=>j8 (ct hg) J J)<|y0 J (o0 J J J (λq=>H3 q))<|S1 1 J<|b8 J (λhg=>oF J Ty.b7P J)<|b8 J (λhg=>oS (ct hg) J J Ty.a3 J)<|b8 J (λhg=>j8 (ct hg) J J)<|y0 J (o0 J J J (λq=>H3 q))<|yN ?_
 refine cN h (λhc h=>?_) λhc h=>?_
 ·refine S4 1 J ?_
  refine a7 ?_
  cases h
  exact f1
 ·refine a8 ?_
  refine jq h (λ_=>St.of [] []) (λq6 h=>?_) λκ5 h=>?_
  ·refine S4 1 J ?_
   refine a7 ?_
   cases h
   exact f1
  ·refine S4 1 J ?_
   refine b9<|lq h (λs8=>St.of [(1,.ptr 1 0 0),(3,.I s8)] [(1,vR (B1.Pv a0) 2)]) W λs8 x9 h hx8=>g5<|S3 3 J<|nL J Ty.b4I<|S2 1 J ?_
   refine cN h (λhc h=>?_) λhc h=>?_
   ·refine a8 ?_
    refine g5<|b9<|S3 3 J<|iL h J J Ty.b4I Ty.c0v λv10 _ h=>S2 3 J<|S3 4 J<|b8 J (λhg=>oF J Ty.b7R J)<|b8 J (λhg=>oS (ct hg) J J Ty.a3 J)<|b8 J (λhg=>j8 (ct hg) J J)<|y0 J (o0 J J J (λq=>H3 q))<|S1 1 J<|b8 J (λhg=>oF J Ty.c1n J)<|b8 J (λhg=>oS (ct hg) J J Ty.a3 J)<|b8 J (λhg=>j8 (ct hg) J J)<|y0 J (o0 J J J (λq=>H3 q))<|S1 1 J<|b8 J (λhg=>oF J Ty.c1n J)<|b8 J (λhg=>oS (ct hg) J J Ty.a3 J)<|b8 J (λhg=>oF J Ty.b7P J)<|b8 J (λhg=>oS (ct hg) J J Ty.a3 J)<|b8 J (λhg=>j8 (ct hg) (ct hg) J)<|y0 J (o0 J J J (λq=>H3 q))<|yN ?_
    refine cN h (λhc h=>?_) λhc h=>?_
    ·refine S4 1 J ?_
     refine a7 ?_
     have h:=xL hx8 h
     cases h
     exact f1
    ·refine a8 ?_
     refine S6 3 J ?_
     exact eL h W
   ·refine k8 ?_
    refine b7<|b7<|g8 ?_
    have h:=xL hx8 h
    exact eJ h W

theorem a9B{a0}:PO Tryz.prog 137 [n0.Pv a0] (a2C a0) λr=>.bool r:=by
 refine pO Tryz.func137 λr h _ _=>?_
 unfold a2C at h
 refine S4 2 J<|S3 4 J<|b8 J (λhg=>oF J Ty.b7O J)<|b8 J (λhg=>oS (ct hg) J J Ty.a3 J)<|b8 J (λhg=>j8 (ct hg) J J)<|y0 J (o0 J J J (λq=>H3 q))<|S2 1 J<|a7 ?_
 cases h
 exact f1

theorem b5j{a0}:PO Tryz.prog 68 [j1.Pv a0] (a7l a0) λr=>.bool r:=by
 refine pO Tryz.func68 λr h _ _=>?_
 refine S4 2 J<|g5<|S3 1 J<|cF h a04 J J λv1 _ h=>cA h b5e J J λv2 _ h=>S1 2 J<|b8 J (λhg=>oF J Ty.c5f J)<|b8 J (λhg=>oS (ct hg) J J Ty.a3 J)<|b8 J (λhg=>j8 (ct hg) J J)<|y0 J (o0 J J J (λq=>H3 q))<|yN ?_
 refine cN h (λhc h=>?_) λhc h=>?_
 ·refine S4 1 J ?_
  refine a7 ?_
  cases h
  exact f1
 ·refine a8 ?_
  refine jq h (λ_=>St.of [] []) (λq23 h=>?_) λκ22 h=>?_
  ·refine S4 1 J ?_
   refine a7 ?_
   cases h
   exact f1
  ·refine S4 1 J ?_
   refine b9<|lq h (λs25=>St.of [(1,.ptr 1 0 0),(3,.I s25)] [(1,vR (j1.Pv a0) 3)]) W λs25 x26 h hx24=>g5<|S3 3 J<|nL J Ty.e42<|S2 1 J ?_
   refine cN h (λhc h=>?_) λhc h=>?_
   ·refine a8 ?_
    refine jq h (λ_=>St.of [(1,.ptr 1 0 0),(3,.I s25)] [(1,vR (j1.Pv a0) 3)]) (λq35 h=>?_) λκ34 h=>?_
    ·refine S6 3 J ?_
     exact eL h W
    ·refine b9 ?_
     refine S3 3 J<|iL h J J Ty.e42 Ty.a91 λv36 _ h=>S2 3 J<|S4 4 J<|g5<|S3 1 J<|cA h a9B J J λv37 _ h=>S2 1 J ?_
     refine cN h (λhc h=>?_) λhc h=>?_
     ·refine g5 ?_
      refine S3 4 J<|b8 J (λhg=>oF J Ty.c1w J)<|b8 J (λhg=>oS (ct hg) J J Ty.a3 J)<|b8 J (λhg=>j8 (ct hg) J J)<|y0 J (o0 J J J (λq=>H3 q))<|S1 1 J<|b8 J (λhg=>oF J Ty.c1x J)<|b8 J (λhg=>oS (ct hg) J J Ty.a3 J)<|b8 J (λhg=>j8 (ct hg) J J)<|y0 J (o0 J J J (λq=>H3 q))<|S1 1 J<|b8 J (λhg=>oF J Ty.c1y J)<|b8 J (λhg=>oS (ct hg) J J Ty.a3 J)<|b8 J (λhg=>j8 (ct hg) J J)<|y0 J (o0 J J J (λq=>H3 q))<|S1 1 J<|b8 J (λhg=>oF J Ty.c5h J)<|b8 J (λhg=>oS (ct hg) J J Ty.a4 J)<|y0 J (o0 J J J (λq=>H3 q))<|S1 1 J<|b8 J (λhg=>oF J Ty.c1z J)<|b8 J (λhg=>oS (ct hg) J J Ty.a27 J)<|b8 J (λhg=>M0 (f:=iF) (ct hg) Ty.z6)<|b8 J (λhg=>j8 (ct hg) J J)<|y0 J (o0 J J J (λq=>H3 q))<|yN ?_
      refine cN h (λhc h=>?_) λhc h=>?_
      ·refine S4 1 J ?_
       refine a7 ?_
       have h:=xL hx24 h
       cases h
       exact f1
      ·refine a8 ?_
       refine k8<|b7<|g8 ?_
       exact eJ h W
     ·refine a8 ?_
      refine g5<|S3 4 J<|b8 J (λhg=>oF J Ty.b07 J)<|b8 J (λhg=>oS (ct hg) J J Ty.a3 J)<|b8 J (λhg=>oF J Ty.c5f J)<|b8 J (λhg=>oS (ct hg) J J Ty.a3 J)<|b8 J (λhg=>j8 (ct hg) (ct hg) J)<|y0 J (o0 J J J (λq=>H3 q))<|S1 1 J<|b8 J (λhg=>oF J Ty.c1w J)<|b8 J (λhg=>oS (ct hg) J J Ty.a3 J)<|b8 J (λhg=>j8 (ct hg) J J)<|y0 J (o0 J J J (λq=>H3 q))<|S1 1 J<|b8 J (λhg=>oF J Ty.c1x J)<|b8 J (λhg=>oS (ct hg) J J Ty.a3 J)<|b8 J (λhg=>j8 (ct hg) J J)<|y0 J (o0 J J J (λq=>H3 q))<|S1 1 J<|b8 J (λhg=>oF J Ty.c1y J)<|b8 J (λhg=>oS (ct hg) J J Ty.a3 J)<|b8 J (λhg=>j8 (ct hg) J J)<|y0 J (o0 J J J (λq=>H3 q))<|S1 1 J<|b8 J (λhg=>oF J Ty.c1y J)<|b8 J (λhg=>oS (ct hg) J J Ty.a3 J)<|b8 J (λhg=>j8 (ct hg) J J)<|y0 J (o0 J J J (λq=>H3 q))<|S1 1 J<|b8 J (λhg=>oF J Ty.c1z J) ?_
      refine b8 J (λhg=>oS (ct hg) J J Ty.a27 J)<|b8 J (λhg=>M0 (f:=iF) (ct hg) Ty.z6)<|b8 J (λhg=>j8 (ct hg) J J)<|y0 J (o0 J J J (λq=>H3 q))<|yN ?_
      refine cN h (λhc h=>?_) λhc h=>?_
      ·refine S4 1 J ?_
       refine a7 ?_
       have h:=xL hx24 h
       cases h
       exact f1
      ·refine a8 ?_
       refine S4 1 J<|b9<|lq h (λs39=>St.of [(1,.ptr 1 0 0),(3,.I s25),(5,.ptr 5 0 0),(6,.I s39)] [(5,vR (A5.Pv v36.Val) 6),(1,vR (j1.Pv a0) 3)]) W λs39 x40 h hx37=>g5<|S4 3 J ?_
       refine cN h (λhc h=>?_) λhc h=>?_
       ·refine a8 ?_
        refine g5<|b9<|dr [] Ty.mix (by kernel_rfl) (by kernel_rfl)<|S7 3 J<|s6 h λv41 hv38 h=>d0 J (A3 (f:=n0.Pv) (cs:=n0.Pc v41) hv38 J J Ty.e42 Ty.a91 J J) J<|S7 1 J<|s6 h λv42 hv39 h=>d2 J (D3 J a9B J hv39) J<|S7 1 J<|r9 J (λhg _ hN=>oF J Ty.c1t J) J<|D0 J (λhg=>oS (ct hg) J J Ty.a42 J) J<|r9 J (λhg _ hN=>mI J) J<|D0 J (λhg=>A3 (f:=n0.Pv) (cs:=n0.Pc v41) hv38 (ct hg) (ct hg) Ty.e42 Ty.a91 J J) J<|r9 J (λhg _ hN=>B2 (ct hg) Ty.b0x J) J<|r9 J (λhg _ hN=>B2 (ct hg) Ty.b07 J) J<|D0 J (λhg=>B4 (ct hg) Ty.a3 J) J<|r9 J (λhg _ hN=>oF J Ty.b07 J) J<|D0 J (λhg=>oS (ct hg) J J Ty.a3 J) J<|r9 J (λhg _ hN=>j8 (ct hg) (ct hg) J) J<|d7 J (λ_ hN=>l7 J J J (λq=>L5 q)) J<|a0M ?_
        refine cN h (λhc h=>?_) λhc h=>?_
        ·refine S4 1 J ?_
         refine a7 ?_
         have h:=xL hx37 h
         have h:=xL hx24 h
         cases h
         exact f1
        ·refine a8 ?_
         refine S6 3 J ?_
         exact eL h W
       ·refine k8 ?_
        refine b7<|b7<|g8 ?_
        have h:=xL hx37 h
        exact eJ h W
   ·refine k8 ?_
    refine b7<|b7<|g8 ?_
    have h:=xL hx24 h
    exact eJ h W

theorem b1g{a0 a1}:PO Tryz.prog 138 [.L j2.Pv a0,.I a1] (a0e a0 a1) λr=>.I r:=by
 refine pO Tryz.func138 λr h _ _=>?_
 refine S4 1 J ?_
 refine jq h (λ_=>St.of [] []) (λq6 h=>?_) λκ5 h=>?_
 ·refine S4 1 J ?_
  refine a7 ?_
  cases h
  exact f1
 ·refine S4 1 J ?_
  refine b9<|lq h (λs8=>St.of [(0,.L j2.Pv a0),(1,.I a1),(5,.I s8)] []) W λs8 x9 h hx8=>g5<|S3 2 J<|nL J Ty.e46<|S2 1 J ?_
  refine cN h (λhc h=>?_) λhc h=>?_
  ·refine a8 ?_
   refine g5<|b9<|S3 2 J<|iL h J J Ty.e46 Ty.b3P λv10 hv9 h=>S1 4 J<|b8 J (λhg=>om (d:=.L j2.Pv a0) J)<|b8 J (λhg=>mI J)<|b8 J (λhg=>A3 (f:=j2.Pv) (cs:=j2.Pc v10) hv9 (ct hg) (ct hg) Ty.e46 Ty.b3P J J)<|b8 J (λhg=>B2 (ct hg) Ty.c1g J)<|b8 J (λhg=>B4 (ct hg) Ty.a3 J)<|b8 J (λhg=>mI J)<|b8 J (λhg=>j8 (ct hg) (ct hg) J)<|y0 J (l7 J J J (λq=>L5 q))<|yN ?_
   refine cN h (λhc h=>?_) λhc h=>?_
   ·refine S4 2 J ?_
    refine a7 ?_
    have h:=xL hx8 h
    cases h
    exact f1
   ·refine a8 ?_
    refine S6 3 J ?_
    exact eL h W
  ·refine k8 ?_
   refine b7<|b7<|g8 ?_
   have h:=xL hx8 h
   exact eJ h W

theorem b60{a0 a1}:PO Tryz.prog 139 [.I a0,.I a1] (a9F a0 a1) λr=>.I r:=by
 refine pO Tryz.func139 λr h _ _=>?_
 refine S4 1 J<|g5<|S4 2 J ?_
 refine cN h (λhc h=>?_) λhc h=>?_
 ·refine S4 1 J ?_
  refine a7 ?_
  cases h
  exact f1
 ·refine a8 ?_
  refine S3 4 J<|s6 h λv1 hv1 h=>y0 J (a4t J J hv1)<|S2 1 J<|g5<|S4 2 J ?_
  refine cN h (λhc h=>?_) λhc h=>?_
  ·refine S6 4 J ?_
   refine S4 2 J<|a7 ?_
   cases h
   exact f1
  ·refine a8 ?_
   refine S4 2 J<|a7 ?_
   cases h
   exact f1

theorem b5n{a0}:PO Tryz.prog 69 [.L j2.Pv a0] (a7o a0) λr=>.bool r:=by
 refine pO Tryz.func69 λr h _ _=>?_
 refine S4 1 J<|S3 1 J<|nL J Ty.e46<|S2 1 J<|g5<|S3 3 J<|b8 J (λhg=>mI J)<|b8 J (λhg=>j8 (ct hg) J J)<|y0 J (o0 J J J (λq=>H3 q))<|yN ?_
 refine cN h (λhc h=>?_) λhc h=>?_
 ·refine S4 1 J ?_
  refine a7 ?_
  cases h
  exact f1
 ·refine a8 ?_
  refine jq h (λ_=>St.of [] []) (λq23 h=>?_) λκ22 h=>?_
  ·refine S4 1 J ?_
   refine a7 ?_
   cases h
   exact f1
  ·refine S4 1 J ?_
   refine b9<|lq h (λs25=>St.of [(0,.L j2.Pv a0),(3,.I (a0.length:Int)),(4,.I s25)] []) W λs25 x26 h hx24=>g5<|S4 3 J ?_
   refine cN h (λhc h=>?_) λhc h=>?_
   ·refine a8 ?_
    refine jq h (λ_=>St.of [(0,.L j2.Pv a0),(3,.I (a0.length:Int)),(4,.I s25)] []) (λq36 h=>?_) λκ35 h=>?_
    ·refine S6 3 J ?_
     exact eL h W
    ·refine b9 ?_
     refine S3 2 J<|iL h J J Ty.e46 Ty.b3P λv37 _ h=>S2 3 J<|g5<|S3 4 J<|b8 J (λhg=>oF J Ty.c1f J)<|b8 J (λhg=>oS (ct hg) J J Ty.a3 J)<|b8 J (λhg=>j8 (ct hg) J J)<|y0 J (o0 J J J (λq=>H3 q))<|S1 1 J<|b8 J (λhg=>oF J Ty.c1f J)<|b8 J (λhg=>oS (ct hg) J J Ty.a3 J)<|b8 J (λhg=>j8 (ct hg) J J)<|b8 J (λhg=>om (d:=.bool (v37.State != 1)) (ct hg))<|b8 (m8 J J J) (λhg=>oF J Ty.c1g J)<|b8 (m8 J J J) (λhg=>oS (ct hg) J J Ty.a3 J)<|b8 (m8 J J J) (λhg=>j8 (ct hg) J J)<|b8 (m8 J J J) (λhg=>om (d:=.bool (v37.Key != 0)) (ct hg))<|b8 (m8 J J J) (λhg=>oF J Ty.c6d J)<|b8 (m8 J J J) (λhg=>oS (ct hg) J J Ty.a3 J)<|b8 (m8 J J J) (λhg=>j8 (ct hg) J J)<|b8 (m8 J J J) (λhg=>o0 (ct hg) J J (λq=>a1g hg (H3 q)))<|b8 J (λhg=>l7 (ct hg) J J (λq=>a1g hg (L5 q)))<|y0 J (o0 J J J (λq=>H3 q))<|yN ?_
     refine cN h (λhc h=>?_) λhc h=>?_
     ·refine S4 1 J ?_
      refine a7 ?_
      have h:=xL hx24 h
      cases h
      exact f1
     ·refine a8 ?_
      refine g5<|S4 3 J ?_
      refine cN h (λhc h=>?_) λhc h=>?_
      ·refine k8 ?_
       refine b7<|g8 ?_
       exact eJ h W
      ·refine a8 ?_
       refine g5<|S3 3 J<|cA h b1g J J λv38 _ h=>S2 2 J ?_
       refine cN h (λhc h=>?_) λhc h=>?_
       ·refine S4 1 J ?_
        refine a7 ?_
        have h:=xL hx24 h
        cases h
        exact f1
       ·refine a8 ?_
        refine S3 3 J<|cA h b60 J J λv39 _ h=>S2 1 J<|b9<|lq h (λs41=>St.of [(0,.L j2.Pv a0),(3,.I (a0.length:Int)),(4,.I s25),(6,.I s41)] []) W λs41 x42 h hx39=>g5<|S4 3 J ?_
        refine cN h (λhc h=>?_) λhc h=>?_
        ·refine a8 ?_
         refine g5<|b9<|S3 2 J<|iL h J J Ty.e46 Ty.b3P λv43 _ h=>S2 3 J ?_
         refine cN h (λhc h=>?_) λhc h=>?_
         ·refine S4 1 J ?_
          refine a7 ?_
          have h:=xL hx39 h
          have h:=xL hx24 h
          cases h
          exact f1
         ·refine a8 ?_
          refine S5 3 J<|s6 h λv44 hv41 h=>y0 J (a4t J J hv41)<|S2 1 J ?_
          exact eL h W
        ·refine k8 ?_
         refine b7<|b7<|g8 ?_
         have h:=xL hx39 h
         exact eJ h W
   ·refine k8 ?_
    refine b7<|b7<|g8 ?_
    have h:=xL hx24 h
    exact eJ h W

theorem a6B{a0 a1}:PO Tryz.prog 78 [.I a0,.I a1] (a1Z a0 a1) λr=>.I r:=by
 refine pO Tryz.func78 λr h _ _=>?_
 refine S4 1 J<|g5<|S3 3 J<|b8 J (λhg=>mI J)<|b8 J (λhg=>j8 (ct hg) J J)<|y0 J (o0 J J J (λq=>H3 q))<|S1 1 J<|b8 J (λhg=>mI J)<|b8 J (λhg=>j8 (ct hg) J J)<|y0 J (o0 J J J (λq=>H3 q))<|S1 1 J<|b8 J (λhg=>mI J)<|b8 J (λhg=>j8 (ct hg) J J)<|y0 J (o0 J J J (λq=>H3 q))<|yN ?_
 refine cN h (λhc h=>?_) λhc h=>?_
 ·refine S4 1 J ?_
  refine a7 ?_
  cases h
  exact f1
 ·refine a8 ?_
  refine S4 6 J<|a7 ?_
  cases h
  exact f1

theorem a9x{a0}:PO Tryz.prog 216 [.I a0] (a4y a0) λr=>.bool r:=by
 refine pO Tryz.func216 λr h _ _=>?_
 refine S4 1 J<|g5<|S3 3 J<|b8 J (λhg=>mI J)<|b8 J (λhg=>j8 (ct hg) J J)<|y0 J (o0 J J J (λq=>H3 q))<|yN ?_
 refine cN h (λhc h=>?_) λhc h=>?_
 ·refine S4 1 J ?_
  refine a7 ?_
  cases h
  exact f1
 ·refine a8 ?_
  refine S3 2 J<|s6 h λv1 hv1 h=>y0 J (a4t J J hv1)<|S1 2 J<|s6 h λv2 hv2 h=>y0 J (a4t J J hv2)<|cA h a6B J J λv3 _ h=>S2 3 J<|a7 ?_
  cases h
  exact f1

theorem b6V{a0}:PO Tryz.prog 124 [.I a0] (a4x a0) λr=>.I r:=by
 refine pO Tryz.func124 λr h _ _=>?_
 refine S4 1 J<|g5<|S3 1 J<|cA h a9x J J λv1 _ h=>S2 1 J ?_
 refine cN h (λhc h=>?_) λhc h=>?_
 ·refine S4 1 J ?_
  refine a7 ?_
  cases h
  exact f1
 ·refine a8 ?_
  refine S3 2 J<|s6 h λv2 hv2 h=>y0 J (a4t J J hv2)<|S2 1 J<|a7 ?_
  cases h
  exact f1

theorem b8l{a0}:PO Tryz.prog 223 [.I a0] (b1O a0) λr=>.I r:=by
 refine pO Tryz.func223 λr h _ _=>?_
 refine S4 1 J<|g5<|S3 1 J<|cA h a9x J J λv1 _ h=>S2 1 J ?_
 refine cN h (λhc h=>?_) λhc h=>?_
 ·refine S4 1 J ?_
  refine a7 ?_
  cases h
  exact f1
 ·refine a8 ?_
  refine S3 2 J<|s6 h λv2 hv2 h=>y0 J (a4t J J hv2)<|S2 1 J<|a7 ?_
  cases h
  exact f1

theorem a3K{a0 a1}:PO Tryz.prog 142 [B1.Pv a0,.I a1] (K1 a0 a1) λr=>.tup [.I r.1,.I r.2]:=by
 refine pO Tryz.func142 λr h _ _=>?_
 refine S4 3 J<|g5<|S4 2 J ?_
 refine cN h (λhc h=>?_) λhc h=>?_
 ·refine S4 2 J ?_
  refine a7 ?_
  cases h
  exact f2
 ·refine a8 ?_
  refine S3 1 J<|cA h b6V J J λv1 _ h=>S2 1 J<|g5<|S3 3 J<|b8 J (λhg=>mI J)<|b8 J (λhg=>oF J Ty.c59 J)<|b8 J (λhg=>oS (ct hg) J J Ty.c9d J)<|b8 J (λhg=>M0 (f:=z8.Pv) (ct hg) Ty.b4I)<|b8 J (λhg=>j8 (ct hg) (ct hg) J)<|y0 J (o0 J J J (λq=>H3 q))<|yN ?_
  refine cN h (λhc h=>?_) λhc h=>?_
  ·refine S4 2 J ?_
   refine a7 ?_
   cases h
   exact f2
  ·refine a8 ?_
   refine S3 3 J<|iL h J J Ty.b4I Ty.c0v λv2 _ h=>S2 3 J<|g5<|dr [] Ty.mix (by kernel_rfl) (by kernel_rfl)<|S7 3 J<|s6 h λv3 hv3 h=>d2 J (D3 J b8l J hv3) J<|S7 2 J<|r9 J (λhg _ hN=>oF J Ty.b7R J) J<|D0 J (λhg=>oS (ct hg) J J Ty.a3 J) J<|r9 J (λhg _ hN=>j8 (ct hg) J J) J<|r9 J (λhg _ hN=>om (d:=.bool (v2.State != 1)) (ct hg)) J<|r9 (m8 J J J) (λhg _ hN=>oF J Ty.b7R J) J<|D0 (m8 J J J) (λhg=>oS (ct hg) J J Ty.a3 J) J<|r9 (m8 J J J) (λhg _ hN=>j8 (ct hg) J J) J<|r9 J (λhg _ hN=>l7 (ct hg) J J (λq=>a1g hg (L5 q))) J<|d7 J (λ_ hN=>o0 J J J (λq=>H3 q)) J<|a0M ?_
   refine cN h (λhc h=>?_) λhc h=>?_
   ·refine S4 2 J ?_
    refine a7 ?_
    cases h
    exact f2
   ·refine a8 ?_
    refine S4 3 J<|a7 ?_
    cases h
    exact f2

theorem b8m{a0 a1}:PO Tryz.prog 80 [B1.Pv a0,.I a1] (a9z a0 a1) λr=>.tup [.I r.1,.I r.2]:=by
 refine pO Tryz.func80 λr h _ _=>?_
 refine S4 3 J<|S3 2 J<|cA h a3K J J λv1 _ h=>S2 5 J<|g5<|S4 2 J ?_
 refine cN h (λhc h=>?_) λhc h=>?_
 ·refine S4 3 J ?_
  refine a7 ?_
  cases h
  exact f2
 ·refine a8 ?_
  refine g5<|S3 3 J<|iL h J J Ty.b4I Ty.c0v λv2 hv2 h=>S2 3 J ?_
  refine cN h (λhc h=>?_) λhc h=>?_
  ·refine S4 2 J ?_
   refine a7 ?_
   cases h
   exact f2
  ·refine a8 ?_
   refine S3 3 J<|y0 J (A3 (f:=z8.Pv) (cs:=z8.Pc v2) hv2 J J Ty.b4I Ty.c0v J J)<|S2 4 J<|a7 ?_
   cases h
   exact f2

theorem N6{a0 a1}:PO Tryz.prog 33 [j1.Pv a0,.I a1] (C6 a0 a1) λr=>.tup [A5.Pv r.1,.I r.2]:=by
 refine pO Tryz.func33 λr h _ _=>?_
 refine S4 3 J<|S3 1 J<|cF h a04 J J λv1 _ h=>S1 1 J<|cA h b8m J J λv2 _ h=>S2 5 J<|g5<|S4 2 J ?_
 refine cN h (λhc h=>?_) λhc h=>?_
 ·refine sR ?_
  refine y0 J (m7 (cs:=[.I 0,.I 0,.I 0,.I 0,.bool false,.nl]) J Ty.p78 Ty.z78 J J J)<|S1 1 J<|b0j (x':=.agg [.I 0,.I 0,.I 0,.I 0,.bool false,.nl]) (cl':=true) J J (.inl J) Ty.s78<|S2 1 J<|a7 ?_
  cases h
  exact⟨J,[_,_],⟨oL J J J Ty.a78 Ty.s78 nl J,⟨J,tr⟩⟩,J,io⟩
 ·refine a8 ?_
  refine S3 3 J<|iL h J J Ty.e42 Ty.a91 λv3 _ h=>S2 4 J<|a7 ?_
  cases h
  exact⟨J,[_,_],⟨oL J J J Ty.a78 Ty.s78 nl J,⟨J,tr⟩⟩,J,io⟩

theorem b5w{a0}:PO Tryz.prog 70 [g6.Pv a0] (a7u a0) λr=>.bool r:=by
 refine pO Tryz.func70 λr h _ _=>?_
 refine S4 2 J ?_
 refine jq h (λ_=>St.of [(1,.ptr 1 0 0)] [(1,vR (g6.Pv a0) 8)]) (λq31 h=>?_) λκ30 h=>?_
 ·refine S3 5 J ?_
  refine b8 J (λhg=>oF J Ty.c1v J)<|b8 J (λhg=>oF (ct hg) Ty.c1u J)<|b8 J (λhg=>oS (ct hg) J J Ty.a47 J)<|b8 J (λhg=>M0 (f:=p6.Pv) (ct hg) Ty.e47)<|b8 J (λhg=>j8 (ct hg) J J)<|y0 J (l7 J J J (λq=>L5 q))<|S2 1 J<|a7 ?_
  cases h
  exact f1
 ·refine S4 1 J ?_
  refine b9<|lq h (λs33=>St.of [(1,.ptr 1 0 0),(3,.I s33)] [(1,vR (g6.Pv a0) 8)]) W λs33 x34 h hx30=>g5<|S3 4 J<|nL J Ty.e47<|S2 1 J ?_
  refine cN h (λhc h=>?_) λhc h=>?_
  ·refine a8 ?_
   refine jq h (λ_=>St.of [(1,.ptr 1 0 0),(3,.I s33)] [(1,vR (g6.Pv a0) 8)]) (λq48 h=>?_) λκ47 h=>?_
   ·refine S6 3 J ?_
    exact eL h W
   ·refine b9 ?_
    refine S3 4 J<|iL h J J Ty.e47 Ty.b3Q λv49 _ h=>S2 3 J<|g5<|S3 4 J<|b8 J (λhg=>oF J Ty.c1i J)<|b8 J (λhg=>oS (ct hg) J J Ty.a3 J)<|b8 J (λhg=>j8 (ct hg) J J)<|y0 J (l7 J J J (λq=>L5 q))<|S1 1 J<|b8 J (λhg=>oF J Ty.c1j J)<|b8 J (λhg=>oS (ct hg) J J Ty.a3 J)<|b8 J (λhg=>j8 (ct hg) J J)<|y0 J (o0 J J J (λq=>H3 q))<|S1 1 J<|b8 J (λhg=>oF J Ty.c1j J)<|b8 J (λhg=>oS (ct hg) J J Ty.a3 J)<|b8 J (λhg=>j8 (ct hg) J J)<|y0 J (o0 J J J (λq=>H3 q))<|yN ?_
    refine cN h (λhc h=>?_) λhc h=>?_
    ·refine S4 1 J ?_
     refine a7 ?_
     have h:=xL hx30 h
     cases h
     exact f1
    ·refine a8 ?_
     refine jq h (λ_=>St.of [(1,.ptr 1 0 0),(3,.I s33),(4,.ptr 4 0 0)] [(4,vR (p6.Pv v49) 3),(1,vR (g6.Pv a0) 8)]) (λq55 h=>?_) λκ54 h=>?_
     ·refine S3 4 J ?_
      refine cF h N6 J J λv56 _ h=>S2 6 J<|S3 4 J<|b8 J (λhg=>mI J)<|b8 J (λhg=>j8 (ct hg) J J)<|b8 J (λhg=>om (d:=.bool (v56.2 != 0)) (ct hg))<|b8 (m8 J J J) (λhg=>oF J Ty.c5h J)<|b8 (m8 J J J) (λhg=>oS (ct hg) J J Ty.a4 J)<|b8 (m8 J J J) (λhg=>a0C (ct hg) J)<|b8 J (λhg=>o0 (ct hg) J J (λq=>a1g hg (H3 q)))<|y0 J (l7 J J J (λq=>L5 q))<|S1 1 J<|b8 J (λhg=>oF J Ty.c1i J)<|b8 J (λhg=>oS (ct hg) J J Ty.a3 J)<|b8 J (λhg=>j8 (ct hg) J J)<|b8 J (λhg=>om (d:=.bool (v49.Kind==2)) (ct hg))<|b8 (m8 J J J) (λhg=>oF J Ty.b2e J)<|b8 (m8 J J J) (λhg=>oS (ct hg) J J Ty.a3 J)<|b8 (m8 J J J) (λhg=>j8 (ct hg) J J)<|b8 (m8 J J J) (λhg=>om (d:=.bool (decide (v49.At<0))) (ct hg))<|b8 (m8 J J J) (λhg=>oF J Ty.b2e J)<|b8 (m8 J J J) (λhg=>oS (ct hg) J J Ty.a3 J)<|b8 (m8 J J J) (λhg=>j8 (ct hg) J J)<|b8 (m8 J J J) (λhg=>o0 (ct hg) J J (λq=>a1g hg (H3 q)))<|b8 J (λhg=>l7 (ct hg) J J (λq=>a1g hg (L5 q)))<|y0 J (o0 J J J (λq=>H3 q))<|yN ?_
      refine cN h (λhc h=>?_) λhc h=>?_
      ·refine S4 1 J ?_
       refine a7 ?_
       have h:=xL hx30 h
       cases h
       exact f1
      ·refine a8 ?_
       exact eJ h W
     ·refine S4 1 J ?_
      refine b9<|lq h (λs58=>St.of [(1,.ptr 1 0 0),(3,.I s33),(4,.ptr 4 0 0),(5,.I s58)] [(4,vR (p6.Pv v49) 3),(1,vR (g6.Pv a0) 8)]) W λs58 x59 h hx52=>g5<|S4 3 J ?_
      refine cN h (λhc h=>?_) λhc h=>?_
      ·refine a8 ?_
       refine g5<|b9<|dr [] Ty.mix (by kernel_rfl) (by kernel_rfl)<|S7 4 J<|s6 h λv60 hv53 h=>d0 J (A3 (f:=p6.Pv) (cs:=p6.Pc v60) hv53 J J Ty.e47 Ty.b3Q J J) J<|S7 6 J<|r9 J (λhg _ hN=>oF J Ty.c1v J) J<|r9 J (λhg _ hN=>oF (ct hg) Ty.c1u J) J<|D0 J (λhg=>oS (ct hg) J J Ty.a47 J) J<|r9 J (λhg _ hN=>mI J) J<|D0 J (λhg=>A3 (f:=p6.Pv) (cs:=p6.Pc v60) hv53 (ct hg) (ct hg) Ty.e47 Ty.b3Q J J) J<|r9 J (λhg _ hN=>B2 (ct hg) Ty.b2e J) J<|D0 J (λhg=>B4 (ct hg) Ty.a3 J) J<|r9 J (λhg _ hN=>oF J Ty.b2e J) J<|D0 J (λhg=>oS (ct hg) J J Ty.a3 J) J<|r9 J (λhg _ hN=>j8 (ct hg) (ct hg) J) J<|d7 J (λ_ hN=>l7 J J J (λq=>L5 q)) J<|a0M ?_
       refine cN h (λhc h=>?_) λhc h=>?_
       ·refine S4 1 J ?_
        refine a7 ?_
        have h:=xL hx52 h
        have h:=xL hx30 h
        cases h
        exact f1
       ·refine a8 ?_
        refine S6 3 J ?_
        exact eL h W
      ·refine k8 ?_
       refine b7<|b7<|g8 ?_
       have h:=xL hx52 h
       exact eJ h W
  ·refine k8 ?_
   refine b7<|b7<|g8 ?_
   have h:=xL hx30 h
   exact eJ h W

theorem a2u{a0 a1}:PO Tryz.prog 141 [g6.Pv a0,.I a1] (T2 a0 a1) λr=>.bool r:=by
 refine pO Tryz.func141 λr h _ _=>?_
 refine S4 2 J<|S3 3 J<|cF h N6 J J λv1 _ h=>S2 6 J<|S4 3 J<|a7 ?_
 cases h
 exact f1

theorem a9M{a0 a1}:PO Tryz.prog 125 [g6.Pv a0,.I a1] (T3 a0 a1) λr=>.bool r:=by
 refine pO Tryz.func125 λr h _ _=>?_
 unfold T3 at h
 refine S4 2 J<|S3 3 J<|b8 J (λhg=>oL J J J Ty.a51 Ty.s51 nl J)<|b8 J (λhg=>mI J)<|s6 h λv1 hv1 h=>b8 J (λhg=>D3 J a2u (A1 (ct hg) (A1 (ct hg) J)) (D2 hv1 hg))<|y0 J (o0 J J J (λq=>H3 q))<|S2 1 J<|a7 ?_
 cases h
 exact f1

theorem b3J{a0 a1}:PO Tryz.prog 79 [j1.Pv a0,.L iF a1] (a2Z a0 a1) λr=>.L iF r:=by
 refine pO Tryz.func79 λr h _ _=>?_
 unfold a2Z at h
 refine S4 2 J<|sR<|y0 J (F7 J Ty.z6 Ty.s3)<|S1 1 J<|s6 h λv1 hv1 h=>y1 J (b2A (f:=iF) hv1 J J (.inl ⟨_,J,J⟩) Ty.z6 Ty.s3 Ty.b3 Ty.z3 J (λ_=>J)) J<|S2 1 J ?_
 refine jq h (λj36=>St.of [(5,.sl 15)] [(15,⟨List.map iF j36,0,true,1,true⟩)]) (λj36 h=>?_) λκ35 h=>?_
 ·refine S4 2 J ?_
  refine a7 ?_
  cases h
  exact f1
 ·refine S4 1 J ?_
  refine b9<|lq h (λq=>St.of [(2,.ptr 2 0 0),(5,.sl 15),(6,.I q.1)] [(15,⟨List.map iF q.2,0,true,1,true⟩),(2,vR (j1.Pv a0) 3)]) W λq41 x40 h hx31=>?_
  obtain⟨s38,s39⟩:=q41
  refine g5<|S3 2 J<|y0 J (b9a (f:=iF) J J J Ty.z6)<|S2 1 J ?_
  refine cN h (λhc h=>?_) λhc h=>?_
  ·refine a8 ?_
   refine jq h (λj56=>St.of [(2,.ptr 2 0 0),(5,.sl 15),(6,.I s38)] [(15,⟨List.map iF j56,0,true,1,true⟩),(2,vR (j1.Pv a0) 3)]) (λj56 h=>?_) λκ55 h=>?_
   ·refine S6 3 J ?_
    exact eL h W
   ·refine b9 ?_
    refine S4 2 J<|b9<|lq h (λq=>St.of [(2,.ptr 2 0 0),(5,.sl 15),(6,.I s38),(7,.I q.1)] [(15,⟨List.map iF q.2,0,true,1,true⟩),(2,vR (j1.Pv a0) 3)]) W λq61 x60 h hx46=>?_
    obtain⟨s58,s59⟩:=q61
    refine g5<|S4 2 J ?_
    refine cN h (λhc h=>?_) λhc h=>?_
    ·refine a8 ?_
     refine g5<|b9<|dr [] Ty.mix (by kernel_rfl) (by kernel_rfl)<|S7 1 J<|s6 h λv62 hv47 h=>d2f J (y8 J a04 J hv47) J<|S7 3 J<|s6 h λv63 hv48 h=>d0 J (a2Y (f:=iF) hv48 J J J J Ty.z6 Ty.s3 J) J<|d0 J (b4m (f:=iF) hv48 J J J Ty.a3 J) J<|s6 h λv64 hv49 h=>d2 J (D3 J a3K J hv49) J<|S8 5 J<|dr [] Ty.mix (by kernel_rfl) (by kernel_rfl)<|S7 1 J<|d2f J (y8 J a04 J hv47) J<|S7 2 J<|s6 h λv65 hv50 h=>d0 J (a2Y (f:=iF) hv50 J J J J Ty.z6 Ty.s3 J) J<|d0 J (b4m (f:=iF) hv50 J J J Ty.a3 J) J<|s6 h λv66 hv51 h=>d2 J (D3 J a3K J hv51) J<|S8 5 J<|g5<|dr [] Ty.mix (by kernel_rfl) (by kernel_rfl)<|S7 3 J<|r9 J (λhg _ hN=>mI J) J<|r9 J (λhg _ hN=>j8 (ct hg) J J) J<|d7 J (λ_ hN=>o0 J J J (λq=>H3 q)) J<|S7 1 J<|r9 J (λhg _ hN=>oF J Ty.c1t J) J<|D0 J (λhg=>oS (ct hg) J J Ty.a42 J) J<|r9 J (λhg _ hN=>mI J) J<|s6 h λv67 hv52 h=>D0 J (λhg=>A3 (f:=n0.Pv) (cs:=n0.Pc v67) (D2 hv52 hg) (ct hg) (ct hg) Ty.e42 Ty.a91 J J) J<|r9 J (λhg _ hN=>B2 (ct hg) Ty.b0x J) J<|r9 J (λhg _ hN=>B2 (ct hg) Ty.b07 J) J<|D0 J (λhg=>B4 (ct hg) Ty.a3 J) J<|r9 J (λhg _ hN=>oF J Ty.c1t J) J<|D0 J (λhg=>oS (ct hg) J J Ty.a42 J) J<|r9 J (λhg _ hN=>mI J) J<|s6 h λv68 hv53 h=>D0 J (λhg=>A3 (f:=n0.Pv) (cs:=n0.Pc v68) (D2 hv53 hg) (ct hg) (ct hg) Ty.e42 Ty.a91 J J) J<|r9 J (λhg _ hN=>B2 (ct hg) Ty.b0x J) J<|r9 J (λhg _ hN=>B2 (ct hg) Ty.b07 J) J<|D0 J (λhg=>B4 (ct hg) Ty.a3 J) J<|r9 J (λhg _ hN=>j8 (ct hg) (ct hg) J) J<|d7 J (λ_ hN=>o0 J J J (λq=>H3 q)) J<|a0M ?_
     refine cN h (λhc h=>?_) λhc h=>?_
     ·refine k8 ?_
      refine b7<|a8V (by decide)<|b7<|b7<|g8 ?_
      have h:=xL hx46 h
      exact eJ h W
     ·refine a8 ?_
      refine S3 2 J<|y0 J (a2Y (f:=iF) hv50 J J J J Ty.z6 Ty.s3 J)<|y0 J (b4m (f:=iF) hv50 J J J Ty.a3 J)<|S2 1 J<|S3 5 J<|y0 J (a2Y (f:=iF) hv48 J J J J Ty.z6 Ty.s3 J)<|y0 J (b4m (f:=iF) hv48 J J J Ty.a3 J)<|y0 J (a2Y (f:=iF) hv50 J J J J Ty.z6 Ty.s3 J)<|b0i (f:=iF) (v:=v63) hv50 J J (.inl J) Ty.s3<|yN<|S5 4 J<|s6 h λv69 hv54 h=>y0 J (a2Y (f:=iF) hv54 J J J J Ty.z6 Ty.s3 J)<|b0i (f:=iF) (v:=v65) hv54 J J (.inl J) Ty.s3<|yN<|S6 3 J ?_
      exact eL h W
    ·refine k8 ?_
     refine b7<|b7<|g8 ?_
     have h:=xL hx46 h
     exact eJ h W
  ·refine k8 ?_
   refine b7<|b7<|g8 ?_
   have h:=xL hx31 h
   exact eJ h W

theorem a0D{a0}:PO Tryz.prog 32 [j1.Pv a0] (a0d a0) λr=>.L iF r:=by
 refine pO Tryz.func32 λr h _ _=>?_
 refine S4 2 J<|sR<|y0 J (F7 J Ty.z6 Ty.s3)<|S2 1 J ?_
 refine jq h (λj15=>St.of [(1,.ptr 1 0 0),(3,.sl 910003)] [(910003,⟨List.map iF j15,(List.map iF j15).length,true,1,true⟩),(1,vR (j1.Pv a0) 3)]) (λj15 h=>?_) λκ14 h=>?_
 ·refine S3 2 J ?_
  obtain⟨v16,hv12,h⟩:=a5N h
  refine ycL J (y8 J b3J J hv12) J<|S2 1 J<|a7 ?_
  cases h
  exact f1
 ·refine S4 1 J ?_
  refine b9<|lq h (λq=>St.of [(1,.ptr 1 0 0),(3,.sl 910003),(4,.I q.1)] [(1,vR (j1.Pv a0) 3),(910003,⟨List.map iF q.2,(List.map iF q.2).length,true,1,true⟩)]) (Wk.trans (I0 (t:=3) (l:=920003) (z:=1) J J) (WP (λl=>if l=910003 then 920003 else l))) λq21 x20 h hx15=>?_
  obtain⟨s18,s19⟩:=q21
  refine g5<|S3 3 J<|nL J Ty.e42<|S2 1 J ?_
  refine cN h (λhc h=>?_) λhc h=>?_
  ·refine a8 ?_
   refine jq h (λj26=>St.of [(1,.ptr 1 0 0),(3,.sl 30),(4,.I s18)] [(30,⟨List.map iF j26,(List.map iF j26).length,true,1,true⟩),(1,vR (j1.Pv a0) 3)]) (λj26 h=>?_) λκ25 h=>?_
   ·refine S6 3 J ?_
    exact eL h (Wk.trans (l4 _ [30]) (WP (λl=>if l=910003 then 30 else l)))
   ·refine b9 ?_
    refine S3 3 J<|iL h J J Ty.e42 Ty.a91 λv27 hv20 h=>S2 3 J ?_
    refine cN h (λhc h=>?_) λhc h=>?_
    ·refine S5 5 J ?_
     refine y0 J (A3 (f:=n0.Pv) (cs:=n0.Pc v27) hv20 J J Ty.e42 Ty.a91 J J)<|S1 2 J<|cA h a6B J J λv28 _ h=>y0 J (M3 (f:=iF) (l:=[v28]) J Ty.z6 Ty.s3 Ty.z3 J J nl J J)<|s6 h λv29 hv22 h=>L9 J (I8 (f:=iF) hv22 J J J J J J (.inl ⟨_,J,J⟩) Ty.z6 Ty.s3 Ty.b3 Ty.z3 J (λ_=>J)) J J J<|S2 1 J ?_
     exact eJ h (Wk.trans (l4 _ [30]) W)
    ·refine a8 ?_
     exact eJ h (Wk.trans (l4 _ [910003]) (WP (λl=>if l=30 then 910003 else l)))
  ·refine k8 ?_
   refine b7<|b7<|g8 ?_
   have h:=xL hx15 h
   exact eJ h (Wk.trans (l4 _ [910003]) W)

theorem b61{a0}:PO Tryz.prog 222 [.L j2.Pv a0] (a9G a0) λr=>.L iF r:=by
 refine pO Tryz.func222 λr h _ _=>?_
 refine S4 1 J<|sR<|y0 J (F7 J Ty.z6 Ty.s3)<|S2 1 J ?_
 refine jq h (λj13=>St.of [(3,.sl 910003)] [(910003,⟨List.map iF j13,(List.map iF j13).length,true,1,true⟩)]) (λj13 h=>?_) λκ12 h=>?_
 ·refine S4 2 J ?_
  refine a7 ?_
  cases h
  exact f1
 ·refine S4 1 J ?_
  refine b9<|lq h (λq=>St.of [(0,.L j2.Pv a0),(3,.sl 910003),(4,.I q.1)] [(910003,⟨List.map iF q.2,(List.map iF q.2).length,true,1,true⟩)]) (Wk.trans (I0 (t:=3) (l:=920003) (z:=1) J J) (WP (λl=>if l=910003 then 920003 else l))) λq18 x17 h hx12=>?_
  obtain⟨s15,s16⟩:=q18
  refine g5<|S3 2 J<|nL J Ty.e46<|S2 1 J ?_
  refine cN h (λhc h=>?_) λhc h=>?_
  ·refine a8 ?_
   refine jq h (λj22=>St.of [(0,.L j2.Pv a0),(3,.sl 25),(4,.I s15)] [(25,⟨List.map iF j22,(List.map iF j22).length,true,1,true⟩)]) (λj22 h=>?_) λκ21 h=>?_
   ·refine S6 3 J ?_
    exact eL h (Wk.trans (l4 _ [25]) (WP (λl=>if l=910003 then 25 else l)))
   ·refine b9 ?_
    refine S3 2 J<|iL h J J Ty.e46 Ty.b3P λv23 hv16 h=>S2 3 J ?_
    refine cN h (λhc h=>?_) λhc h=>?_
    ·refine S5 3 J ?_
     refine y0 J (A3 (f:=j2.Pv) (cs:=j2.Pc v23) hv16 J J Ty.e46 Ty.b3P J J)<|S1 2 J<|y0 J (M3 (f:=iF) (l:=[v23.Key]) J Ty.z6 Ty.s3 Ty.z3 J J nl J J)<|s6 h λv24 hv17 h=>L9 J (I8 (f:=iF) hv17 J J J J J J (.inl ⟨_,J,J⟩) Ty.z6 Ty.s3 Ty.b3 Ty.z3 J (λ_=>J)) J J J<|S2 1 J ?_
     exact eJ h (Wk.trans (l4 _ [25]) W)
    ·refine a8 ?_
     exact eJ h (Wk.trans (l4 _ [910003]) (WP (λl=>if l=25 then 910003 else l)))
  ·refine k8 ?_
   refine b7<|b7<|g8 ?_
   have h:=xL hx12 h
   exact eJ h (Wk.trans (l4 _ [910003]) W)

theorem b8n{a0 a1}:PO Tryz.prog 221 [.L j2.Pv a0,.I a1] (a7n a0 a1) λr=>.tup [.I r.1,.I r.2]:=by
 refine pO Tryz.func221 λr h _ _=>?_
 refine S4 2 J<|S3 2 J<|cA h b1g J J λv1 _ h=>S2 1 J<|g5<|S4 2 J ?_
 refine cN h (λhc h=>?_) λhc h=>?_
 ·refine S4 2 J ?_
  refine a7 ?_
  cases h
  exact f2
 ·refine a8 ?_
  refine S3 2 J<|iL h J J Ty.e46 Ty.b3P λv2 _ h=>S2 4 J<|a7 ?_
  cases h
  exact f2

theorem a5p{a0}:PO Tryz.prog 140 [.L j2.Pv a0] (a2D a0) λr=>.L r7.Pv r:=by
 refine pO Tryz.func140 λr h _ _=>?_
 refine S4 1 J<|sR<|y0 J (F7 J Ty.b0r Ty.b3S)<|S2 1 J<|S3 1 J<|cF h b61 J J λv1 _ h=>S2 1 J ?_
 refine jq h (λj11=>St.of [(3,.sl 910003)] [(910003,⟨List.map r7.Pv j11,(List.map r7.Pv j11).length,true,2,true⟩)]) (λj11 h=>?_) λκ10 h=>?_
 ·refine S4 2 J ?_
  refine a7 ?_
  cases h
  exact f1
 ·refine S4 1 J ?_
  refine b9<|lq h (λq=>St.of [(0,.L j2.Pv a0),(3,.sl 910003),(4,.L iF v1),(5,.I q.1)] [(910003,⟨List.map r7.Pv q.2,(List.map r7.Pv q.2).length,true,2,true⟩)]) (Wk.trans (I0 (t:=3) (l:=920003) (z:=2) J J) (WP (λl=>if l=910003 then 920003 else l))) λq16 x15 h hx11=>?_
  obtain⟨s13,s14⟩:=q16
  refine g5<|S3 2 J<|nL J Ty.z6<|S2 1 J ?_
  refine cN h (λhc h=>?_) λhc h=>?_
  ·refine a8 ?_
   refine g5<|b9<|S3 3 J<|iL h J J Ty.z6 Ty.s3 λv17 hv12 h=>S1 1 J<|cA h b8n J J λv18 _ h=>S2 5 J<|S5 3 J<|y0 J (A3 (f:=iF) (cs:=[.I v17]) hv12 J J Ty.z6 Ty.s3 J J)<|S1 2 J<|y0 J (m7 (cs:=[.I v17,.I v18.1]) J Ty.c93 Ty.c7w J J J)<|y0 J (M3 (f:=r7.Pv) (l:=[(⟨v17,v18.1⟩:r7)]) J Ty.b0r Ty.b3S Ty.c7w J J nl J J)<|s6 h λv19 hv14 h=>L9 J (I8 (f:=r7.Pv) hv14 J J J J J J (.inl ⟨_,J,J⟩) Ty.b0r Ty.b3S Ty.c9r Ty.c7w J (λ_=>J)) J J J<|S2 1 J<|S6 3 J ?_
   exact eL h (Wk.trans (l4 _ [34]) (WP (λl=>if l=910003 then 34 else l)))
  ·refine k8 ?_
   refine b7<|b7<|g8 ?_
   have h:=xL hx11 h
   exact eJ h (Wk.trans (l4 _ [910003]) W)

theorem b5v{a0}:PO Tryz.prog 71 [g6.Pv a0] (a7t a0) λr=>.bool r:=by
 refine pO Tryz.func71 λr h _ _=>?_
 refine S4 2 J ?_
 refine jq h (λ_=>St.of [(1,.ptr 1 0 0)] [(1,vR (g6.Pv a0) 8)]) (λq7 h=>?_) λκ6 h=>?_
 ·refine S3 2 J ?_
  refine cF h a0D J J λv8 _ h=>S2 1 J ?_
  refine jq h (λ_=>St.of [(1,.ptr 1 0 0)] [(1,vR (g6.Pv a0) 8)]) (λq29 h=>?_) λκ28 h=>?_
  ·refine S3 2 J ?_
   refine cF h a5p J J λv30 _ h=>S2 1 J ?_
   refine jq h (λ_=>St.of [] []) (λq38 h=>?_) λκ37 h=>?_
   ·refine S4 1 J ?_
    refine a7 ?_
    cases h
    exact f1
   ·refine S4 1 J ?_
    refine b9<|lq h (λs40=>St.of [(1,.ptr 1 0 0),(9,.L r7.Pv v30),(10,.I s40)] [(1,vR (g6.Pv a0) 8)]) W λs40 x41 h hx37=>g5<|S3 2 J<|nL J Ty.b0r<|S2 1 J ?_
    refine cN h (λhc h=>?_) λhc h=>?_
    ·refine a8 ?_
     refine g5<|b9<|dr [] Ty.mix (by kernel_rfl) (by kernel_rfl)<|S7 3 J<|s6 h λv42 hv38 h=>d0 J (A3 (f:=r7.Pv) (cs:=r7.Pc v42) hv38 J J Ty.b0r Ty.b3S J J) J<|S7 2 J<|s6 h λv43 hv39 h=>d2 J (D3 J a2u J hv39) J<|S7 2 J<|D0 J (λhg=>oL J J J Ty.a51 Ty.s51 nl J) J<|r9 J (λhg _ hN=>om (d:=.L r7.Pv v30) J) J<|r9 J (λhg _ hN=>mI J) J<|D0 J (λhg=>A3 (f:=r7.Pv) (cs:=r7.Pc v42) hv38 (ct hg) (ct hg) Ty.b0r Ty.b3S J J) J<|r9 J (λhg _ hN=>B2 (ct hg) Ty.c1m J) J<|D0 J (λhg=>B4 (ct hg) Ty.a3 J) J<|s6 h λv44 hv40 h=>a6i J (λhg=>D3 J a2u (A1 (ct hg) (A1 (ct hg) J)) (D2 hv40 hg)) J<|r9 J (λhg _ hN=>a0C (ct hg) J) J<|d7 J (λ_ hN=>o0 J J J (λq=>H3 q)) J<|a0M ?_
     refine cN h (λhc h=>?_) λhc h=>?_
     ·refine S4 1 J ?_
      refine a7 ?_
      have h:=xL hx37 h
      cases h
      exact f1
     ·refine a8 ?_
      refine S6 3 J ?_
      exact eL h W
    ·refine k8 ?_
     refine b7<|b7<|g8 ?_
     have h:=xL hx37 h
     exact eJ h W
  ·refine S4 1 J ?_
   refine b9<|lq h (λs46=>St.of [(1,.ptr 1 0 0),(4,.L iF v8),(5,.I s46)] [(1,vR (g6.Pv a0) 8)]) W λs46 x47 h hx43=>g5<|S3 2 J<|nL J Ty.z6<|S2 1 J ?_
   refine cN h (λhc h=>?_) λhc h=>?_
   ·refine a8 ?_
    refine jq h (λ_=>St.of [(1,.ptr 1 0 0),(4,.L iF v8),(5,.I s46)] [(1,vR (g6.Pv a0) 8)]) (λq56 h=>?_) λκ55 h=>?_
    ·refine S6 3 J ?_
     exact eL h W
    ·refine b9 ?_
     refine dr [] Ty.mix (by kernel_rfl) (by kernel_rfl)<|S7 4 J<|s6 h λv57 hv52 h=>d0 J (A3 (f:=iF) (cs:=[.I v57]) hv52 J J Ty.z6 Ty.s3 J J) J<|S7 1 J<|s6 h λv58 hv53 h=>d2f J (y8 J N6 J hv53) J<|S7 4 J<|Z7 (x':=A5.Pv v58.1) (cl':=true) J J (.inr J) Ty.s78<|S8 1 J<|S4 1 J<|b9<|lq h (λs60=>St.of [(1,.ptr 1 0 0),(4,.L iF v8),(5,.I s46),(6,.ptr 6 0 0),(8,.I s60)] [(6,vR (A5.Pv v58.1) 6),(1,vR (g6.Pv a0) 8)]) W λs60 x61 h hx56=>g5<|S3 3 J<|nL J Ty.z6<|S2 1 J ?_
     refine cN h (λhc h=>?_) λhc h=>?_
     ·refine a8 ?_
      refine g5<|b9<|dr [] Ty.mix (by kernel_rfl) (by kernel_rfl)<|S7 4 J<|s6 h λv62 hv57 h=>d0 J (A3 (f:=iF) (cs:=[.I v62]) hv57 J J Ty.z6 Ty.s3 J J) J<|S7 1 J<|s6 h λv63 hv58 h=>d2 J (D3 J a9M J hv58) J<|S8 1 J ?_
      refine cN h (λhc h=>?_) λhc h=>?_
      ·refine S4 1 J ?_
       refine a7 ?_
       have h:=xL hx56 h
       have h:=xL hx43 h
       cases h
       exact f1
      ·refine a8 ?_
       refine S6 3 J ?_
       exact eL h W
     ·refine k8 ?_
      refine b7<|b7<|g8 ?_
      have h:=xL hx56 h
      exact eJ h W
   ·refine k8 ?_
    refine b7<|b7<|g8 ?_
    have h:=xL hx43 h
    exact eJ h W
 ·refine S4 1 J ?_
  refine b9<|lq h (λs65=>St.of [(1,.ptr 1 0 0),(3,.I s65)] [(1,vR (g6.Pv a0) 8)]) W λs65 x66 h hx61=>g5<|S3 3 J<|nL J Ty.z6<|S2 1 J ?_
  refine cN h (λhc h=>?_) λhc h=>?_
  ·refine a8 ?_
   refine g5<|b9<|dr [] Ty.mix (by kernel_rfl) (by kernel_rfl)<|S7 4 J<|s6 h λv67 hv62 h=>d0 J (A3 (f:=iF) (cs:=[.I v67]) hv62 J J Ty.z6 Ty.s3 J J) J<|S7 1 J<|s6 h λv68 hv63 h=>d2 J (D3 J a9M J hv63) J<|S8 1 J ?_
   refine cN h (λhc h=>?_) λhc h=>?_
   ·refine S4 1 J ?_
    refine a7 ?_
    have h:=xL hx61 h
    cases h
    exact f1
   ·refine a8 ?_
    refine S6 3 J ?_
    exact eL h W
  ·refine k8 ?_
   refine b7<|b7<|g8 ?_
   have h:=xL hx61 h
   exact eJ h W

theorem b5s{a0 a1}:PO Tryz.prog 143 [x6.Pv a0,.I a1] (a1y a0 a1) λr=>.bool r:=by
 refine pO Tryz.func143 λr h _ _=>?_
 refine S4 2 J ?_
 refine jq h (λ_=>St.of [] []) (λq6 h=>?_) λκ5 h=>?_
 ·refine S4 1 J ?_
  refine a7 ?_
  cases h
  exact f1
 ·refine S4 1 J ?_
  refine b9<|lq h (λs8=>St.of [(1,.I a1),(2,.ptr 2 0 0),(5,.I s8)] [(2,vR (x6.Pv a0) 2)]) W λs8 x9 h hx8=>g5<|S3 3 J<|nL J Ty.e47<|S2 1 J ?_
  refine cN h (λhc h=>?_) λhc h=>?_
  ·refine a8 ?_
   refine g5<|b9<|S3 3 J<|iL h J J Ty.e47 Ty.b3Q λv10 hv9 h=>S1 4 J<|b8 J (λhg=>oF J Ty.c1u J)<|b8 J (λhg=>oS (ct hg) J J Ty.a47 J)<|b8 J (λhg=>mI J)<|b8 J (λhg=>A3 (f:=p6.Pv) (cs:=p6.Pc v10) hv9 (ct hg) (ct hg) Ty.e47 Ty.b3Q J J)<|b8 J (λhg=>B2 (ct hg) Ty.b2e J)<|b8 J (λhg=>B4 (ct hg) Ty.a3 J)<|b8 J (λhg=>mI J)<|b8 J (λhg=>j8 (ct hg) (ct hg) J)<|y0 J (l7 J J J (λq=>L5 q))<|yN ?_
   refine cN h (λhc h=>?_) λhc h=>?_
   ·refine S4 1 J ?_
    refine a7 ?_
    have h:=xL hx8 h
    cases h
    exact f1
   ·refine a8 ?_
    refine S6 3 J ?_
    exact eL h W
  ·refine k8 ?_
   refine b7<|b7<|g8 ?_
   have h:=xL hx8 h
   exact eJ h W

theorem b5u{a0}:PO Tryz.prog 72 [g6.Pv a0] (a7s a0) λr=>.bool r:=by
 refine pO Tryz.func72 λr h _ _=>?_
 refine S4 2 J ?_
 refine jq h (λ_=>St.of [] []) (λq10 h=>?_) λκ9 h=>?_
 ·refine S4 1 J ?_
  refine a7 ?_
  cases h
  exact f1
 ·refine S4 1 J ?_
  refine b9<|lq h (λs12=>St.of [(1,.ptr 1 0 0),(3,.I s12)] [(1,vR (g6.Pv a0) 8)]) W λs12 x13 h hx12=>g5<|S3 3 J<|nL J Ty.e45<|S2 1 J ?_
  refine cN h (λhc h=>?_) λhc h=>?_
  ·refine a8 ?_
   refine g5<|b9<|S3 3 J<|iL h J J Ty.e45 Ty.c21 λv14 _ h=>S2 3 J<|dr [] Ty.mix (by kernel_rfl) (by kernel_rfl)<|S7 2 J<|s6 h λv15 hv14 h=>d2f J (y8 J a04 J hv14) J<|S7 2 J<|s6 h λv16 hv15 h=>d2 J (D3 J a3K J hv15) J<|S8 5 J<|S3 4 J<|b8 J (λhg=>oF J Ty.c6c J)<|b8 J (λhg=>oS (ct hg) J J Ty.a3 J)<|b8 J (λhg=>j8 (ct hg) J J)<|y0 J (o0 J J J (λq=>H3 q))<|S1 1 J<|b8 J (λhg=>oF J Ty.b7Q J)<|b8 J (λhg=>oS (ct hg) J J Ty.a3 J)<|b8 J (λhg=>j8 (ct hg) J J)<|b8 J (λhg=>om (d:=.bool (v14.Target==0)) (ct hg))<|b8 (m8 J J J) (λhg=>oF J Ty.c1e J)<|b8 (m8 J J J) (λhg=>oS (ct hg) J J Ty.a4 J)<|b8 J (λhg=>l7 (ct hg) J J (λq=>a1g hg (L5 q)))<|y0 J (o0 J J J (λq=>H3 q))<|S1 1 J<|b8 J (λhg=>oF J Ty.b7Q J)<|b8 J (λhg=>oS (ct hg) J J Ty.a3 J)<|b8 J (λhg=>j8 (ct hg) J J)<|b8 J (λhg=>om (d:=.bool (v14.Target != 0)) (ct hg))<|b8 (m8 J J J) (λhg=>mI J)<|b8 (m8 J J J) (λhg=>j8 (ct hg) J J)<|b8 J (λhg=>l7 (ct hg) J J (λq=>a1g hg (L5 q)))<|y0 J (o0 J J J (λq=>H3 q))<|S1 1 J<|b8 J (λhg=>oF J Ty.c1e J)<|b8 J (λhg=>oS (ct hg) J J Ty.a4 J)<|b8 J (λhg=>om (d:=.bool v14.Intact) (ct hg))<|b8 (m8 J J J) (λhg=>oL J J J Ty.a51 Ty.s51 nl J) ?_
   refine b8 (m8 J J J) (λhg=>oF J Ty.b7Q J)<|b8 (m8 J J J) (λhg=>oS (ct hg) J J Ty.a3 J)<|s6 h λv17 hv16 h=>b8 (m8 J J J) (λhg=>D3 J a2u (A1 (ct hg) (A1 (ct hg) J)) (D2 hv16 hg))<|b8 (m8 J J J) (λhg=>a0C (ct hg) J)<|b8 (m8 J J J) (λhg=>om (d:=.bool (!v17)) (ct hg))<|b8 (m8 J J J) (λhg=>oF J Ty.c1v J)<|b8 (m8 J J J) (λhg=>oL (ct hg) J J Ty.a49 Ty.s49 nl J)<|b8 (m8 J J J) (λhg=>mI J)<|s6 h λv18 hv17 h=>b8 (m8 J J J) (λhg=>D3 J b5s (A1 (ct hg) (A1 (ct hg) J)) (D2 hv17 hg))<|b8 (m8 J J J) (λhg=>o0 (ct hg) J J (λq=>a1g hg (H3 q)))<|b8 J (λhg=>l7 (ct hg) J J (λq=>a1g hg (L5 q)))<|y0 J (o0 J J J (λq=>H3 q))<|yN ?_
   refine cN h (λhc h=>?_) λhc h=>?_
   ·refine S4 1 J ?_
    refine a7 ?_
    have h:=xL hx12 h
    cases h
    exact f1
   ·refine a8 ?_
    refine S6 3 J ?_
    exact eL h W
  ·refine k8 ?_
   refine b7<|b7<|g8 ?_
   have h:=xL hx12 h
   exact eJ h W

theorem b3I{a0 a1}:PO Tryz.prog 144 [.I a0,.I a1] (a8C a0 a1) λr=>.I r:=by
 refine pO Tryz.func144 λr h _ _=>?_
 refine S4 1 J<|S3 2 J<|cA h a6B J J λv1 _ h=>S2 1 J<|a7 ?_
 cases h
 exact f1

theorem b3K{a0 a1}:PO Tryz.prog 145 [.L p7.Pv a0,.I a1] (a5o a0 a1) λr=>.I r:=by
 refine pO Tryz.func145 λr h _ _=>?_
 refine S4 1 J<|S4 1 J ?_
 refine jq h (λj11=>St.of [(5,.I j11)] []) (λj11 h=>?_) λκ10 h=>?_
 ·refine S4 2 J ?_
  refine a7 ?_
  cases h
  exact f1
 ·refine S4 1 J ?_
  refine b9<|lq h (λq=>St.of [(0,.L p7.Pv a0),(1,.I a1),(5,.I q.1),(6,.I q.2)] []) W λq16 x15 h hx10=>?_
  obtain⟨s13,s14⟩:=q16
  refine g5<|S3 2 J<|nL J Ty.e45<|S2 1 J ?_
  refine cN h (λhc h=>?_) λhc h=>?_
  ·refine a8 ?_
   refine jq h (λj19=>St.of [(0,.L p7.Pv a0),(1,.I a1),(5,.I j19),(6,.I s14)] []) (λj19 h=>?_) λκ18 h=>?_
   ·refine S6 3 J ?_
    exact eL h W
   ·refine b9 ?_
    refine S3 2 J<|iL h J J Ty.e45 Ty.c21 λv20 _ h=>S1 5 J<|b8 J (λhg=>mI J)<|b8 J (λhg=>j8 (ct hg) J J)<|y0 J (l7 J J J (λq=>L5 q))<|yN ?_
    refine cN h (λhc h=>?_) λhc h=>?_
    ·refine S6 3 J ?_
     exact eJ h W
    ·refine a8 ?_
     exact eJ h W
  ·refine k8 ?_
   refine b7<|b7<|g8 ?_
   have h:=xL hx10 h
   exact eJ h W

theorem b5x{a0}:PO Tryz.prog 73 [g6.Pv a0] (a7v a0) λr=>.bool r:=by
 refine pO Tryz.func73 λr h _ _=>?_
 refine S4 2 J ?_
 refine jq h (λ_=>St.of [] []) (λq13 h=>?_) λκ12 h=>?_
 ·refine S4 1 J ?_
  refine a7 ?_
  cases h
  exact f1
 ·refine S4 1 J ?_
  refine b9<|lq h (λs15=>St.of [(1,.ptr 1 0 0),(3,.I s15)] [(1,vR (g6.Pv a0) 8)]) W λs15 x16 h hx14=>g5<|S3 4 J<|nL J Ty.e42<|S2 1 J ?_
  refine cN h (λhc h=>?_) λhc h=>?_
  ·refine a8 ?_
   refine jq h (λ_=>St.of [(1,.ptr 1 0 0),(3,.I s15)] [(1,vR (g6.Pv a0) 8)]) (λq21 h=>?_) λκ20 h=>?_
   ·refine S6 3 J ?_
    exact eL h W
   ·refine b9 ?_
    refine S3 4 J<|iL h J J Ty.e42 Ty.a91 λv22 _ h=>S2 3 J<|g5<|S3 4 J<|b8 J (λhg=>oF J Ty.b7O J)<|b8 J (λhg=>oS (ct hg) J J Ty.a3 J)<|b8 J (λhg=>j8 (ct hg) J J)<|y0 J (l7 J J J (λq=>L5 q))<|yN ?_
    refine cN h (λhc h=>?_) λhc h=>?_
    ·refine k8 ?_
     refine b7<|g8 ?_
     exact eJ h W
    ·refine a8 ?_
     refine S3 3 J<|cA h b3I J J λv23 _ h=>S2 1 J<|dr [] Ty.mix (by kernel_rfl) (by kernel_rfl)<|S7 6 J<|s6 h λv24 hv21 h=>d2 J (D3 J b3K J hv21) J<|S7 2 J<|r9 J (λhg _ hN=>oF J Ty.b7O J) J<|D0 J (λhg=>oS (ct hg) J J Ty.a3 J) J<|r9 J (λhg _ hN=>j8 (ct hg) J J) J<|r9 J (λhg _ hN=>om (d:=.bool (v22.State==2)) (ct hg)) J<|r9 (m8 J J J) (λhg _ hN=>oF J Ty.b0x J) J<|r9 (m8 J J J) (λhg _ hN=>oF (ct hg) Ty.c1x J) J<|D0 (m8 J J J) (λhg=>oS (ct hg) J J Ty.a3 J) J<|r9 (m8 J J J) (λhg _ hN=>j8 (ct hg) J J) J<|r9 (m8 J J J) (λhg _ hN=>om (d:=.bool (decide (v22.Val.Weak<1))) (ct hg)) J<|r9 (m8 J J J) (λhg _ hN=>oF J Ty.b0x J) J<|r9 (m8 J J J) (λhg _ hN=>oF (ct hg) Ty.c1z J) J<|D0 (m8 J J J) (λhg=>oS (ct hg) J J Ty.a27 J) J<|D0 (m8 J J J) (λhg=>M0 (f:=iF) (ct hg) Ty.z6) J<|r9 (m8 J J J) (λhg _ hN=>j8 (ct hg) J J) J<|r9 (m8 J J J) (λhg _ hN=>o0 (ct hg) J J (λq=>a1g hg (H3 q))) J<|r9 (m8 J J J) (λhg _ hN=>om (d:=.bool ((decide (v22.Val.Weak<1))||(decide ((v22.Val.Fields.length:Int) > 0)))) (ct hg)) J<|r9 (m8 J J J) (λhg _ hN=>oF J Ty.b0x J) J<|r9 (m8 J J J) (λhg _ hN=>oF (ct hg) Ty.c1w J) J<|D0 (m8 J J J) (λhg=>oS (ct hg) J J Ty.a3 J) J<|r9 (m8 J J J) (λhg _ hN=>j8 (ct hg) J J) J<|r9 (m8 J J J) (λhg _ hN=>o0 (ct hg) J J (λq=>a1g hg (H3 q))) J<|r9 J (λhg _ hN=>l7 (ct hg) J J (λq=>a1g hg (L5 q))) J<|d7 J (λ_ hN=>o0 J J J (λq=>H3 q)) J<|a0M ?_
     refine cN h (λhc h=>?_) λhc h=>?_
     ·refine S4 1 J ?_
      refine a7 ?_
      have h:=xL hx14 h
      cases h
      exact f1
     ·refine a8 ?_
      exact eJ h W
  ·refine k8 ?_
   refine b7<|b7<|g8 ?_
   have h:=xL hx14 h
   exact eJ h W

theorem b66{a0}:PO Tryz.prog 77 [x6.Pv a0] (a6G a0) λr=>.L iF r:=by
 refine pO Tryz.func77 λr h _ _=>?_
 refine S4 2 J<|sR<|y0 J (F7 J Ty.z6 Ty.s3)<|S2 1 J ?_
 refine jq h (λj13=>St.of [(3,.sl 910003)] [(910003,⟨List.map iF j13,(List.map iF j13).length,true,1,true⟩)]) (λj13 h=>?_) λκ12 h=>?_
 ·refine S4 2 J ?_
  refine a7 ?_
  cases h
  exact f1
 ·refine S4 1 J ?_
  refine b9<|lq h (λq=>St.of [(1,.ptr 1 0 0),(3,.sl 910003),(4,.I q.1)] [(1,vR (x6.Pv a0) 2),(910003,⟨List.map iF q.2,(List.map iF q.2).length,true,1,true⟩)]) (Wk.trans (I0 (t:=3) (l:=920003) (z:=1) J J) (WP (λl=>if l=910003 then 920003 else l))) λq18 x17 h hx12=>?_
  obtain⟨s15,s16⟩:=q18
  refine g5<|S3 3 J<|nL J Ty.e47<|S2 1 J ?_
  refine cN h (λhc h=>?_) λhc h=>?_
  ·refine a8 ?_
   refine jq h (λj22=>St.of [(1,.ptr 1 0 0),(3,.sl 28),(4,.I s15)] [(28,⟨List.map iF j22,(List.map iF j22).length,true,1,true⟩),(1,vR (x6.Pv a0) 2)]) (λj22 h=>?_) λκ21 h=>?_
   ·refine S6 3 J ?_
    exact eL h (Wk.trans (l4 _ [28]) (WP (λl=>if l=910003 then 28 else l)))
   ·refine b9 ?_
    refine S3 3 J<|iL h J J Ty.e47 Ty.b3Q λv23 hv16 h=>S2 3 J ?_
    refine cN h (λhc h=>?_) λhc h=>?_
    ·refine S5 4 J ?_
     refine y0 J (A3 (f:=p6.Pv) (cs:=p6.Pc v23) hv16 J J Ty.e47 Ty.b3Q J J)<|S1 2 J<|y0 J (M3 (f:=iF) (l:=[v23.At]) J Ty.z6 Ty.s3 Ty.z3 J J nl J J)<|s6 h λv24 hv17 h=>L9 J (I8 (f:=iF) hv17 J J J J J J (.inl ⟨_,J,J⟩) Ty.z6 Ty.s3 Ty.b3 Ty.z3 J (λ_=>J)) J J J<|S2 1 J ?_
     exact eJ h (Wk.trans (l4 _ [28]) W)
    ·refine a8 ?_
     exact eJ h (Wk.trans (l4 _ [910003]) (WP (λl=>if l=28 then 910003 else l)))
  ·refine k8 ?_
   refine b7<|b7<|g8 ?_
   have h:=xL hx12 h
   exact eJ h (Wk.trans (l4 _ [910003]) W)

theorem a9L{a0}:PO Tryz.prog 31 [g6.Pv a0] (a4D a0) λr=>.L iF r:=by
 refine pO Tryz.func31 λr h _ _=>?_
 refine S4 2 J<|sR<|y0 J (F7 J Ty.z6 Ty.s3)<|S2 1 J ?_
 refine jq h (λj13=>St.of [(1,.ptr 1 0 0),(3,.sl 910003)] [(910003,⟨List.map iF j13,(List.map iF j13).length,true,1,true⟩),(1,vR (g6.Pv a0) 8)]) (λj13 h=>?_) λκ12 h=>?_
 ·refine S3 3 J ?_
  refine cF h b66 J J λv14 _ h=>s6 h λv15 hv11 h=>L9 J (I8 (f:=iF) hv11 J J J J J J (.inl ⟨_,J,J⟩) Ty.z6 Ty.s3 Ty.b3 Ty.z3 J (λ_=>J)) J J J<|S2 1 J<|a7 ?_
  cases h
  exact f1
 ·refine S4 1 J ?_
  refine b9<|lq h (λq=>St.of [(1,.ptr 1 0 0),(3,.sl 910003),(4,.I q.1)] [(1,vR (g6.Pv a0) 8),(910003,⟨List.map iF q.2,(List.map iF q.2).length,true,1,true⟩)]) (Wk.trans (I0 (t:=3) (l:=920003) (z:=1) J J) (WP (λl=>if l=910003 then 920003 else l))) λq20 x19 h hx14=>?_
  obtain⟨s17,s18⟩:=q20
  refine g5<|S3 3 J<|nL J Ty.z6<|S2 1 J ?_
  refine cN h (λhc h=>?_) λhc h=>?_
  ·refine a8 ?_
   refine jq h (λj24=>St.of [(1,.ptr 1 0 0),(3,.sl 26),(4,.I s17)] [(26,⟨List.map iF j24,(List.map iF j24).length,true,1,true⟩),(1,vR (g6.Pv a0) 8)]) (λj24 h=>?_) λκ23 h=>?_
   ·refine S6 3 J ?_
    exact eL h (Wk.trans (l4 _ [26]) (WP (λl=>if l=910003 then 26 else l)))
   ·refine b9 ?_
    refine S3 3 J<|iL h J J Ty.z6 Ty.s3 λv25 hv18 h=>S2 2 J ?_
    refine cN h (λhc h=>?_) λhc h=>?_
    ·refine S5 4 J ?_
     refine y0 J (A3 (f:=iF) (cs:=[.I v25]) hv18 J J Ty.z6 Ty.s3 J J)<|S1 1 J<|y0 J (M3 (f:=iF) (l:=[v25]) J Ty.z6 Ty.s3 Ty.z3 J J nl J J)<|s6 h λv26 hv19 h=>L9 J (I8 (f:=iF) hv19 J J J J J J (.inl ⟨_,J,J⟩) Ty.z6 Ty.s3 Ty.b3 Ty.z3 J (λ_=>J)) J J J<|S2 1 J ?_
     exact eJ h (Wk.trans (l4 _ [26]) W)
    ·refine a8 ?_
     exact eJ h (Wk.trans (l4 _ [910003]) (WP (λl=>if l=26 then 910003 else l)))
  ·refine k8 ?_
   refine b7<|b7<|g8 ?_
   have h:=xL hx14 h
   exact eJ h (Wk.trans (l4 _ [910003]) W)

theorem b5g{a0}:PO Tryz.prog 224 [.I a0] (Y0 a0) λr=>.bool r:=by
 refine pO Tryz.func224 λr h _ _=>?_
 unfold Y0 at h
 refine S4 1 J<|S4 3 J<|a7 ?_
 cases h
 exact f1

theorem b5r{a0 a1}:PO Tryz.prog 146 [j1.Pv a0,.I a1] (a7r a0 a1) λr=>.bool r:=by
 refine pO Tryz.func146 λr h _ _=>?_
 refine S4 2 J<|S3 2 J<|cF h N6 J J λv1 _ h=>S2 6 J<|S3 2 J<|cA h b5g J J λv2 _ h=>S2 1 J<|a7 ?_
 cases h
 exact f1

theorem b5h{a0}:PO Tryz.prog 212 [.L iF a0] (a1x a0) λr=>.L iF r:=by
 refine pO Tryz.func212 λr h _ _=>?_
 refine S4 1 J<|sR<|y0 J (F7 J Ty.z6 Ty.s3)<|S2 1 J ?_
 refine jq h (λj13=>St.of [(3,.sl 910003)] [(910003,⟨List.map iF j13,(List.map iF j13).length,true,1,true⟩)]) (λj13 h=>?_) λκ12 h=>?_
 ·refine S4 2 J ?_
  refine a7 ?_
  cases h
  exact f1
 ·refine S4 1 J ?_
  refine b9<|lq h (λq=>St.of [(0,.L iF a0),(3,.sl 910003),(4,.I q.1)] [(910003,⟨List.map iF q.2,(List.map iF q.2).length,true,1,true⟩)]) (Wk.trans (I0 (t:=3) (l:=920003) (z:=1) J J) (WP (λl=>if l=910003 then 920003 else l))) λq18 x17 h hx12=>?_
  obtain⟨s15,s16⟩:=q18
  refine g5<|S3 2 J<|nL J Ty.z6<|S2 1 J ?_
  refine cN h (λhc h=>?_) λhc h=>?_
  ·refine a8 ?_
   refine jq h (λj22=>St.of [(0,.L iF a0),(3,.sl 23),(4,.I s15)] [(23,⟨List.map iF j22,(List.map iF j22).length,true,1,true⟩)]) (λj22 h=>?_) λκ21 h=>?_
   ·refine S6 3 J ?_
    exact eL h (Wk.trans (l4 _ [23]) (WP (λl=>if l=910003 then 23 else l)))
   ·refine b9 ?_
    refine S3 2 J<|iL h J J Ty.z6 Ty.s3 λv23 hv16 h=>S2 2 J ?_
    refine cN h (λhc h=>?_) λhc h=>?_
    ·refine S5 3 J ?_
     refine y0 J (A3 (f:=iF) (cs:=[.I v23]) hv16 J J Ty.z6 Ty.s3 J J)<|S1 1 J<|y0 J (M3 (f:=iF) (l:=[v23]) J Ty.z6 Ty.s3 Ty.z3 J J nl J J)<|s6 h λv24 hv17 h=>L9 J (I8 (f:=iF) hv17 J J J J J J (.inl ⟨_,J,J⟩) Ty.z6 Ty.s3 Ty.b3 Ty.z3 J (λ_=>J)) J J J<|S2 1 J ?_
     exact eJ h (Wk.trans (l4 _ [23]) W)
    ·refine a8 ?_
     exact eJ h (Wk.trans (l4 _ [910003]) (WP (λl=>if l=23 then 910003 else l)))
  ·refine k8 ?_
   refine b7<|b7<|g8 ?_
   have h:=xL hx12 h
   exact eJ h (Wk.trans (l4 _ [910003]) W)

theorem b2N{a0 a1}:PO Tryz.prog 227 [j1.Pv a0,.I a1] (a9C a0 a1) λr=>.L iF r:=by
 refine pO Tryz.func227 λr h _ _=>?_
 refine S4 2 J<|S3 2 J<|cF h N6 J J λv1 _ h=>S2 6 J<|g5<|S4 2 J ?_
 refine cN h (λhc h=>?_) λhc h=>?_
 ·refine S4 1 J ?_
  refine a7 ?_
  cases h
  exact f1
 ·refine a8 ?_
  refine S3 2 J<|cF h b5h J J λv2 _ h=>S2 1 J<|a7 ?_
  cases h
  exact f1

theorem a2t{a0 a1}:PO Tryz.prog 35 [.L iF a0,.I a1] (Y1 a0 a1) λr=>.I r:=by
 refine pO Tryz.func35 λr h _ _=>?_
 refine S4 1 J<|S4 1 J ?_
 refine jq h (λj11=>St.of [(5,.I j11)] []) (λj11 h=>?_) λκ10 h=>?_
 ·refine S4 2 J ?_
  refine a7 ?_
  cases h
  exact f1
 ·refine S4 1 J ?_
  refine b9<|lq h (λq=>St.of [(0,.L iF a0),(1,.I a1),(5,.I q.1),(6,.I q.2)] []) W λq16 x15 h hx10=>?_
  obtain⟨s13,s14⟩:=q16
  refine g5<|S3 2 J<|nL J Ty.z6<|S2 1 J ?_
  refine cN h (λhc h=>?_) λhc h=>?_
  ·refine a8 ?_
   refine jq h (λj19=>St.of [(0,.L iF a0),(1,.I a1),(5,.I j19),(6,.I s14)] []) (λj19 h=>?_) λκ18 h=>?_
   ·refine S6 3 J ?_
    exact eL h W
   ·refine b9 ?_
    refine S3 2 J<|iL h J J Ty.z6 Ty.s3 λv20 _ h=>S1 4 J<|b8 J (λhg=>mI J)<|b8 J (λhg=>j8 (ct hg) J J)<|y0 J (l7 J J J (λq=>L5 q))<|yN ?_
    refine cN h (λhc h=>?_) λhc h=>?_
    ·refine S6 3 J ?_
     exact eJ h W
    ·refine a8 ?_
     exact eJ h W
  ·refine k8 ?_
   refine b7<|b7<|g8 ?_
   have h:=xL hx10 h
   exact eJ h W

theorem c0j{a0 a1}:PO Tryz.prog 285 [j1.Pv a0,.I a1] (b5k a0 a1) λr=>.I r:=by
 refine pO Tryz.func285 λr h _ _=>?_
 refine S4 2 J<|S4 1 J<|S3 1 J<|cF h a0D J J λv1 _ h=>S2 1 J ?_
 refine jq h (λj11=>St.of [(5,.I j11)] []) (λj11 h=>?_) λκ10 h=>?_
 ·refine S4 2 J ?_
  refine a7 ?_
  cases h
  exact f1
 ·refine S4 1 J ?_
  refine b9<|lq h (λq=>St.of [(1,.I a1),(2,.ptr 2 0 0),(5,.I q.1),(6,.L iF v1),(7,.I q.2)] [(2,vR (j1.Pv a0) 3)]) W λq16 x15 h hx11=>?_
  obtain⟨s13,s14⟩:=q16
  refine g5<|S3 2 J<|nL J Ty.z6<|S2 1 J ?_
  refine cN h (λhc h=>?_) λhc h=>?_
  ·refine a8 ?_
   refine g5<|b9<|a6A [] Ty.mix (by kernel_rfl) (by kernel_rfl)<|S7 4 J<|s6 h λv17 hv12 h=>d0 J (A3 (f:=iF) (cs:=[.I v17]) hv12 J J Ty.z6 Ty.s3 J J) J<|S7 1 J<|s6 h λv18 hv13 h=>d2f J (y8 J b2N J hv13) J<|S7 1 J<|s6 h λv19 hv14 h=>d2 J (D3 J a2t J hv14) J<|S8 2 J<|S6 3 J ?_
   exact eL h W
  ·refine k8 ?_
   refine b7<|b7<|g8 ?_
   have h:=xL hx11 h
   exact eJ h W

theorem b5o{a0 a1}:PO Tryz.prog 286 [.L j2.Pv a0,.I a1] (a7p a0 a1) λr=>.I r:=by
 refine pO Tryz.func286 λr h _ _=>?_
 refine S4 1 J<|S4 1 J<|S3 1 J<|cF h a5p J J λv1 _ h=>S2 1 J ?_
 refine jq h (λj12=>St.of [(5,.I j12)] []) (λj12 h=>?_) λκ11 h=>?_
 ·refine S4 2 J ?_
  refine a7 ?_
  cases h
  exact f1
 ·refine S4 1 J ?_
  refine b9<|lq h (λq=>St.of [(1,.I a1),(5,.I q.1),(6,.L r7.Pv v1),(7,.I q.2)] []) W λq17 x16 h hx11=>?_
  obtain⟨s14,s15⟩:=q17
  refine g5<|S3 2 J<|nL J Ty.b0r<|S2 1 J ?_
  refine cN h (λhc h=>?_) λhc h=>?_
  ·refine a8 ?_
   refine jq h (λj20=>St.of [(1,.I a1),(5,.I j20),(6,.L r7.Pv v1),(7,.I s15)] []) (λj20 h=>?_) λκ19 h=>?_
   ·refine S6 3 J ?_
    exact eL h W
   ·refine b9 ?_
    refine S3 2 J<|iL h J J Ty.b0r Ty.b3S λv21 _ h=>S1 5 J<|b8 J (λhg=>mI J)<|b8 J (λhg=>j8 (ct hg) J J)<|y0 J (l7 J J J (λq=>L5 q))<|yN ?_
    refine cN h (λhc h=>?_) λhc h=>?_
    ·refine S6 3 J ?_
     exact eJ h W
    ·refine a8 ?_
     exact eJ h W
  ·refine k8 ?_
   refine b7<|b7<|g8 ?_
   have h:=xL hx11 h
   exact eJ h W

theorem b5q{a0 a1 a2}:PO Tryz.prog 225 [j1.Pv a0,.L j2.Pv a1,.I a2] (a7q a0 a1 a2) λr=>.I r:=by
 refine pO Tryz.func225 λr h _ _=>?_
 refine S4 2 J<|S3 2 J<|cA h c0j J J λv1 _ h=>S1 2 J<|cA h b5o J J λv2 _ h=>S2 2 J<|a7 ?_
 cases h
 exact f1

theorem b65{a0 a1 a2}:PO Tryz.prog 147 [j1.Pv a0,.L j2.Pv a1,.I a2] (a9K a0 a1 a2) λr=>.I r:=by
 refine pO Tryz.func147 λr h _ _=>?_
 refine S4 2 J<|S3 2 J<|cF h N6 J J λv1 _ h=>S2 6 J<|g5<|S4 2 J ?_
 refine cN h (λhc h=>?_) λhc h=>?_
 ·refine S4 1 J ?_
  refine a7 ?_
  cases h
  exact f1
 ·refine a8 ?_
  refine dr [] Ty.mix (by kernel_rfl) (by kernel_rfl)<|S7 5 J<|s6 h λv2 hv2 h=>d2 J (D3 J b5q J hv2) J<|S8 2 J<|a7 ?_
  cases h
  exact f1

theorem b64{a0 a1 a2}:PO Tryz.prog 74 [j1.Pv a0,.L j2.Pv a1,.L iF a2] (a9J a0 a1 a2) λr=>.bool r:=by
 refine pO Tryz.func74 λr h _ _=>?_
 refine S4 2 J<|S3 1 J<|cF h a0D J J λv1 _ h=>S2 1 J ?_
 refine jq h (λ_=>St.of [] []) (λq10 h=>?_) λκ9 h=>?_
 ·refine S4 1 J ?_
  refine a7 ?_
  cases h
  exact f1
 ·refine S4 1 J ?_
  refine b9<|lq h (λs12=>St.of [(1,.L j2.Pv a1),(2,.L iF a2),(3,.ptr 3 0 0),(7,.L iF v1),(8,.I s12)] [(3,vR (j1.Pv a0) 3)]) W λs12 x13 h hx12=>g5<|S3 2 J<|nL J Ty.z6<|S2 1 J ?_
  refine cN h (λhc h=>?_) λhc h=>?_
  ·refine a8 ?_
   refine g5<|b9<|dr [] Ty.mix (by kernel_rfl) (by kernel_rfl)<|S7 3 J<|s6 h λv14 hv13 h=>d0 J (A3 (f:=iF) (cs:=[.I v14]) hv13 J J Ty.z6 Ty.s3 J J) J<|S7 1 J<|s6 h λv15 hv14 h=>d2 J (D3 J b5r J hv14) J<|S7 2 J<|D0 J (λhg=>oL J J J Ty.a44 Ty.s44 nl J) J<|r9 J (λhg _ hN=>om (d:=.L j2.Pv a1) J) J<|r9 J (λhg _ hN=>om (d:=.L iF v1) J) J<|r9 J (λhg _ hN=>mI J) J<|D0 J (λhg=>A3 (f:=iF) (cs:=[.I v14]) hv13 (ct hg) (ct hg) Ty.z6 Ty.s3 J J) J<|D0 J (λhg=>B4 (ct hg) Ty.a3 J) J<|s6 h λv16 hv15 h=>a6i J (λhg=>D3 J b65 (A1 (ct hg) (A1 (ct hg) (A1 (ct hg) J))) (D2 hv15 hg)) J<|r9 J (λhg _ hN=>om (d:=.L iF a2) J) J<|r9 J (λhg _ hN=>om (d:=.L iF v1) J) J<|r9 J (λhg _ hN=>mI J) J<|D0 J (λhg=>A3 (f:=iF) (cs:=[.I v14]) hv13 (ct hg) (ct hg) Ty.z6 Ty.s3 J J) J<|D0 J (λhg=>B4 (ct hg) Ty.a3 J) J<|s6 h λv17 hv16 h=>a6i J (λhg=>D3 J a2t (A1 (ct hg) (A1 (ct hg) J)) (D2 hv16 hg)) J<|r9 J (λhg _ hN=>j8 (ct hg) (ct hg) J) J<|d7 J (λ_ hN=>l7 J J J (λq=>L5 q)) J<|a0M ?_
   refine cN h (λhc h=>?_) λhc h=>?_
   ·refine S4 1 J ?_
    refine a7 ?_
    have h:=xL hx12 h
    cases h
    exact f1
   ·refine a8 ?_
    refine S6 3 J ?_
    exact eL h W
  ·refine k8 ?_
   refine b7<|b7<|g8 ?_
   have h:=xL hx12 h
   exact eJ h W

theorem b5t{a0}:PO Tryz.prog 28 [g6.Pv a0] (a4E a0) λr=>.bool r:=by
 refine pO Tryz.func28 λr h _ _=>?_
 refine S4 2 J<|g5<|S3 2 J<|cA h b5j J J λv1 _ h=>S1 2 J<|b8 J (λhg=>oF J Ty.c5g J)<|b8 J (λhg=>oS (ct hg) J J Ty.a46 J)<|s6 h λv2 hv2 h=>b8 J (λhg=>D3 J b5n (A1 (ct hg) J) (D2 hv2 hg))<|b8 J (λhg=>a0C (ct hg) J)<|y0 J (o0 J J J (λq=>H3 q))<|S1 1 J<|b8 J (λhg=>oF J Ty.c7W J)<|b8 J (λhg=>oS (ct hg) J J Ty.a27 J)<|b8 J (λhg=>M0 (f:=iF) (ct hg) Ty.z6)<|b8 J (λhg=>j8 (ct hg) J J)<|y0 J (o0 J J J (λq=>H3 q))<|S1 1 J<|b8 J (λhg=>oF J Ty.c7X J)<|b8 J (λhg=>oS (ct hg) J J Ty.a45 J)<|b8 J (λhg=>M0 (f:=p7.Pv) (ct hg) Ty.e45)<|b8 J (λhg=>j8 (ct hg) J J)<|y0 J (o0 J J J (λq=>H3 q))<|yN ?_
 refine cN h (λhc h=>?_) λhc h=>?_
 ·refine S4 1 J ?_
  refine a7 ?_
  cases h
  exact f1
 ·refine a8 ?_
  refine dr [] Ty.mix (by kernel_rfl) (by kernel_rfl)<|S7 1 J<|s6 h λv3 hv3 h=>d2 J (D3 J b5w J hv3) J<|S7 1 J<|D0 J (λhg=>oL J J J Ty.a51 Ty.s51 nl J) J<|s6 h λv4 hv4 h=>a6i J (λhg=>D3 J b5v (A1 (ct hg) J) (D2 hv4 hg)) J<|d7 J (λ_ hN=>l7 J J J (λq=>L5 q)) J<|S7 1 J<|D0 J (λhg=>oL J J J Ty.a51 Ty.s51 nl J) J<|s6 h λv5 hv5 h=>a6i J (λhg=>D3 J b5u (A1 (ct hg) J) (D2 hv5 hg)) J<|d7 J (λ_ hN=>l7 J J J (λq=>L5 q)) J<|S7 1 J<|D0 J (λhg=>oL J J J Ty.a51 Ty.s51 nl J) J<|s6 h λv6 hv6 h=>a6i J (λhg=>D3 J b5x (A1 (ct hg) J) (D2 hv6 hg)) J<|d7 J (λ_ hN=>l7 J J J (λq=>L5 q)) J<|S7 1 J<|r9 J (λhg _ hN=>oF J Ty.c7V J) J<|D0 J (λhg=>oL (ct hg) J J Ty.a44 Ty.s44 nl J) J<|r9 J (λhg _ hN=>oF J Ty.c5g J) J<|D0 J (λhg=>oS (ct hg) J J Ty.a46 J) J<|D0 J (λhg=>oL J J J Ty.a51 Ty.s51 nl J) J<|s6 h λv7 hv7 h=>c5X J (λhg=>y8 J a9L (A1 (ct hg) J) (D2 hv7 hg)) J<|s6 h λv8 hv8 h=>a6i J (λhg=>D3 J b64 (A1 (ct hg) (A1 (ct hg) (A1 (ct hg) J))) (D2 hv8 hg)) J<|d7 J (λ_ hN=>l7 J J J (λq=>L5 q)) J<|S8 1 J<|a7 ?_
  cases h
  exact f1

theorem b54{a0}:PO Tryz.prog 36 [hold_Heap.Pv a0] (a7K a0) λr=>.bool r:=by
 refine pO Tryz.func36 λr h _ _=>?_
 refine S4 2 J<|S3 1 J<|cA h a8N J J λv1 _ h=>S1 1 J<|b8 J (λhg=>oF J Ty.c1s J)<|b8 J (λhg=>oF (ct hg) Ty.b8S J)<|b8 J (λhg=>oS (ct hg) J J Ty.a3 J)<|b8 J (λhg=>j8 (ct hg) J J)<|y0 J (l7 J J J (λq=>L5 q))<|S1 1 J<|b8 J (λhg=>oL J J J Ty.U6 Ty.O0 nl J)<|s6 h λv2 hv2 h=>c3o J (λhg=>y8 J a61 (A1 (ct hg) J) (D2 hv2 hg))<|s6 h λv3 hv3 h=>b8 J (λhg=>D3 J b5t (A1 (ct hg) J) (D2 hv3 hg))<|y0 J (l7 J J J (λq=>L5 q))<|S2 1 J<|a7 ?_
 cases h
 exact f1

theorem b67{a0}:PO Tryz.prog 75 [g6.Pv a0] (a23 a0) λr=>.L iF r:=by
 refine pO Tryz.func75 λr h _ _=>?_
 refine S4 2 J<|sR<|y0 J (F7 J Ty.z6 Ty.s3)<|S2 1 J<|S3 2 J<|cF h a0D J J λv1 _ h=>S2 1 J ?_
 refine jq h (λj16=>St.of [(3,.sl 910003)] [(910003,⟨List.map iF j16,(List.map iF j16).length,true,1,true⟩)]) (λj16 h=>?_) λκ15 h=>?_
 ·refine S4 2 J ?_
  refine a7 ?_
  cases h
  exact f1
 ·refine S4 1 J ?_
  refine b9<|lq h (λq=>St.of [(1,.ptr 1 0 0),(3,.sl 910003),(4,.L iF v1),(5,.I q.1)] [(1,vR (g6.Pv a0) 8),(910003,⟨List.map iF q.2,(List.map iF q.2).length,true,1,true⟩)]) (Wk.trans (I0 (t:=3) (l:=920003) (z:=1) J J) (WP (λl=>if l=910003 then 920003 else l))) λq21 x20 h hx15=>?_
  obtain⟨s18,s19⟩:=q21
  refine g5<|S3 2 J<|nL J Ty.z6<|S2 1 J ?_
  refine cN h (λhc h=>?_) λhc h=>?_
  ·refine a8 ?_
   refine jq h (λj26=>St.of [(1,.ptr 1 0 0),(3,.sl 37),(4,.L iF v1),(5,.I s18)] [(37,⟨List.map iF j26,(List.map iF j26).length,true,1,true⟩),(1,vR (g6.Pv a0) 8)]) (λj26 h=>?_) λκ25 h=>?_
   ·refine S6 3 J ?_
    exact eL h (Wk.trans (l4 _ [37]) (WP (λl=>if l=910003 then 37 else l)))
   ·refine b9 ?_
    refine dr [] Ty.mix (by kernel_rfl) (by kernel_rfl)<|S7 4 J<|s6 h λv27 hv20 h=>d0 J (A3 (f:=iF) (cs:=[.I v27]) hv20 J J Ty.z6 Ty.s3 J J) J<|S7 1 J<|s6 h λv28 hv21 h=>d2f J (y8 J N6 J hv21) J<|S7 4 J<|Z7 (x':=A5.Pv v28.1) (cl':=true) J J (.inr J) Ty.s78<|S8 1 J<|S4 3 J ?_
    refine cN h (λhc h=>?_) λhc h=>?_
    ·refine S5 3 J ?_
     refine y0 J (A3 (f:=iF) (cs:=[.I v27]) hv20 J J Ty.z6 Ty.s3 J J)<|S1 1 J<|y0 J (M3 (f:=iF) (l:=[v27]) J Ty.z6 Ty.s3 Ty.z3 J J nl J J)<|s6 h λv29 hv22 h=>L9 J (I8 (f:=iF) hv22 J J J J J J (.inl ⟨_,J,J⟩) Ty.z6 Ty.s3 Ty.b3 Ty.z3 J (λ_=>J)) J J J<|S2 1 J ?_
     exact eJ h (Wk.trans (l4 _ [37]) W)
    ·refine a8 ?_
     exact eJ h (Wk.trans (l4 _ [910003]) (WP (λl=>if l=37 then 910003 else l)))
  ·refine k8 ?_
   refine b7<|b7<|g8 ?_
   have h:=xL hx15 h
   exact eJ h (Wk.trans (l4 _ [910003]) W)

theorem b2P{a0}:PO Tryz.prog 29 [g6.Pv a0] (a3M a0) λr=>.bool r:=by
 refine pO Tryz.func29 λr h _ _=>?_
 refine S4 2 J<|S3 1 J<|cF h b67 J J λv1 _ h=>nL J Ty.z6<|S2 2 J<|a7 ?_
 cases h
 exact f1

theorem a60{a0}:PO Tryz.prog 10 [hold_Heap.Pv a0] (a3k a0) λr=>.bool r:=by
 refine pO Tryz.func10 λr h _ _=>?_
 refine S4 2 J<|S3 1 J<|cA h b54 J J λv1 _ h=>S1 1 J<|b8 J (λhg=>oL J J J Ty.U6 Ty.O0 nl J)<|s6 h λv2 hv2 h=>c3o J (λhg=>y8 J a61 (A1 (ct hg) J) (D2 hv2 hg))<|s6 h λv3 hv3 h=>b8 J (λhg=>D3 J b2P (A1 (ct hg) J) (D2 hv3 hg))<|y0 J (l7 J J J (λq=>L5 q))<|S2 1 J<|a7 ?_
 cases h
 exact f1

theorem a6a{a0 a1}:PO Tryz.prog 133 [.I a0,.I a1] (a3f a0 a1) λr=>slab_Slab_store_Obj.Pv r:=by
 refine pO Tryz.func133 λr h _ _=>?_
 refine S4 1 J<|g5<|S3 3 J<|b8 J (λhg=>mI J)<|b8 J (λhg=>j8 (ct hg) J J)<|y0 J (o0 J J J (λq=>H3 q))<|S1 1 J<|b8 J (λhg=>mI J)<|b8 J (λhg=>j8 (ct hg) J J)<|y0 J (o0 J J J (λq=>H3 q))<|S1 1 J<|b8 J (λhg=>mI J)<|b8 J (λhg=>j8 (ct hg) J J)<|y0 J (o0 J J J (λq=>H3 q))<|yN ?_
 refine cN h (λhc h=>?_) λhc h=>?_
 ·refine sR ?_
  refine y0 J (m7 (cs:=[.nl,.I 0]) J Ty.p24 Ty.z24 J J J)<|b0j (x':=.agg [.nl,.I 0]) (cl':=true) J J (.inl J) Ty.s24<|yN<|a7 ?_
  cases h
  exact⟨J,[_],⟨oL J J J Ty.a24 Ty.s24 nl J,tr⟩,J,io⟩
 ·refine a8 ?_
  refine S3 1 J<|s6 h λv1 hv1 h=>y1 J (b8c (f:=slab_Cell_store_Obj.Pv) hv1 J J J Ty.e22 Ty.a4I Ty.c0K Ty.c7K J J J) J<|S1 1 J<|y0 J (m7 (cs:=[.sl 21,.I a1]) J Ty.p24 Ty.z24 J J J)<|S2 1 J<|a7 ?_
  cases h
  exact⟨J,[_],⟨oL J J J Ty.a24 Ty.s24 nl J,tr⟩,J,io⟩

theorem b5Q{a0 a1}:PO Tryz.prog 60 [.I a0,.I a1] (b4w a0 a1) λr=>store_Store.Pv r:=by
 refine pO Tryz.func60 λr h _ _=>?_
 refine S4 1 J<|S3 2 J<|cF h a6a J J λv1 _ h=>y0 J (m7 (cs:=[.L slab_Cell_store_Obj.Pv v1.Cells,.I v1.Last,.I 0]) J Ty.p26 Ty.z26 J J J)<|S2 1 J<|a7 ?_
 cases h
 exact⟨J,[_],⟨oL J J J Ty.a26 Ty.s26 nl J,tr⟩,J,io⟩

theorem b7v{a0}:PO Tryz.prog 61 [.I a0] (b7u a0) λr=>.L weak_Cell.Pv r:=by
 refine pO Tryz.func61 λr h _ _=>?_
 refine S4 1 J<|g5<|S3 3 J<|b8 J (λhg=>mI J)<|b8 J (λhg=>j8 (ct hg) J J)<|y0 J (o0 J J J (λq=>H3 q))<|yN ?_
 refine cN h (λhc h=>?_) λhc h=>?_
 ·refine S4 1 J ?_
  refine a7 ?_
  cases h
  exact f1
 ·refine a8 ?_
  refine S3 1 J<|s6 h λv1 hv1 h=>y1 J (b8c (f:=weak_Cell.Pv) hv1 J J J Ty.e28 Ty.s84 Ty.z84 Ty.b84 J J J) J<|S2 1 J ?_
  refine jq h (λj9=>St.of [(3,.sl 12)] [(12,⟨List.map weak_Cell.Pv j9,0,true,3,true⟩)]) (λj9 h=>?_) λκ8 h=>?_
  ·refine S4 2 J ?_
   refine a7 ?_
   cases h
   exact f1
  ·refine S3 1 J ?_
   refine y0 J (b9a (f:=weak_Cell.Pv) J J J Ty.e28)<|S2 1 J<|b9<|lq h (λq=>St.of [(3,.sl 12),(14,.I (v1.length:Int)),(15,.I q.1)] [(12,⟨List.map weak_Cell.Pv q.2,0,true,3,true⟩)]) W λq14 x13 h hx9=>?_
   obtain⟨s11,s12⟩:=q14
   refine S4 1 J<|g5 ?_
   refine cN h (λhc h=>?_) λhc h=>?_
   ·refine a8 ?_
    refine g5<|b9<|S4 2 J<|S5 2 J<|s6 h λv15 hv10 h=>y0 J (a2Y (f:=weak_Cell.Pv) hv10 J J J J Ty.e28 Ty.s84 J)<|S1 1 J<|b0i (f:=weak_Cell.Pv) (v:=(⟨v15.Target,v15.Intact,(-1)⟩:weak_Cell)) hv10 J J (.inl J) Ty.s3<|yN<|S6 2 J ?_
    exact eL h W
   ·refine k8 ?_
    refine b7<|b7<|g8 ?_
    have h:=xL hx9 h
    exact eJ h W

theorem b6z{a0}:PO Tryz.prog 62 [.I a0] (b6y a0) λr=>.L hash_Place.Pv r:=by
 refine pO Tryz.func62 λr h _ _=>?_
 refine S4 1 J<|g5<|S3 3 J<|b8 J (λhg=>mI J)<|b8 J (λhg=>j8 (ct hg) J J)<|y0 J (o0 J J J (λq=>H3 q))<|yN ?_
 refine cN h (λhc h=>?_) λhc h=>?_
 ·refine S4 1 J ?_
  refine a7 ?_
  cases h
  exact f1
 ·refine a8 ?_
  refine S3 1 J<|s6 h λv1 hv1 h=>y1 J (b8c (f:=hash_Place.Pv) hv1 J J J Ty.e29 Ty.a8G Ty.c0L Ty.c7L J J J) J<|S2 1 J<|a7 ?_
  cases h
  exact f1

theorem a5n{a0}:PO Tryz.prog 134 [.I a0] (Z3 a0) λr=>queue_Queue_task_Task.Pv r:=by
 refine pO Tryz.func134 λr h _ _=>?_
 unfold Z3 at h
 refine S4 1 J<|S3 1 J<|y0 J (m7 (cs:=[.nl,.I a0]) J Ty.p32 Ty.z32 J J J)<|b0j (x':=.agg [.nl,.I a0]) (cl':=true) J J (.inl J) Ty.s32<|yN<|a7 ?_
 cases h
 exact⟨J,[_],⟨oL J J J Ty.a32 Ty.s32 nl J,tr⟩,J,io⟩

theorem b1m:PO Tryz.prog 63 [] (a97) λr=>queue_Queue_task_Task.Pv r:=by
 refine pO Tryz.func63 λr h _ _=>?_
 refine S4 1 J<|sR<|cF h a5n J J λv1 _ h=>S2 1 J<|a7 ?_
 cases h
 exact⟨J,[_],⟨oL J J J Ty.a32 Ty.s32 nl J,tr⟩,J,io⟩

theorem b6C{a0 a1 a2}:PO Tryz.prog 22 [.I a0,.I a1,.I a2] (b2p a0 a1 a2) λr=>hold_Heap.Pv r:=by
 refine pO Tryz.func22 λr h _ _=>?_
 refine S4 1 J<|g5<|S3 3 J<|b8 J (λhg=>mI J)<|b8 J (λhg=>j8 (ct hg) J J)<|y0 J (o0 J J J (λq=>H3 q))<|S1 1 J<|b8 J (λhg=>mI J)<|b8 J (λhg=>j8 (ct hg) J J)<|y0 J (o0 J J J (λq=>H3 q))<|S1 1 J<|b8 J (λhg=>mI J)<|b8 J (λhg=>j8 (ct hg) J J)<|y0 J (o0 J J J (λq=>H3 q))<|S1 1 J<|b8 J (λhg=>mI J)<|b8 J (λhg=>j8 (ct hg) J J)<|y0 J (o0 J J J (λq=>H3 q))<|S1 1 J<|b8 J (λhg=>mI J)<|b8 J (λhg=>j8 (ct hg) J J)<|y0 J (o0 J J J (λq=>H3 q))<|yN ?_
 refine cN h (λhc h=>?_) λhc h=>?_
 ·refine sR ?_
  refine y0 J (m7 (cs:=[.nl,.I 0,.I 0,.nl,.nl,.nl,.nl,.I 0]) J Ty.p34 Ty.z34 J J J)<|b0j (x':=.agg [.nl,.I 0,.I 0,.nl,.nl,.nl,.nl,.I 0]) (cl':=true) J J (.inl J) Ty.O0<|yN<|a7 ?_
  cases h
  exact⟨J,[_],⟨oL J J J Ty.U6 Ty.O0 nl J,tr⟩,J,io⟩
 ·refine a8 ?_
  refine dr [] Ty.mix (by kernel_rfl) (by kernel_rfl)<|S7 2 J<|s6 h λv1 hv1 h=>d2f J (y8 J b5Q J hv1) J<|s6 h λv2 hv2 h=>d1 J (b8c (f:=iF) hv2 J J J Ty.z6 Ty.s3 Ty.z3 Ty.b3 J J J) J J J<|s6 h λv3 hv3 h=>d2f J (y8 J b7v J hv3) J<|S7 1 J<|s6 h λv4 hv4 h=>d2f J (y8 J b6z J hv4) J<|s6 h λv5 hv5 h=>d2f J (y8 J b1m J hv5) J<|d7 J (λ_ hN=>m7 (cs:=[.L slab_Cell_store_Obj.Pv v1.S.Cells,.I v1.S.Last,.I v1.Serial,.sl 33,.L weak_Cell.Pv v3,.L hash_Place.Pv v4,.L task_Task.Pv v5.L,.I v5.Cap]) J Ty.p34 Ty.z34 J J J) J<|Z7 (x':=.agg [.L slab_Cell_store_Obj.Pv v1.S.Cells,.I v1.S.Last,.I v1.Serial,.sl 33,.L weak_Cell.Pv v3,.L hash_Place.Pv v4,.L task_Task.Pv v5.L,.I v5.Cap]) (cl':=false) J J (.inr J) Ty.O0<|a0M<|a7 ?_
  cases h
  exact⟨J,[_],⟨oL J J J Ty.U6 Ty.O0 nl J,tr⟩,J,io⟩

theorem w7:PO Tryz.prog 177 [.fn (.func 178) []] (U1) λr=>g7.Pv r:=by
 refine pO Tryz.func177 λr h _ _=>?_
 unfold U1 at h
 refine S4 1 J<|S3 1 J<|y0 J (m7 (cs:=[.fn (.func 178) [],.I 0,.I 5,.I 6]) J Ty.b2D Ty.a3t J J J)<|L1 (a2p 4 (d':=.agg [fvE (some 178),.I 0,.I 5,.I 6]) J)<|S2 1 J<|a7 ?_
 cases h
 exact⟨J,[_],⟨oL J J J Ty.b4B Ty.a35 nl J,tr⟩,J,io⟩

theorem U7:PO Tryz.prog 180 [.fn (.func 181) []] (N2) λr=>g7.Pv r:=by
 refine pO Tryz.func180 λr h _ _=>?_
 unfold N2 at h
 refine S4 1 J<|S3 1 J<|y0 J (m7 (cs:=[.fn (.func 181) [],.I (-1),.I 5,.I 13]) J Ty.b2D Ty.a3t J J J)<|L1 (a2p 4 (d':=.agg [fvE (some 181),.I (-1),.I 5,.I 13]) J)<|S2 1 J<|a7 ?_
 cases h
 exact⟨J,[_],⟨oL J J J Ty.b4B Ty.a35 nl J,tr⟩,J,io⟩

theorem C5{a0}:PO Tryz.prog 176 [.L g7.Pv a0] (G4 a0) λr=>.L g7.Pv r:=by
 refine pO Tryz.func176 λr h _ _=>?_
 unfold G4 at h
 refine S4 1 J<|S4 2 J<|a7 ?_
 cases h
 exact f1

theorem I2:PO Tryz.prog 177 [.fn (.func 179) []] (U2) λr=>g7.Pv r:=by
 refine pO Tryz.func177 λr h _ _=>?_
 unfold U2 at h
 refine S4 1 J<|S3 1 J<|y0 J (m7 (cs:=[.fn (.func 179) [],.I 0,.I 5,.I 6]) J Ty.b2D Ty.a3t J J J)<|L1 (a2p 4 (d':=.agg [fvE (some 179),.I 0,.I 5,.I 6]) J)<|S2 1 J<|a7 ?_
 cases h
 exact⟨J,[_],⟨oL J J J Ty.b4B Ty.a35 nl J,tr⟩,J,io⟩

theorem a3q:PO Tryz.prog 182 [.fn (.func 181) []] (Q9) λr=>g7.Pv r:=by
 refine pO Tryz.func182 λr h _ _=>?_
 unfold Q9 at h
 refine S4 1 J<|S3 1 J<|y0 J (m7 (cs:=[.fn (.func 181) [],.I 0,.I 3,.I 5]) J Ty.b2D Ty.a3t J J J)<|L1 (a2p 4 (d':=.agg [fvE (some 181),.I 0,.I 3,.I 5]) J)<|S2 1 J<|a7 ?_
 cases h
 exact⟨J,[_],⟨oL J J J Ty.b4B Ty.a35 nl J,tr⟩,J,io⟩

theorem a3p:PO Tryz.prog 182 [.fn (.func 179) []] (Q8) λr=>g7.Pv r:=by
 refine pO Tryz.func182 λr h _ _=>?_
 unfold Q8 at h
 refine S4 1 J<|S3 1 J<|y0 J (m7 (cs:=[.fn (.func 179) [],.I 0,.I 3,.I 5]) J Ty.b2D Ty.a3t J J J)<|L1 (a2p 4 (d':=.agg [fvE (some 179),.I 0,.I 3,.I 5]) J)<|S2 1 J<|a7 ?_
 cases h
 exact⟨J,[_],⟨oL J J J Ty.b4B Ty.a35 nl J,tr⟩,J,io⟩

theorem a1p:PO Tryz.prog 183 [.fn (.func 181) []] (K7) λr=>g7.Pv r:=by
 refine pO Tryz.func183 λr h _ _=>?_
 unfold K7 at h
 refine S4 1 J<|S3 1 J<|y0 J (m7 (cs:=[.fn (.func 181) [],.I (-1),.I 5,.I 6]) J Ty.b2D Ty.a3t J J J)<|L1 (a2p 4 (d':=.agg [fvE (some 181),.I (-1),.I 5,.I 6]) J)<|S2 1 J<|a7 ?_
 cases h
 exact⟨J,[_],⟨oL J J J Ty.b4B Ty.a35 nl J,tr⟩,J,io⟩

theorem a3X:PO Tryz.prog 184 [.fn (.func 178) []] (T9) λr=>g7.Pv r:=by
 refine pO Tryz.func184 λr h _ _=>?_
 unfold T9 at h
 refine S4 1 J<|S3 1 J<|y0 J (m7 (cs:=[.fn (.func 178) [],.I 0,.I 5,.I 7]) J Ty.b2D Ty.a3t J J J)<|L1 (a2p 4 (d':=.agg [fvE (some 178),.I 0,.I 5,.I 7]) J)<|S2 1 J<|a7 ?_
 cases h
 exact⟨J,[_],⟨oL J J J Ty.b4B Ty.a35 nl J,tr⟩,J,io⟩

theorem P0:PO Tryz.prog 183 [.fn (.func 179) []] (K6) λr=>g7.Pv r:=by
 refine pO Tryz.func183 λr h _ _=>?_
 unfold K6 at h
 refine S4 1 J<|S3 1 J<|y0 J (m7 (cs:=[.fn (.func 179) [],.I (-1),.I 5,.I 6]) J Ty.b2D Ty.a3t J J J)<|L1 (a2p 4 (d':=.agg [fvE (some 179),.I (-1),.I 5,.I 6]) J)<|S2 1 J<|a7 ?_
 cases h
 exact⟨J,[_],⟨oL J J J Ty.b4B Ty.a35 nl J,tr⟩,J,io⟩

theorem a3Y:PO Tryz.prog 184 [.fn (.func 179) []] (U0) λr=>g7.Pv r:=by
 refine pO Tryz.func184 λr h _ _=>?_
 unfold U0 at h
 refine S4 1 J<|S3 1 J<|y0 J (m7 (cs:=[.fn (.func 179) [],.I 0,.I 5,.I 7]) J Ty.b2D Ty.a3t J J J)<|L1 (a2p 4 (d':=.agg [fvE (some 179),.I 0,.I 5,.I 7]) J)<|S2 1 J<|a7 ?_
 cases h
 exact⟨J,[_],⟨oL J J J Ty.b4B Ty.a35 nl J,tr⟩,J,io⟩

theorem b1t:PO Tryz.prog 95 [] (a4W) λr=>.abs (a2i (List.map (ent iF (Ls g7.Pv)) r)):=by
 refine pO Tryz.func95 λr h _ _=>?_
 refine S4 1 J<|sR<|b4y (KT:=Int) (VT:=List g7) (EK:=iF) (E:=(Ls g7.Pv)) 5000001 J J<|cF h w7 J J λv1 hv1 h=>y0 J (m7 (cs:=[.fn (.func 179) [],.I 0,.I 4,.I 1]) J Ty.b2D Ty.a3t J J J)<|L1 (a2p 3 (d':=.agg [fvE (some 179),.I 0,.I 4,.I 1]) J)<|cF h U7 J J λv2 hv2 h=>y0 J (M3 (f:=g7.Pv) (l:=[v1,(⟨(some 179),0,4,1⟩:g7),v2]) J Ty.b0q Ty.a35 Ty.a3t J J nl J J)<|cF h C5 J J λv3 _ h=>Z4 (es:=[]) (k:=1) (v:=v3) (E:=(Ls g7.Pv)) (EK:=iF) (.inr J) J J J J J J Ty.a4s (z7 Ty.u3)<|yc J (y8 J w7 J hv1)<|cF h I2 J J λv4 hv4 h=>y0 J (M3 (f:=g7.Pv) (l:=[v1,v4]) J Ty.b0q Ty.a35 Ty.a3t J J nl J J)<|cF h C5 J J λv5 hv5 h=>Z4 (es:=(m9 [] 1 v3)) (k:=2) (v:=v5) (E:=(Ls g7.Pv)) (EK:=iF) (.inr J) J J J J J J Ty.a4s (z7 Ty.u3)<|yc J (y8 J w7 J hv1)<|y0 J (M3 (f:=g7.Pv) (l:=[v1]) J Ty.b0q Ty.a35 Ty.a3t J J nl J J)<|cF h C5 J J λv6 _ h=>Z4 (es:=(m9 (m9 [] 1 v3) 2 v5)) (k:=3) (v:=v6) (E:=(Ls g7.Pv)) (EK:=iF) (.inr J) J J J J J J Ty.a4s (z7 Ty.u3)<|yc J (y8 J w7 J hv1)<|yc J (y8 J I2 J hv4)<|cF h a3q J J λv7 _ h=>y0 J (M3 (f:=g7.Pv) (l:=[v1,v4,v7]) J Ty.b0q Ty.a35 Ty.a3t J J nl J J)<|cF h C5 J J λv8 _ h=>Z4 (es:=(m9 (m9 (m9 [] 1 v3) 2 v5) 3 v6)) (k:=4) (v:=v8) (E:=(Ls g7.Pv)) (EK:=iF) (.inr J) J J J J J J Ty.a4s (z7 Ty.u3)<|yc J (y8 J w7 J hv1)<|cF h a3p J J λv9 _ h=>cF h a1p J J λv10 _ h=>y0 J (M3 (f:=g7.Pv) (l:=[v1,v9,v10]) J Ty.b0q Ty.a35 Ty.a3t J J nl J J)<|cF h C5 J J λv11 _ h=>?_
 refine Z4 (es:=(m9 (m9 (m9 (m9 [] 1 v3) 2 v5) 3 v6) 4 v8)) (k:=5) (v:=v11) (E:=(Ls g7.Pv)) (EK:=iF) (.inr J) J J J J J J Ty.a4s (z7 Ty.u3)<|cF h a3X J J λv12 _ h=>cF h P0 J J λv13 hv13 h=>yc J (y8 J U7 J hv2)<|y0 J (M3 (f:=g7.Pv) (l:=[v12,v13,v2]) J Ty.b0q Ty.a35 Ty.a3t J J nl J J)<|cF h C5 J J λv14 _ h=>Z4 (es:=(m9 (m9 (m9 (m9 (m9 [] 1 v3) 2 v5) 3 v6) 4 v8) 5 v11)) (k:=6) (v:=v14) (E:=(Ls g7.Pv)) (EK:=iF) (.inr J) J J J J J J Ty.a4s (z7 Ty.u3)<|yc J (y8 J w7 J hv1)<|cF h a3Y J J λv15 _ h=>y0 J (M3 (f:=g7.Pv) (l:=[v1,v15]) J Ty.b0q Ty.a35 Ty.a3t J J nl J J)<|cF h C5 J J λv16 _ h=>Z4 (es:=(m9 (m9 (m9 (m9 (m9 (m9 [] 1 v3) 2 v5) 3 v6) 4 v8) 5 v11) 6 v14)) (k:=7) (v:=v16) (E:=(Ls g7.Pv)) (EK:=iF) (.inr J) J J J J J J Ty.a4s (z7 Ty.u3)<|yc J (y8 J w7 J hv1)<|yc J (y8 J P0 J hv13)<|y0 J (M3 (f:=g7.Pv) (l:=[v1,v13]) J Ty.b0q Ty.a35 Ty.a3t J J nl J J)<|cF h C5 J J λv17 _ h=>Z4 (es:=(m9 (m9 (m9 (m9 (m9 (m9 (m9 [] 1 v3) 2 v5) 3 v6) 4 v8) 5 v11) 6 v14) 7 v16)) (k:=8) (v:=v17) (E:=(Ls g7.Pv)) (EK:=iF) (.inr J) J J J J J J Ty.a4s (z7 Ty.u3)<|yc J (y8 J w7 J hv1)<|yc J (y8 J I2 J hv4)<|y0 J (M3 (f:=g7.Pv) (l:=[v1,v4]) J Ty.b0q Ty.a35 Ty.a3t J J nl J J)<|yc J (y8 J C5 J hv5)<|Z4 (es:=(m9 (m9 (m9 (m9 (m9 (m9 (m9 (m9 [] 1 v3) 2 v5) 3 v6) 4 v8) 5 v11) 6 v14) 7 v16) 8 v17)) (k:=9) (v:=v5) (E:=(Ls g7.Pv)) (EK:=iF) (.inr J) J J J J J J Ty.a4s (z7 Ty.u3)<|yc J (y8 J w7 J hv1)<|yc J (y8 J I2 J hv4)<|y0 J (M3 (f:=g7.Pv) (l:=[v1,v4]) J Ty.b0q Ty.a35 Ty.a3t J J nl J J)<|yc J (y8 J C5 J hv5)<|Z4 (es:=(m9 (m9 (m9 (m9 (m9 (m9 (m9 (m9 (m9 [] 1 v3) 2 v5) 3 v6) 4 v8) 5 v11) 6 v14) 7 v16) 8 v17) 9 v5)) (k:=10) (v:=v5) (E:=(Ls g7.Pv)) (EK:=iF) (.inr J) J J J J J J Ty.a4s (z7 Ty.u3)<|cF h C5 J J λv18 _ h=>Z4 (es:=(m9 (m9 (m9 (m9 (m9 (m9 (m9 (m9 (m9 (m9 [] 1 v3) 2 v5) 3 v6) 4 v8) 5 v11) 6 v14) 7 v16) 8 v17) 9 v5) 10 v5)) (k:=11) (v:=v18) (E:=(Ls g7.Pv)) (EK:=iF) (.inr J) J J J J J J Ty.a4s (z7 Ty.u3)<|y0 J (m7 (cs:=[.fn (.func 178) [],.I 0,.I 200,.I 12]) J Ty.b2D Ty.a3t J J J) ?_
 refine L1 (a2p 46 (d':=.agg [fvE (some 178),.I 0,.I 200,.I 12]) J)<|y0 J (M3 (f:=g7.Pv) (l:=[(⟨(some 178),0,200,12⟩:g7)]) J Ty.b0q Ty.a35 Ty.a3t J J nl J J)<|cF h C5 J J λv19 _ h=>Z4 (es:=(m9 (m9 (m9 (m9 (m9 (m9 (m9 (m9 (m9 (m9 (m9 [] 1 v3) 2 v5) 3 v6) 4 v8) 5 v11) 6 v14) 7 v16) 8 v17) 9 v5) 10 v5) 11 v18)) (k:=12) (v:=v19) (E:=(Ls g7.Pv)) (EK:=iF) (.inr J) J J J J J J Ty.a4s (z7 Ty.u3)<|S2 2 J<|a2m (c3k 0 5000001 J J)<|a7 ?_
 cases h
 exact f1

theorem a71{a0}:PO Tryz.prog 178 [code_Op.Pv a0] (a8n a0) λr=>.I r:=by
 refine pO Tryz.func178 λr h _ _=>?_
 unfold a8n at h
 refine S4 2 J<|S4 3 J<|a7 ?_
 cases h
 exact f1

theorem a72{a0}:PO Tryz.prog 179 [code_Op.Pv a0] (a8o a0) λr=>.I r:=by
 refine pO Tryz.func179 λr h _ _=>?_
 unfold a8o at h
 refine S4 2 J<|S4 3 J<|a7 ?_
 cases h
 exact f1

theorem a73{a0}:PO Tryz.prog 181 [code_Op.Pv a0] (a8p a0) λr=>.I r:=by
 refine pO Tryz.func181 λr h _ _=>?_
 unfold a8p at h
 refine S4 2 J<|S4 3 J<|a7 ?_
 cases h
 exact f1

theorem b7X{f:Fv}{a0:code_Op}{r:Int}(h:a86 f a0=some r):∃n,f=some n∧y9 Tryz.prog n∧O8 Tryz.prog n [code_Op.Pv a0] (.I r):=by
 unfold a86 at h
 by_cases e178:f=some 178
 ·rw[if_pos e178] at h;exact⟨178,e178,(@a71 a0).1,(@a71 a0).2 _ h⟩
 rw[if_neg e178] at h
 by_cases e179:f=some 179
 ·rw[if_pos e179] at h;exact⟨179,e179,(@a72 a0).1,(@a72 a0).2 _ h⟩
 rw[if_neg e179] at h
 by_cases e181:f=some 181
 ·rw[if_pos e181] at h;exact⟨181,e181,(@a73 a0).1,(@a73 a0).2 _ h⟩
 rw[if_neg e181] at h
 cases h

theorem b3A{a0}:PO Tryz.prog 39 [code_Op.Pv a0] (a2L a0) λr=>.I r:=by
 refine pO Tryz.func39 λr h _ _=>?_
 unfold a2L at h
 refine S4 2 J<|dr [] Ty.mix (by kernel_rfl) (by kernel_rfl)<|s6 h λv1 hv1 h=>d2f J (y8 J b1t J hv1) J<|S7 2 J<|d4 J (c2j (es:=v1) (k:=a0.Kind) (E:=(Ls g7.Pv)) (EK:=iF) (d:=.tup [.L g7.Pv ((y4 v1 a0.Kind).getD ([]:List g7)),.bool ((y4 v1 a0.Kind).isSome)]) J J Ty.a4s (z7 Ty.u3) Ty.d0n J (lk2 _ _ ([]:List g7))) J<|S8 5 J<|g5<|S4 2 J ?_
 refine cN h (λhc h=>?_) λhc h=>?_
 ·refine S4 1 J ?_
  refine a7 ?_
  cases h
  exact f1
 ·refine a8 ?_
  refine jq h (λ_=>St.of [] []) (λq9 h=>?_) λκ8 h=>?_
  ·refine S4 1 J ?_
   refine a7 ?_
   cases h
   exact f1
  ·refine S3 1 J ?_
   refine nL J Ty.b0q<|S2 1 J<|b9<|lq h (λs11=>St.of [(1,.ptr 1 0 0),(17,.L g7.Pv ((y4 v1 a0.Kind).getD ([]:List g7))),(18,.I (((y4 v1 a0.Kind).getD ([]:List g7)).length:Int)),(19,.I s11)] [(1,vR (code_Op.Pv a0) 4)]) W λs11 x12 h hx13=>S4 1 J<|g5 ?_
   refine cN h (λhc h=>?_) λhc h=>?_
   ·refine a8 ?_
    refine g5<|b9<|sR<|iL h J J Ty.b0q Ty.a35 λv13 _ h=>S2 3 J<|S3 3 J ?_
    obtain⟨v14,hv15,h⟩:=a5N h
    obtain⟨n15,he16,hk17,hp18⟩:=b7X hv15
    refine L1 (b9D 24 J he16)<|y0 J (b2B J hk17 J hp18)<|S2 1 J<|S3 5 J<|b8 J (λhg=>mI J)<|b8 J (λhg=>oF J Ty.c6b J)<|b8 J (λhg=>oS (ct hg) J J Ty.a3 J)<|b8 J (λhg=>j8 (ct hg) (ct hg) J)<|y0 J (o0 J J J (λq=>H3 q))<|yN ?_
    refine cN h (λhc h=>?_) λhc h=>?_
    ·refine S4 3 J ?_
     refine a7 ?_
     have h:=xL hx13 h
     cases h
     exact f1
    ·refine a8 ?_
     refine S6 2 J ?_
     exact eL h W
   ·refine k8 ?_
    refine b7<|b7<|g8 ?_
    have h:=xL hx13 h
    exact eJ h W

theorem b0E:PO Tryz.prog 40 [] (a1P) λr=>.abs (a2i (List.map (ent iF fvE) r)):=by
 refine pO Tryz.func40 λr h _ _=>?_
 unfold a1P at h
 refine S4 1 J<|sR<|b4y (KT:=Int) (VT:=Fv) (EK:=iF) (E:=fvE) 5000001 J J<|a38 (es:=[]) (k:=1) (v:=(some 96)) (E:=fvE) (EK:=iF) (.inr J) J J J J J J Ty.b2w (z7 Ty.u3)<|a38 (es:=(m9 [] 1 (some 96))) (k:=2) (v:=(some 97)) (E:=fvE) (EK:=iF) (.inr J) J J J J J J Ty.b2w (z7 Ty.u3)<|a38 (es:=(m9 (m9 [] 1 (some 96)) 2 (some 97))) (k:=3) (v:=(some 98)) (E:=fvE) (EK:=iF) (.inr J) J J J J J J Ty.b2w (z7 Ty.u3)<|a38 (es:=(m9 (m9 (m9 [] 1 (some 96)) 2 (some 97)) 3 (some 98))) (k:=4) (v:=(some 99)) (E:=fvE) (EK:=iF) (.inr J) J J J J J J Ty.b2w (z7 Ty.u3)<|a38 (es:=(m9 (m9 (m9 (m9 [] 1 (some 96)) 2 (some 97)) 3 (some 98)) 4 (some 99))) (k:=5) (v:=(some 100)) (E:=fvE) (EK:=iF) (.inr J) J J J J J J Ty.b2w (z7 Ty.u3)<|a38 (es:=(m9 (m9 (m9 (m9 (m9 [] 1 (some 96)) 2 (some 97)) 3 (some 98)) 4 (some 99)) 5 (some 100))) (k:=6) (v:=(some 101)) (E:=fvE) (EK:=iF) (.inr J) J J J J J J Ty.b2w (z7 Ty.u3)<|a38 (es:=(m9 (m9 (m9 (m9 (m9 (m9 [] 1 (some 96)) 2 (some 97)) 3 (some 98)) 4 (some 99)) 5 (some 100)) 6 (some 101))) (k:=7) (v:=(some 102)) (E:=fvE) (EK:=iF) (.inr J) J J J J J J Ty.b2w (z7 Ty.u3)<|a38 (es:=(m9 (m9 (m9 (m9 (m9 (m9 (m9 [] 1 (some 96)) 2 (some 97)) 3 (some 98)) 4 (some 99)) 5 (some 100)) 6 (some 101)) 7 (some 102))) (k:=8) (v:=(some 103)) (E:=fvE) (EK:=iF) (.inr J) J J J J J J Ty.b2w (z7 Ty.u3)<|a38 (es:=(m9 (m9 (m9 (m9 (m9 (m9 (m9 (m9 [] 1 (some 96)) 2 (some 97)) 3 (some 98)) 4 (some 99)) 5 (some 100)) 6 (some 101)) 7 (some 102)) 8 (some 103))) (k:=9) (v:=(some 104)) (E:=fvE) (EK:=iF) (.inr J) J J J J J J Ty.b2w (z7 Ty.u3)<|a38 (es:=(m9 (m9 (m9 (m9 (m9 (m9 (m9 (m9 (m9 [] 1 (some 96)) 2 (some 97)) 3 (some 98)) 4 (some 99)) 5 (some 100)) 6 (some 101)) 7 (some 102)) 8 (some 103)) 9 (some 104))) (k:=10) (v:=(some 105)) (E:=fvE) (EK:=iF) (.inr J) J J J J J J Ty.b2w (z7 Ty.u3)<|S2 2 J<|a2m (c3k 0 5000001 J J)<|a7 ?_
 cases h
 exact f1

theorem b8F{a0}:PO Tryz.prog 254 [.I a0] (b51 a0) λr=>.tup [.L iF r.1,.I r.2]:=by
 refine pO Tryz.func254 λr h _ _=>?_
 refine S4 2 J<|g5<|S3 3 J<|b8 J (λhg=>mI J)<|b8 J (λhg=>j8 (ct hg) J J)<|y0 J (o0 J J J (λq=>H3 q))<|yN ?_
 refine cN h (λhc h=>?_) λhc h=>?_
 ·refine S4 2 J ?_
  refine a7 ?_
  cases h
  exact f2
 ·refine a8 ?_
  refine S3 1 J<|s6 h λv1 hv1 h=>y1 J (b8c (f:=iF) hv1 J J J Ty.z6 Ty.s3 Ty.z3 Ty.b3 J J J) J<|S2 2 J<|a7 ?_
  cases h
  exact f2

theorem a15{a0}:PO Tryz.prog 255 [.I a0] (G2 a0) λr=>.bool r:=by
 refine pO Tryz.func255 λr h _ _=>?_
 unfold G2 at h
 refine S4 1 J<|S3 3 J<|b8 J (λhg=>mI J)<|b8 J (λhg=>j8 (ct hg) J J)<|y0 J (l7 J J J (λq=>L5 q))<|S2 1 J<|a7 ?_
 cases h
 exact f1

theorem a5E{a0}:PO Tryz.prog 304 [slab_Slab_store_Obj.Pv a0] (K3 a0) λr=>.fn (.func 327) [.rptr (slab_Slab_store_Obj.Pc r)]:=by
 refine pO Tryz.func304 λr h _ _=>?_
 unfold K3 at h
 refine S4 2 J<|S4 2 J<|a7 ?_
 cases h
 exact f1

theorem J0{a0}:PON Tryz.prog 328 [.L slab_Cell_store_Obj.Pv a0] (p9 a0) λr=>⟨List.map slab_Cell_store_Obj.Pv r,0,true,8,true⟩:=by
 refine pON Tryz.func328 λr h _ _=>?_
 unfold p9 at h
 refine S4 1 J<|g5<|S3 1 J<|b6a J Ty.e22 λb hb=>yN ?_
 refine F8 b J (λhc=>?_) (λhc=>?_)
 ·obtain rfl:a0 = []:=by simpa using hb hc
  refine S4 1 J<|a2m (I0 (t:=2) (l:=920000) (z:=8) J J)<|a7 ?_
  cases h
  exact⟨J,_,_,J,J,J,J⟩
 ·refine a8 ?_
  refine sR<|y0 J (F7 J Ty.e22 Ty.a4I)<|S1 1 J<|y1 J (b2A (f:=slab_Cell_store_Obj.Pv) h J J (.inl ⟨_,J,J⟩) Ty.e22 Ty.a4I Ty.c7K Ty.c0K J (λ_=>J)) J<|S2 1 J<|a7 ?_
  exact⟨J,_,_,J,J,J,J⟩

theorem F9{a0 a1 a2}:PO Tryz.prog 305 [slab_Slab_store_Obj.Pv a0,.I a1,slab_Cell_store_Obj.Pv a2] (B3 a0 a1 a2) λr=>slab_Slab_store_Obj.Pv r:=by
 refine pO Tryz.func305 λr h _ _=>?_
 unfold B3 at h
 refine S4 3 J<|S3 2 J<|s6 h λv1 hv1 h=>ycN J (b4l J J0 J hv1) J J<|S2 2 J<|S3 4 J<|s6 h λv2 hv2 h=>y0 J (a2Y (f:=slab_Cell_store_Obj.Pv) hv2 J J J J Ty.e22 Ty.a4I J)<|b0i (f:=slab_Cell_store_Obj.Pv) (v:=a2) hv2 J J (.inr J) Ty.a4I<|yN<|S4 2 J<|a7 ?_
 cases h
 exact⟨J,[_],⟨oL J J J Ty.a24 Ty.s24 nl J,tr⟩,J,io⟩

theorem a2S{a0 a1}:PO Tryz.prog 83 [.I a0,.I a1] (V6 a0 a1) λr=>.I r:=by
 refine pO Tryz.func83 λr h _ _=>?_
 refine S4 1 J<|g5<|S3 3 J<|b8 J (λhg=>mI J)<|b8 J (λhg=>j8 (ct hg) J J)<|y0 J (o0 J J J (λq=>H3 q))<|S1 1 J<|b8 J (λhg=>mI J)<|b8 J (λhg=>j8 (ct hg) J J)<|y0 J (o0 J J J (λq=>H3 q))<|S1 1 J<|b8 J (λhg=>mI J)<|b8 J (λhg=>j8 (ct hg) J J)<|y0 J (o0 J J J (λq=>H3 q))<|yN ?_
 refine cN h (λhc h=>?_) λhc h=>?_
 ·refine S4 1 J ?_
  refine a7 ?_
  cases h
  exact f1
 ·refine a8 ?_
  refine S4 7 J<|a7 ?_
  cases h
  exact f1

theorem a5D{a0 a1}:PO Tryz.prog 256 [slab_Slab_store_Obj.Pv a0,store_Obj.Pv a1] (G3 a0 a1) λr=>.tup [slab_Slab_store_Obj.Pv r.1,.I r.2.1,.I r.2.2]:=by
 refine pO Tryz.func256 λr h _ _=>?_
 refine S4 5 J ?_
 refine jq h (λ_=>St.of [(2,.ptr 2005 0 0),(4,.ptr 2003 0 0),(5,.ptr 2002 0 0),(6,.ptr 2001 0 0)] [(2001,vR (.I 0) 1),(2002,vR (.I 0) 1),(2003,vR (.agg [.nl,.I 0]) 2),(2005,vR (slab_Slab_store_Obj.Pv a0) 2)]) (λq10 h=>?_) λκ9 h=>?_
 ·refine S4 4 J ?_
  refine a7 ?_
  cases h
  exact⟨J,[_,_,_],⟨oL J J J Ty.a24 Ty.s24 nl J,⟨oS J J J Ty.a3 J,⟨oS J J J Ty.a39 J,tr⟩⟩⟩,J,io⟩
 ·refine S3 1 J ?_
  refine cF h a5E J J λv11 _ h=>yN<|b9<|a2m (WPE (λl=>if l=2006 then 6 else if l=2007 then 5 else if l=2008 then 4 else if l=2009 then 3 else if l=2010 then 2 else l) [(2,.ptr 2010 0 0),(3,.ptr 2009 0 0),(4,.ptr 2008 0 0),(5,.ptr 2007 0 0),(6,.ptr 2006 0 0),(10,.fn (.func 327) [.rptr (slab_Slab_store_Obj.Pc v11)])] [(2006,vR (.I 0) 1),(2007,vR (.I 0) 1),(2008,vR (.agg [.nl,.I 0]) 2),(2009,vR (store_Obj.Pv a1) 6),(2010,vR (slab_Slab_store_Obj.Pv a0) 2)]) ?_
  refine a0b (fn:=Tryz.f327) (N1:=23) J Tryz.func327 J J nl J Ty.c9W J J (λl19 e20 o21 hR22=>?_)
  refine S3 2 J<|nL J Ty.e22<|S2 1 J<|b9<|lq h (λs13=>St.of [(1000002,.ptr 2010 0 0),(1000003,.ptr 2009 0 0),(1000004,.ptr 2008 0 0),(1000005,.ptr 2007 0 0),(1000006,.ptr 2006 0 0),(1000010,.fn (.func 327) [.rptr (slab_Slab_store_Obj.Pc v11)]),(0,.fn (.yield l19) []),(6,.L slab_Cell_store_Obj.Pv v11.Cells),(7,.I (v11.Cells.length:Int)),(8,.I s13)] [(2006,vR (.I 0) 1),(2007,vR (.I 0) 1),(2008,vR (.agg [.nl,.I 0]) 2),(2009,vR (store_Obj.Pv a1) 6),(2010,vR (slab_Slab_store_Obj.Pv a0) 2)]) W λs13 x14 h hx25=>S4 1 J<|g5 ?_
  refine cN h (λhc h=>?_) λhc h=>?_
  ·refine a8 ?_
   refine g5<|b9<|S3 1 J<|iL h J J Ty.e22 Ty.a4I λv15 _ h=>S2 4 J<|S3 4 J<|b8 J (λhg=>om (d:=.fn (.yield l19) []) J)<|b8 J (λhg=>mI J) ?_
   rcases Bool.eq_false_or_eq_true ((v15.State==0)==true) with hg27 | hg27
   ·have h:=ifT h hg27
    refine L1 (WE [(1000002,.ptr 2010 0 0),(1000003,.ptr 2009 0 0),(1000004,.ptr 2008 0 0),(1000005,.ptr 2007 0 0),(1000006,.ptr 2006 0 0),(1000010,.fn (.func 327) [.rptr (slab_Slab_store_Obj.Pc v11)]),(0,.fn (.yield l19) []),(6,.L slab_Cell_store_Obj.Pv v11.Cells),(7,.I (v11.Cells.length:Int)),(8,.I s13),(16,.bool (v15.State==0)),(17,.fn (.yield l19) []),(18,.I s13)] [(2006,vR (.I 0) 1),(2007,vR (.I 0) 1),(2008,vR (.agg [.nl,.I 0]) 2),(2009,vR (store_Obj.Pv a1) 6),(2010,vR (slab_Slab_store_Obj.Pv a0) 2)]) ?_
    refine a3T hR22 (congrArg some hg27) J J J J J (λe28 o29 o30=>?_)
    refine S6 1 J ?_
    refine⟨J,?_⟩
    refine b9<|S3 3 J<|iL h J J Ty.e22 Ty.a4I λv16 _ h=>S2 3 J<|S3 4 J<|y0 J (m7 (cs:=[.I 1,.I v16.Gen,.I a1.Serial,.I a1.Strong,.I a1.Weak,.I a1.Prog,.bool a1.Started,.L iF a1.Fields]) J Ty.c4t Ty.c0K J J J)<|cF h F9 J J λv17 _ h=>S1 2 J<|cA h a2S J J λv18 _ h=>S2 3 J<|a7 ?_
    refine⟨J,?_⟩
    refine L1 (WE [(1000002,.ptr 2010 0 0),(1000003,.ptr 2009 0 0),(1000004,.ptr 2008 0 0),(1000005,.ptr 2007 0 0),(1000006,.ptr 2006 0 0),(1000010,.fn (.func 327) [.rptr (slab_Slab_store_Obj.Pc v11)]),(0,.fn (.yield l19) []),(6,.L slab_Cell_store_Obj.Pv v11.Cells),(7,.I (v11.Cells.length:Int)),(8,.I s13),(16,.bool (v15.State==0)),(19,.bool false)] [(2006,vR (.I 0) 1),(2007,vR (.I v18) 1),(2008,vR (slab_Slab_store_Obj.Pv v17) 2),(2009,vR (store_Obj.Pv a1) 6),(2010,vR (slab_Slab_store_Obj.Pv a0) 2)])<|y0 (congrArg some hg27) (a0C J J)<|y0 J (a7j J J hg27)<|yN ?_
    refine F8 true J (λ_=>?_) (λq=>nomatch q)
    refine a7 ?_
    refine .inr ⟨.ret,J,c3W ?_⟩
    have h:=xL hx25 h
    cases h
    exact⟨J,[_,_,_],⟨oL J J J Ty.a24 Ty.s24 nl J,⟨oS J J J Ty.a3 J,⟨oS J J J Ty.a39 J,tr⟩⟩⟩,J,io⟩
   ·have h:=ifF h hg27
    refine a1f (congrArg some hg27)<|a1f (congrArg some hg27)<|y0 J (a7i J J hg27)<|yN ?_
    refine F8 false J (λq=>nomatch q) (λ_=>?_)
    refine a8<|S6 2 J ?_
    exact eL h W
  ·refine k8 ?_
   refine b7<|b7<|g8 ?_
   refine .inl ⟨J,?_⟩
   have h:=xL hx25 h
   exact eJ h (WP (λl=>if l=2005 then 2010 else if l=2003 then 2008 else if l=2002 then 2007 else if l=2001 then 2006 else l))

theorem b3V{a0 a1 a2}:PO Tryz.prog 185 [store_Store.Pv a0,.I a1,.I a2] (N8 a0 a1 a2) λr=>.tup [store_Store.Pv r.1,.I r.2.1,.I r.2.2]:=by
 refine pO Tryz.func185 λr h _ _=>?_
 refine S4 4 J<|S3 1 J<|cF h b8F J J λv1 _ h=>S2 5 J<|g5<|S4 2 J ?_
 refine cN h (λhc h=>?_) λhc h=>?_
 ·refine S4 5 J ?_
  refine a7 ?_
  cases h
  exact⟨J,[_,_,_],⟨oL J J J Ty.a26 Ty.s26 nl J,⟨J,⟨J,tr⟩⟩⟩,J,io⟩
 ·refine a8 ?_
  refine g5<|S3 1 J<|cA h a15 J J λv2 _ h=>S2 1 J ?_
  refine cN h (λhc h=>?_) λhc h=>?_
  ·refine S4 4 J ?_
   refine a7 ?_
   cases h
   exact⟨J,[_,_,_],⟨oL J J J Ty.a26 Ty.s26 nl J,⟨J,⟨J,tr⟩⟩⟩,J,io⟩
  ·refine a8 ?_
   refine S3 7 J<|y0 J (m7 (cs:=[.I (s7 (a0.Serial+1)),.I 0,.I 0,.I a2,.bool false,.L iF v1.1]) J Ty.c90 Ty.d0l J J J)<|cF h a5D J J λv3 _ h=>S2 8 J<|g5<|S4 2 J ?_
   refine cN h (λhc h=>?_) λhc h=>?_
   ·refine S4 5 J ?_
    refine a7 ?_
    cases h
    exact⟨J,[_,_,_],⟨oL J J J Ty.a26 Ty.s26 nl J,⟨J,⟨J,tr⟩⟩⟩,J,io⟩
   ·refine a8 ?_
    refine S3 4 J<|y0 J (m7 (cs:=[.L slab_Cell_store_Obj.Pv v3.1.Cells,.I v3.1.Last,.I (s7 (a0.Serial+1))]) J Ty.p26 Ty.z26 J J J)<|S2 4 J<|a7 ?_
    cases h
    exact⟨J,[_,_,_],⟨oL J J J Ty.a26 Ty.s26 nl J,⟨J,⟨J,tr⟩⟩⟩,J,io⟩

theorem a5S{a0}:PO Tryz.prog 300 [.I a0] (a0Q a0) λr=>.tup [.I r.1,.I r.2.1,.bool r.2.2]:=by
 refine pO Tryz.func300 λr h _ _=>?_
 refine S4 3 J<|g5<|S4 2 J ?_
 refine cN h (λhc h=>?_) λhc h=>?_
 ·refine S4 3 J ?_
  refine a7 ?_
  cases h
  exact f3
 ·refine a8 ?_
  refine S3 2 J<|s6 h λv1 hv1 h=>y0 J (a4t J J hv1)<|s6 h λv2 hv2 h=>y0 J (a4t J J hv2)<|S1 2 J<|s6 h λv3 hv3 h=>y0 J (a4t J J hv3)<|S2 2 J<|g5<|S3 3 J<|b8 J (λhg=>mI J)<|b8 J (λhg=>j8 (ct hg) J J)<|y0 J (o0 J J J (λq=>H3 q))<|yN ?_
  refine cN h (λhc h=>?_) λhc h=>?_
  ·refine S4 3 J ?_
   refine a7 ?_
   cases h
   exact f3
  ·refine a8 ?_
   refine S4 5 J<|a7 ?_
   cases h
   exact f3

theorem a6p{a0}:PO Tryz.prog 246 [.I a0] (a1U a0) λr=>.I r:=by
 refine pO Tryz.func246 λr h _ _=>?_
 refine S4 1 J<|S3 1 J<|cA h a5S J J λv1 _ h=>S2 7 J<|S4 2 J<|a7 ?_
 cases h
 exact f1

theorem a8a{a0}:PO Tryz.prog 247 [.I a0] (a2Q a0) λr=>.I r:=by
 refine pO Tryz.func247 λr h _ _=>?_
 refine S4 1 J<|S3 1 J<|cA h a5S J J λv1 _ h=>S2 7 J<|S4 2 J<|a7 ?_
 cases h
 exact f1

theorem D9{a0 a1}:PO Tryz.prog 168 [slab_Slab_store_Obj.Pv a0,.I a1] (o9 a0 a1) λr=>.tup [.I r.1,.I r.2]:=by
 refine pO Tryz.func168 λr h _ _=>?_
 refine S4 3 J<|g5<|S4 2 J ?_
 refine cN h (λhc h=>?_) λhc h=>?_
 ·refine S4 2 J ?_
  refine a7 ?_
  cases h
  exact f2
 ·refine a8 ?_
  refine S3 1 J<|cA h a6p J J λv1 _ h=>S2 1 J<|g5<|S3 3 J<|b8 J (λhg=>mI J)<|b8 J (λhg=>oF J Ty.c7S J)<|b8 J (λhg=>oS (ct hg) J J Ty.a22 J)<|b8 J (λhg=>M0 (f:=slab_Cell_store_Obj.Pv) (ct hg) Ty.e22)<|b8 J (λhg=>j8 (ct hg) (ct hg) J)<|y0 J (o0 J J J (λq=>H3 q))<|yN ?_
  refine cN h (λhc h=>?_) λhc h=>?_
  ·refine S4 2 J ?_
   refine a7 ?_
   cases h
   exact f2
  ·refine a8 ?_
   refine S3 3 J<|iL h J J Ty.e22 Ty.a4I λv2 _ h=>S2 3 J<|g5<|dr [] Ty.mix (by kernel_rfl) (by kernel_rfl)<|S7 3 J<|s6 h λv3 hv3 h=>d2 J (D3 J a8a J hv3) J<|S7 2 J<|r9 J (λhg _ hN=>oF J Ty.b2d J) J<|D0 J (λhg=>oS (ct hg) J J Ty.a3 J) J<|r9 J (λhg _ hN=>j8 (ct hg) J J) J<|r9 J (λhg _ hN=>om (d:=.bool (v2.State != 1)) (ct hg)) J<|r9 (m8 J J J) (λhg _ hN=>oF J Ty.b2d J) J<|D0 (m8 J J J) (λhg=>oS (ct hg) J J Ty.a3 J) J<|r9 (m8 J J J) (λhg _ hN=>j8 (ct hg) J J) J<|r9 J (λhg _ hN=>l7 (ct hg) J J (λq=>a1g hg (L5 q))) J<|d7 J (λ_ hN=>o0 J J J (λq=>H3 q)) J<|a0M ?_
   refine cN h (λhc h=>?_) λhc h=>?_
   ·refine S4 2 J ?_
    refine a7 ?_
    cases h
    exact f2
   ·refine a8 ?_
    refine S4 3 J<|a7 ?_
    cases h
    exact f2

theorem a1o{a0 a1}:PO Tryz.prog 132 [slab_Slab_store_Obj.Pv a0,.I a1] (C2 a0 a1) λr=>.tup [store_Obj.Pv r.1,.I r.2]:=by
 refine pO Tryz.func132 λr h _ _=>?_
 refine S4 3 J<|S4 1 J<|S3 2 J<|cA h D9 J J λv1 _ h=>S2 5 J<|g5<|S4 2 J ?_
 refine cN h (λhc h=>?_) λhc h=>?_
 ·refine S3 2 J ?_
  refine b0j (x':=.agg [.I 0,.I 0,.I 0,.I 0,.bool false,.nl]) (cl':=true) J J (.inl J) Ty.b7g<|S2 1 J<|a7 ?_
  cases h
  exact⟨J,[_,_],⟨oL J J J Ty.c0Q Ty.b7g nl J,⟨J,tr⟩⟩,J,io⟩
 ·refine a8 ?_
  refine g5<|S3 3 J<|iL h J J Ty.e22 Ty.a4I λv2 hv2 h=>S2 3 J ?_
  refine cN h (λhc h=>?_) λhc h=>?_
  ·refine S3 1 J ?_
   refine b0j (x':=.agg [.I 0,.I 0,.I 0,.I 0,.bool false,.nl]) (cl':=true) J J (.inl J) Ty.b7g<|S2 1 J<|a7 ?_
   cases h
   exact⟨J,[_,_],⟨oL J J J Ty.c0Q Ty.b7g nl J,⟨J,tr⟩⟩,J,io⟩
  ·refine a8 ?_
   refine S3 3 J<|y0 J (A3 (f:=slab_Cell_store_Obj.Pv) (cs:=slab_Cell_store_Obj.Pc v2) hv2 J J Ty.e22 Ty.a4I J J)<|S2 4 J<|a7 ?_
   cases h
   exact⟨J,[_,_],⟨oL J J J Ty.c0Q Ty.b7g nl J,⟨J,tr⟩⟩,J,io⟩

theorem A6{a0 a1}:PO Tryz.prog 58 [store_Store.Pv a0,.I a1] (p8 a0 a1) λr=>.tup [store_Obj.Pv r.1,.I r.2]:=by
 refine pO Tryz.func58 λr h _ _=>?_
 refine S4 3 J<|S3 3 J<|cF h a1o J J λv1 _ h=>S2 4 J<|a7 ?_
 cases h
 exact⟨J,[_,_],⟨oL J J J Ty.c0Q Ty.b7g nl J,⟨J,tr⟩⟩,J,io⟩

theorem a0T{a0 a1}:PO Tryz.prog 162 [hold_Heap.Pv a0,.I a1] (V9 a0 a1) λr=>.bool r:=by
 refine pO Tryz.func162 λr h _ _=>?_
 refine S4 2 J<|S3 3 J<|cF h A6 J J λv1 _ h=>S2 6 J<|S4 3 J<|a7 ?_
 cases h
 exact f1

theorem L2{a0 a1}:PO Tryz.prog 158 [hold_Heap.Pv a0,.I a1] (F0 a0 a1) λr=>.bool r:=by
 refine pO Tryz.func158 λr h _ _=>?_
 unfold F0 at h
 refine S4 2 J<|S3 3 J<|b8 J (λhg=>oL J J J Ty.U6 Ty.O0 nl J)<|b8 J (λhg=>mI J)<|s6 h λv1 hv1 h=>b8 J (λhg=>D3 J a0T (A1 (ct hg) (A1 (ct hg) J)) (D2 hv1 hg))<|y0 J (o0 J J J (λq=>H3 q))<|S2 1 J<|a7 ?_
 cases h
 exact f1

theorem V3{a0}:PO Tryz.prog 250 [.I a0] (E1 a0) λr=>.bool r:=by
 refine pO Tryz.func250 λr h _ _=>?_
 unfold E1 at h
 refine S4 1 J<|S4 3 J<|a7 ?_
 cases h
 exact f1

end Go.Proofs.YtfihndcobnkiaaaGreat.Ok
