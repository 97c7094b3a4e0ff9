/-
 The functions of the program do as the plain functions do.
-/
import Derived.Test.YtlkcpapbolbjnaaGreatO19aPwC
import Derived.Test.YtlkcpapbolbjnaaGreatO19aPwD
import Derived.Test.YtlkcpapbolbjnaaGreatSrt
import Derived.Test.YtlkcpapbolbjnaaGreatO19aSh
import Derived.Test.YtlkcpapbolbjnaaGreatProg
set_option linter.unusedVariables false
set_option linter.unusedSimpArgs false
set_option linter.unusedSectionVars false
namespace Go.Proofs.YtlkcpapbolbjnaaGreat.Ok
open Go Go.Pw Go.Sh Go.Proofs
set_option maxRecDepth 100000
set_option maxHeartbeats 4000000
abbrev _root_.Go.Sh.store_Obj.Pc(x:store_Obj):List PV:=[.I x.Serial,.I x.Strong,.I x.Weak,.I x.Prog,.bool x.Started,.L iF x.Fields]
abbrev _root_.Go.Sh.store_Obj.Pv(x:store_Obj):PV:=.agg x.Pc
abbrev _root_.Go.Sh.slab_Cell_store_Obj.Pc(x:slab_Cell_store_Obj):List PV:=[.I x.State,.I x.Gen,.I x.Val.Serial,.I x.Val.Strong,.I x.Val.Weak,.I x.Val.Prog,.bool x.Val.Started,.L iF x.Val.Fields]
abbrev _root_.Go.Sh.slab_Cell_store_Obj.Pv(x:slab_Cell_store_Obj):PV:=.agg x.Pc
abbrev _root_.Go.Sh.slab_Slab_store_Obj.Pc(x:slab_Slab_store_Obj):List PV:=[.L slab_Cell_store_Obj.Pv x.Cells,.I x.Last]
abbrev _root_.Go.Sh.slab_Slab_store_Obj.Pv(x:slab_Slab_store_Obj):PV:=.agg x.Pc
abbrev _root_.Go.Sh.store_Store.Pc(x:store_Store):List PV:=[.L slab_Cell_store_Obj.Pv x.S.Cells,.I x.S.Last,.I x.Serial]
abbrev _root_.Go.Sh.store_Store.Pv(x:store_Store):PV:=.agg x.Pc
abbrev _root_.Go.Sh.weak_Cell.Pc(x:weak_Cell):List PV:=[.I x.Target,.bool x.Intact,.I x.Call]
abbrev _root_.Go.Sh.weak_Cell.Pv(x:weak_Cell):PV:=.agg x.Pc
abbrev _root_.Go.Sh.hash_Place.Pc(x:hash_Place):List PV:=[.I x.State,.I x.Key,.I x.Val]
abbrev _root_.Go.Sh.hash_Place.Pv(x:hash_Place):PV:=.agg x.Pc
abbrev _root_.Go.Sh.task_Task.Pc(x:task_Task):List PV:=[.I x.Kind,.I x.At,.I x.Prog]
abbrev _root_.Go.Sh.task_Task.Pv(x:task_Task):PV:=.agg x.Pc
abbrev _root_.Go.Sh.queue_Queue_task_Task.Pc(x:queue_Queue_task_Task):List PV:=[.L task_Task.Pv x.L,.I x.Cap]
abbrev _root_.Go.Sh.queue_Queue_task_Task.Pv(x:queue_Queue_task_Task):PV:=.agg x.Pc
abbrev _root_.Go.Sh.hold_Heap.Pc(x:hold_Heap):List PV:=[.L slab_Cell_store_Obj.Pv x.S.S.Cells,.I x.S.S.Last,.I x.S.Serial,.L iF x.Roots,.L weak_Cell.Pv x.Cells,.L hash_Place.Pv x.T,.L task_Task.Pv x.Q.L,.I x.Q.Cap]
abbrev _root_.Go.Sh.hold_Heap.Pv(x:hold_Heap):PV:=.agg x.Pc
abbrev _root_.Go.Sh.z8.Pc(x:z8):List PV:=[.I x.Serial,.I x.Strong,.I x.Weak,.I x.Prog,.bool x.Started,.L iF x.Fields]
abbrev _root_.Go.Sh.z8.Pv(x:z8):PV:=.agg x.Pc
abbrev _root_.Go.Sh.j6.Pc(x:j6):List PV:=[.I x.State,.I x.Gen,.I x.Val.Serial,.I x.Val.Strong,.I x.Val.Weak,.I x.Val.Prog,.bool x.Val.Started,.L iF x.Val.Fields]
abbrev _root_.Go.Sh.j6.Pv(x:j6):PV:=.agg x.Pc
abbrev _root_.Go.Sh.k9.Pc(x:k9):List PV:=[.I x.Target,.bool x.Intact,.I x.Call]
abbrev _root_.Go.Sh.k9.Pv(x:k9):PV:=.agg x.Pc
abbrev _root_.Go.Sh.c7.Pc(x:c7):List PV:=[.I x.State,.I x.Key,.I x.Val]
abbrev _root_.Go.Sh.c7.Pv(x:c7):PV:=.agg x.Pc
abbrev _root_.Go.Sh.m9.Pc(x:m9):List PV:=[.I x.Kind,.I x.At,.I x.Prog]
abbrev _root_.Go.Sh.m9.Pv(x:m9):PV:=.agg x.Pc
abbrev _root_.Go.Sh.c9.Pc(x:c9):List PV:=[.L j6.Pv x.Cells,.I x.Last,.I x.Serial]
abbrev _root_.Go.Sh.c9.Pv(x:c9):PV:=.agg x.Pc
abbrev _root_.Go.Sh.r7.Pc(x:r7):List PV:=[.L m9.Pv x.L,.I x.Cap]
abbrev _root_.Go.Sh.r7.Pv(x:r7):PV:=.agg x.Pc
abbrev _root_.Go.Sh.c5.Pc(x:c5):List PV:=[.L j6.Pv x.S.Cells,.I x.S.Last,.I x.S.Serial,.L iF x.Roots,.L k9.Pv x.Cells,.L c7.Pv x.T,.L m9.Pv x.Q.L,.I x.Q.Cap]
abbrev _root_.Go.Sh.c5.Pv(x:c5):PV:=.agg x.Pc
abbrev _root_.Go.Sh.r8.Pc(x:r8):List PV:=[.I x.State,.I x.Gen,.I x.Val]
abbrev _root_.Go.Sh.r8.Pv(x:r8):PV:=.agg x.Pc
abbrev _root_.Go.Sh.z7.Pc(x:z7):List PV:=[.L r8.Pv x.Cells,.I x.Last]
abbrev _root_.Go.Sh.z7.Pv(x:z7):PV:=.agg x.Pc
abbrev _root_.Go.Sh.u5.Pc(x:u5):List PV:=[.I x.Key,.I x.Val]
abbrev _root_.Go.Sh.u5.Pv(x:u5):PV:=.agg x.Pc
abbrev _root_.Go.Sh.o0.Pc(x:o0):List PV:=[.I x.Kind,.I x.A,.I x.B,.I x.C]
abbrev _root_.Go.Sh.o0.Pv(x:o0):PV:=.agg x.Pc
abbrev _root_.Go.Sh.g6.Pc(x:g6):List PV:=[fvE x.part,.I x.least,.I x.most,.I x.e]
abbrev _root_.Go.Sh.g6.Pv(x:g6):PV:=.agg x.Pc
abbrev _root_.Go.Sh.o9.Pc(x:o9):List PV:=[.L slab_Cell_store_Obj.Pv x.x.S.S.Cells,.I x.x.S.S.Last,.I x.x.S.Serial,.L iF x.x.Roots,.L weak_Cell.Pv x.x.Cells,.L hash_Place.Pv x.x.T,.L task_Task.Pv x.x.Q.L,.I x.x.Q.Cap,.I x.o.Kind,.I x.o.A,.I x.o.B,.I x.o.C]
abbrev _root_.Go.Sh.o9.Pv(x:o9):PV:=.agg x.Pc
abbrev _root_.Go.Sh.F8.Pc(x:F8):List PV:=[.I x.r,.I x.h]
abbrev _root_.Go.Sh.F8.Pv(x:F8):PV:=.agg x.Pc
abbrev _root_.Go.Sh.E4.Pc(x:E4):List PV:=[.I x.h,.I x.k,.I x.v]
abbrev _root_.Go.Sh.E4.Pv(x:E4):PV:=.agg x.Pc
abbrev _root_.Go.Sh.F7.Pc(x:F7):List PV:=[.L hash_Place.Pv x.t]
abbrev _root_.Go.Sh.F7.Pv(x:F7):PV:=.agg x.Pc
abbrev _root_.Go.Sh.j5.Pc(x:j5):List PV:=[.I x.Key,.I x.Val]
abbrev _root_.Go.Sh.j5.Pv(x:j5):PV:=.agg x.Pc
abbrev _root_.Go.Sh.g5.Pc(x:g5):List PV:=[.L iF x.L,.I x.Cap]
abbrev _root_.Go.Sh.g5.Pv(x:g5):PV:=.agg x.Pc
abbrev _root_.Go.Sh.A7.Pc(x:A7):List PV:=[fvE x.kept]
abbrev _root_.Go.Sh.A7.Pv(x:A7):PV:=.agg x.Pc
namespace Ty
theorem a3:G4 Tryz.prog 3=some false:=by kernel_rfl
theorem a4:G4 Tryz.prog 4=some false:=by kernel_rfl
theorem a22:G4 Tryz.prog 22=some false:=by kernel_rfl
theorem a24:G4 Tryz.prog 24=some true:=by kernel_rfl
theorem a26:G4 Tryz.prog 26=some true:=by kernel_rfl
theorem a27:G4 Tryz.prog 27=some false:=by kernel_rfl
theorem a28:G4 Tryz.prog 28=some false:=by kernel_rfl
theorem a29:G4 Tryz.prog 29=some false:=by kernel_rfl
theorem a30:G4 Tryz.prog 30=some false:=by kernel_rfl
theorem a32:G4 Tryz.prog 32=some true:=by kernel_rfl
theorem O2:G4 Tryz.prog 34=some true:=by kernel_rfl
theorem a37:G4 Tryz.prog 37=some false:=by kernel_rfl
theorem a39:G4 Tryz.prog 39=some true:=by kernel_rfl
theorem a40:G4 Tryz.prog 40=some false:=by kernel_rfl
theorem a41:G4 Tryz.prog 41=some false:=by kernel_rfl
theorem a42:G4 Tryz.prog 42=some false:=by kernel_rfl
theorem a44:G4 Tryz.prog 44=some true:=by kernel_rfl
theorem a46:G4 Tryz.prog 46=some true:=by kernel_rfl
theorem a62:G4 Tryz.prog 62=some true:=by kernel_rfl
theorem a63:G4 Tryz.prog 63=some false:=by kernel_rfl
theorem a79:G4 Tryz.prog 79=some true:=by kernel_rfl
theorem c1F:G4 Tryz.prog 114=some true:=by kernel_rfl
theorem c9l:G4 Tryz.prog 135=some true:=by kernel_rfl
theorem c9m:G4 Tryz.prog 140=some false:=by kernel_rfl
theorem b8k:G4 Tryz.prog 142=some true:=by kernel_rfl
theorem c70:G4 Tryz.prog 254=some false:=by kernel_rfl
theorem b5m:G4 Tryz.prog 279=some true:=by kernel_rfl
theorem c0y:G4 Tryz.prog 365=some true:=by kernel_rfl
theorem c9n:G4 Tryz.prog 394=some true:=by kernel_rfl
theorem b3:G6 Tryz.prog 3=some 8:=by kernel_rfl
theorem b68:G6 Tryz.prog 68=some 24:=by kernel_rfl
theorem b79:G6 Tryz.prog 79=some 24:=by kernel_rfl
theorem b85:G6 Tryz.prog 85=some 24:=by kernel_rfl
theorem c74:G6 Tryz.prog 129=some 80:=by kernel_rfl
theorem c6l:G6 Tryz.prog 132=some 80:=by kernel_rfl
theorem c75:G6 Tryz.prog 134=some 24:=by kernel_rfl
theorem c76:G6 Tryz.prog 135=some 24:=by kernel_rfl
theorem c77:G6 Tryz.prog 170=some 24:=by kernel_rfl
theorem c9q:G6 Tryz.prog 199=some 16:=by kernel_rfl
theorem c78:G6 Tryz.prog 206=some 24:=by kernel_rfl
theorem c79:G6 Tryz.prog 235=some 16:=by kernel_rfl
theorem e22:y6 Tryz.prog 22=some 129:=by kernel_rfl
theorem p8:y6 Tryz.prog 27=some 3:=by kernel_rfl
theorem e28:y6 Tryz.prog 28=some 68:=by kernel_rfl
theorem e29:y6 Tryz.prog 29=some 135:=by kernel_rfl
theorem e30:y6 Tryz.prog 30=some 79:=by kernel_rfl
theorem e37:y6 Tryz.prog 37=some 132:=by kernel_rfl
theorem e40:y6 Tryz.prog 40=some 170:=by kernel_rfl
theorem e41:y6 Tryz.prog 41=some 134:=by kernel_rfl
theorem e42:y6 Tryz.prog 42=some 85:=by kernel_rfl
theorem e74:y6 Tryz.prog 74=some 73:=by kernel_rfl
theorem a6x:y6 Tryz.prog 140=some 206:=by kernel_rfl
theorem c6q:y6 Tryz.prog 168=some 35:=by kernel_rfl
theorem b0G:y6 Tryz.prog 196=some 199:=by kernel_rfl
theorem b5x:y6 Tryz.prog 236=some 235:=by kernel_rfl
theorem b0H:y6 Tryz.prog 273=some 279:=by kernel_rfl
theorem c6r:y6 Tryz.prog 304=some 308:=by kernel_rfl
theorem c8c:C7 Tryz.prog 24 0=some (0,22):=by kernel_rfl
theorem c2c:C7 Tryz.prog 24 1=some (1,3):=by kernel_rfl
theorem c2d:C7 Tryz.prog 26 0=some (0,24):=by kernel_rfl
theorem c2e:C7 Tryz.prog 26 1=some (2,3):=by kernel_rfl
theorem b9A:C7 Tryz.prog 32 0=some (0,30):=by kernel_rfl
theorem c8d:C7 Tryz.prog 32 1=some (1,3):=by kernel_rfl
theorem c8e:C7 Tryz.prog 34 0=some (0,26):=by kernel_rfl
theorem b9B:C7 Tryz.prog 34 1=some (3,27):=by kernel_rfl
theorem b1m:C7 Tryz.prog 34 2=some (4,28):=by kernel_rfl
theorem c5G:C7 Tryz.prog 34 3=some (5,29):=by kernel_rfl
theorem b4B:C7 Tryz.prog 34 4=some (6,32):=by kernel_rfl
theorem a9l:C7 Tryz.prog 39 0=some (0,37):=by kernel_rfl
theorem b9C:C7 Tryz.prog 39 2=some (2,3):=by kernel_rfl
theorem b6R:C7 Tryz.prog 44 0=some (0,42):=by kernel_rfl
theorem c8f:C7 Tryz.prog 46 0=some (0,39):=by kernel_rfl
theorem c2f:C7 Tryz.prog 46 1=some (3,27):=by kernel_rfl
theorem c2g:C7 Tryz.prog 46 2=some (4,40):=by kernel_rfl
theorem b9D:C7 Tryz.prog 46 3=some (5,41):=by kernel_rfl
theorem b6S:C7 Tryz.prog 46 4=some (6,44):=by kernel_rfl
theorem b2C:C7 Tryz.prog 62 0=some (0,3):=by kernel_rfl
theorem b6T:C7 Tryz.prog 62 1=some (1,3):=by kernel_rfl
theorem b6U:C7 Tryz.prog 62 2=some (2,3):=by kernel_rfl
theorem b4C:C7 Tryz.prog 62 3=some (3,3):=by kernel_rfl
theorem b4D:C7 Tryz.prog 62 4=some (4,4):=by kernel_rfl
theorem b2D:C7 Tryz.prog 62 5=some (5,27):=by kernel_rfl
theorem b9E:C7 Tryz.prog 68 0=some (0,3):=by kernel_rfl
theorem b9F:C7 Tryz.prog 68 1=some (1,4):=by kernel_rfl
theorem c8g:C7 Tryz.prog 68 2=some (2,3):=by kernel_rfl
theorem c5H:C7 Tryz.prog 79 1=some (1,3):=by kernel_rfl
theorem c5I:C7 Tryz.prog 79 2=some (2,3):=by kernel_rfl
theorem c5J:C7 Tryz.prog 85 0=some (0,3):=by kernel_rfl
theorem b6V:C7 Tryz.prog 85 1=some (1,3):=by kernel_rfl
theorem c5K:C7 Tryz.prog 85 2=some (2,3):=by kernel_rfl
theorem c14:C7 Tryz.prog 114 0=some (0,3):=by kernel_rfl
theorem b8t:C7 Tryz.prog 114 1=some (1,3):=by kernel_rfl
theorem b8u:C7 Tryz.prog 114 2=some (2,3):=by kernel_rfl
theorem c6t:C7 Tryz.prog 114 3=some (3,3):=by kernel_rfl
theorem b5A:C7 Tryz.prog 114 4=some (4,4):=by kernel_rfl
theorem b8v:C7 Tryz.prog 114 5=some (5,27):=by kernel_rfl
theorem b2B:C7 Tryz.prog 129 0=some (0,3):=by kernel_rfl
theorem c6u:C7 Tryz.prog 129 1=some (1,3):=by kernel_rfl
theorem b5B:C7 Tryz.prog 129 2=some (2,114):=by kernel_rfl
theorem b8w:C7 Tryz.prog 132 0=some (0,3):=by kernel_rfl
theorem c15:C7 Tryz.prog 132 1=some (1,3):=by kernel_rfl
theorem a6C:C7 Tryz.prog 132 2=some (2,62):=by kernel_rfl
theorem c16:C7 Tryz.prog 134 0=some (0,3):=by kernel_rfl
theorem c17:C7 Tryz.prog 134 1=some (1,3):=by kernel_rfl
theorem c6v:C7 Tryz.prog 134 2=some (2,3):=by kernel_rfl
theorem c6w:C7 Tryz.prog 135 0=some (0,3):=by kernel_rfl
theorem c18:C7 Tryz.prog 135 1=some (1,3):=by kernel_rfl
theorem c6x:C7 Tryz.prog 142 0=some (0,140):=by kernel_rfl
theorem b8x:C7 Tryz.prog 142 1=some (1,3):=by kernel_rfl
theorem b5C:C7 Tryz.prog 170 0=some (0,3):=by kernel_rfl
theorem c19:C7 Tryz.prog 170 1=some (1,4):=by kernel_rfl
theorem c6y:C7 Tryz.prog 170 2=some (2,3):=by kernel_rfl
theorem c6z:C7 Tryz.prog 199 0=some (0,3):=by kernel_rfl
theorem c2a:C7 Tryz.prog 199 1=some (1,3):=by kernel_rfl
theorem b8y:C7 Tryz.prog 206 0=some (0,3):=by kernel_rfl
theorem c2b:C7 Tryz.prog 206 1=some (1,3):=by kernel_rfl
theorem c6A:C7 Tryz.prog 235 0=some (0,3):=by kernel_rfl
theorem b8z:C7 Tryz.prog 235 1=some (1,3):=by kernel_rfl
theorem c6B:C7 Tryz.prog 279 2=some (2,3):=by kernel_rfl
theorem c9y:A2 Tryz.prog 102:=kC Tryz.func102 J
theorem c9z:A2 Tryz.prog 103:=kC Tryz.func103 J
theorem c8m:A2 Tryz.prog 136:=kC Tryz.func136 J
theorem c9A:A2 Tryz.prog 185:=kC Tryz.func185 J
theorem c9B:A2 Tryz.prog 203:=kC Tryz.func203 J
theorem c9C:A2 Tryz.prog 204:=kC Tryz.func204 J
theorem c8n:A2 Tryz.prog 214:=kC Tryz.func214 J
theorem c8o:A2 Tryz.prog 292:=kC Tryz.func292 J
theorem c8p:A2 Tryz.prog 344:=kC Tryz.func344 J
theorem c8q:A2 Tryz.prog 350:=kC Tryz.func350 J
theorem c8r:A2 Tryz.prog 356:=kC Tryz.func356 J
theorem c9D:A2 Tryz.prog 368:=kC Tryz.func368 J
theorem c9E:A2 Tryz.prog 375:=kC Tryz.func375 J
theorem c8s:A2 Tryz.prog 382:=kC Tryz.func382 J
theorem c9F:A2 Tryz.prog 396:=kC Tryz.func396 J
theorem c9G:A2 Tryz.prog 397:=kC Tryz.func397 J
theorem c2J:a86 Tryz.prog 150=some (3,3):=by kernel_rfl
theorem a6U:a86 Tryz.prog 210=some (3,208):=by kernel_rfl
theorem c5X:a86 Tryz.prog 239=some (79,4):=by kernel_rfl
theorem a8v:a86 Tryz.prog 254=some (3,4):=by kernel_rfl
theorem a4B:a86 Tryz.prog 275=some (3,273):=by kernel_rfl
theorem p24:A6 Tryz.prog 24=some (λi=>(#[(0,1),(1,1)]:Array (Nat × Nat))[i]?):=by kernel_rfl
theorem p26:A6 Tryz.prog 26=some (λi=>(#[(0,2),(2,1)]:Array (Nat × Nat))[i]?):=by kernel_rfl
theorem p32:A6 Tryz.prog 32=some (λi=>(#[(0,1),(1,1)]:Array (Nat × Nat))[i]?):=by kernel_rfl
theorem p34:A6 Tryz.prog 34=some (λi=>(#[(0,3),(3,1),(4,1),(5,1),(6,2)]:Array (Nat × Nat))[i]?):=by kernel_rfl
theorem p39:A6 Tryz.prog 39=some (λi=>(#[(0,1),(1,1),(2,1)]:Array (Nat × Nat))[i]?):=by kernel_rfl
theorem p44:A6 Tryz.prog 44=some (λi=>(#[(0,1),(1,1)]:Array (Nat × Nat))[i]?):=by kernel_rfl
theorem p46:A6 Tryz.prog 46=some (λi=>(#[(0,3),(3,1),(4,1),(5,1),(6,2)]:Array (Nat × Nat))[i]?):=by kernel_rfl
theorem p62:A6 Tryz.prog 62=some (λi=>(#[(0,1),(1,1),(2,1),(3,1),(4,1),(5,1)]:Array (Nat × Nat))[i]?):=by kernel_rfl
theorem p68:A6 Tryz.prog 68=some (λi=>(#[(0,1),(1,1),(2,1)]:Array (Nat × Nat))[i]?):=by kernel_rfl
theorem p73:A6 Tryz.prog 73=some (λi=>(#[(0,1),(1,1),(2,1),(3,1)]:Array (Nat × Nat))[i]?):=by kernel_rfl
theorem p79:A6 Tryz.prog 79=some (λi=>(#[(0,1),(1,1),(2,1)]:Array (Nat × Nat))[i]?):=by kernel_rfl
theorem p85:A6 Tryz.prog 85=some (λi=>(#[(0,1),(1,1),(2,1)]:Array (Nat × Nat))[i]?):=by kernel_rfl
theorem c9K:A6 Tryz.prog 114=some (λi=>(#[(0,1),(1,1),(2,1),(3,1),(4,1),(5,1)]:Array (Nat × Nat))[i]?):=by kernel_rfl
theorem c44:A6 Tryz.prog 129=some (λi=>(#[(0,1),(1,1),(2,6)]:Array (Nat × Nat))[i]?):=by kernel_rfl
theorem c8D:A6 Tryz.prog 132=some (λi=>(#[(0,1),(1,1),(2,6)]:Array (Nat × Nat))[i]?):=by kernel_rfl
theorem c9L:A6 Tryz.prog 134=some (λi=>(#[(0,1),(1,1),(2,1)]:Array (Nat × Nat))[i]?):=by kernel_rfl
theorem c45:A6 Tryz.prog 135=some (λi=>(#[(0,1),(1,1),(2,1)]:Array (Nat × Nat))[i]?):=by kernel_rfl
theorem c8E:A6 Tryz.prog 142=some (λi=>(#[(0,1),(1,1)]:Array (Nat × Nat))[i]?):=by kernel_rfl
theorem c9M:A6 Tryz.prog 199=some (λi=>(#[(0,1),(1,1)]:Array (Nat × Nat))[i]?):=by kernel_rfl
theorem c46:A6 Tryz.prog 206=some (λi=>(#[(0,1),(1,1),(2,1)]:Array (Nat × Nat))[i]?):=by kernel_rfl
theorem c9N:A6 Tryz.prog 213=some (λi=>(#[(0,8),(8,4)]:Array (Nat × Nat))[i]?):=by kernel_rfl
theorem c9O:A6 Tryz.prog 225=some (λi=>(#[(0,1),(1,1)]:Array (Nat × Nat))[i]?):=by kernel_rfl
theorem c8F:A6 Tryz.prog 235=some (λi=>(#[(0,1),(1,1)]:Array (Nat × Nat))[i]?):=by kernel_rfl
theorem c8G:A6 Tryz.prog 250=some (λi=>(#[(0,1)]:Array (Nat × Nat))[i]?):=by kernel_rfl
theorem b25:A6 Tryz.prog 279=some (λi=>(#[(0,1),(1,1),(2,1),(3,1)]:Array (Nat × Nat))[i]?):=by kernel_rfl
theorem c47:A6 Tryz.prog 308=some (λi=>(#[(0,1)]:Array (Nat × Nat))[i]?):=by kernel_rfl
theorem c9P:A6 Tryz.prog 365=some (λi=>(#[(0,1),(1,1)]:Array (Nat × Nat))[i]?):=by kernel_rfl
theorem c9Q:A6 Tryz.prog 378=some (λi=>(#[(0,1),(1,1),(2,1)]:Array (Nat × Nat))[i]?):=by kernel_rfl
theorem c9R:A6 Tryz.prog 386=some (λi=>(#[(0,1)]:Array (Nat × Nat))[i]?):=by kernel_rfl
theorem c8H:A6 Tryz.prog 394=some (λi=>some (i*1,1)):=by kernel_rfl
theorem q79:Y1 Tryz.prog 79=some [1,1,1]:=by kernel_rfl
theorem q85:Y1 Tryz.prog 85=some [1,1,1]:=by kernel_rfl
theorem c9W:Y1 Tryz.prog 134=some [1,1,1]:=by kernel_rfl
theorem c8L:Y1 Tryz.prog 135=some [1,1,1]:=by kernel_rfl
theorem c9X:Y1 Tryz.prog 170=some [1,0,1]:=by kernel_rfl
theorem c9Y:Y1 Tryz.prog 394=some [1,1,1,1]:=by kernel_rfl
theorem s3:n9 Tryz.prog 3=some 1:=by kernel_rfl
theorem s4:n9 Tryz.prog 4=some 1:=by kernel_rfl
theorem Y4:n9 Tryz.prog 24=some 2:=by kernel_rfl
theorem s26:n9 Tryz.prog 26=some 3:=by kernel_rfl
theorem s27:n9 Tryz.prog 27=some 1:=by kernel_rfl
theorem s30:n9 Tryz.prog 30=some 1:=by kernel_rfl
theorem s32:n9 Tryz.prog 32=some 2:=by kernel_rfl
theorem I6:n9 Tryz.prog 34=some 8:=by kernel_rfl
theorem s35:n9 Tryz.prog 35=some 1:=by kernel_rfl
theorem s39:n9 Tryz.prog 39=some 3:=by kernel_rfl
theorem s44:n9 Tryz.prog 44=some 2:=by kernel_rfl
theorem s46:n9 Tryz.prog 46=some 8:=by kernel_rfl
theorem s62:n9 Tryz.prog 62=some 6:=by kernel_rfl
theorem s68:n9 Tryz.prog 68=some 3:=by kernel_rfl
theorem s73:n9 Tryz.prog 73=some 4:=by kernel_rfl
theorem s79:n9 Tryz.prog 79=some 3:=by kernel_rfl
theorem s85:n9 Tryz.prog 85=some 3:=by kernel_rfl
theorem a4X:n9 Tryz.prog 114=some 6:=by kernel_rfl
theorem a4Y:n9 Tryz.prog 129=some 8:=by kernel_rfl
theorem a1C:n9 Tryz.prog 132=some 8:=by kernel_rfl
theorem a7l:n9 Tryz.prog 134=some 3:=by kernel_rfl
theorem a83:n9 Tryz.prog 135=some 3:=by kernel_rfl
theorem d0b:n9 Tryz.prog 140=some 1:=by kernel_rfl
theorem b6h:n9 Tryz.prog 142=some 2:=by kernel_rfl
theorem b1V:n9 Tryz.prog 170=some 3:=by kernel_rfl
theorem b4i:n9 Tryz.prog 199=some 2:=by kernel_rfl
theorem a84:n9 Tryz.prog 206=some 3:=by kernel_rfl
theorem c1n:n9 Tryz.prog 235=some 2:=by kernel_rfl
theorem a4h:n9 Tryz.prog 279=some 4:=by kernel_rfl
theorem c8U:n9 Tryz.prog 308=some 1:=by kernel_rfl
theorem b7W:n9 Tryz.prog 365=some 2:=by kernel_rfl
theorem d0c:n9 Tryz.prog 394=some 4:=by kernel_rfl
theorem u3:Tryz.prog.underlying 3=some (.int .i64):=by kernel_rfl
theorem u4:Tryz.prog.underlying 4=some (.bool):=by kernel_rfl
theorem z3:x4 Tryz.prog 3=some ((.I 0)):=by kernel_rfl
theorem z4:x4 Tryz.prog 4=some ((.bool false)):=by kernel_rfl
theorem z24:x4 Tryz.prog 24=some ((.agg #[(.slice none 0 0),(.I 0)])):=by kernel_rfl
theorem z26:x4 Tryz.prog 26=some ((.agg #[(.slice none 0 0),(.I 0),(.I 0)])):=by kernel_rfl
theorem z32:x4 Tryz.prog 32=some ((.agg #[(.slice none 0 0),(.I 0)])):=by kernel_rfl
theorem z34:x4 Tryz.prog 34=some ((.agg #[(.slice none 0 0),(.I 0),(.I 0),(.slice none 0 0),(.slice none 0 0),(.slice none 0 0),(.slice none 0 0),(.I 0)])):=by kernel_rfl
theorem z35:x4 Tryz.prog 35=some (.nilFunc):=by kernel_rfl
theorem z39:x4 Tryz.prog 39=some ((.agg #[(.slice none 0 0),(.I 0),(.I 0)])):=by kernel_rfl
theorem z44:x4 Tryz.prog 44=some ((.agg #[(.slice none 0 0),(.I 0)])):=by kernel_rfl
theorem z46:x4 Tryz.prog 46=some ((.agg #[(.slice none 0 0),(.I 0),(.I 0),(.slice none 0 0),(.slice none 0 0),(.slice none 0 0),(.slice none 0 0),(.I 0)])):=by kernel_rfl
theorem z62:x4 Tryz.prog 62=some ((.agg #[(.I 0),(.I 0),(.I 0),(.I 0),(.bool false),(.slice none 0 0)])):=by kernel_rfl
theorem z68:x4 Tryz.prog 68=some ((.agg #[(.I 0),(.bool false),(.I 0)])):=by kernel_rfl
theorem z73:x4 Tryz.prog 73=some ((.agg #[(.I 0),(.I 0),(.I 0),(.I 0)])):=by kernel_rfl
theorem z79:x4 Tryz.prog 79=some ((.agg #[(.I 0),(.I 0),(.I 0)])):=by kernel_rfl
theorem z85:x4 Tryz.prog 85=some ((.agg #[(.I 0),(.I 0),(.I 0)])):=by kernel_rfl
theorem d0e:x4 Tryz.prog 114=some ((.agg #[(.I 0),(.I 0),(.I 0),(.I 0),(.bool false),(.slice none 0 0)])):=by kernel_rfl
theorem c1z:x4 Tryz.prog 129=some ((.agg #[(.I 0),(.I 0),(.I 0),(.I 0),(.I 0),(.I 0),(.bool false),(.slice none 0 0)])):=by kernel_rfl
theorem b9r:x4 Tryz.prog 132=some ((.agg #[(.I 0),(.I 0),(.I 0),(.I 0),(.I 0),(.I 0),(.bool false),(.slice none 0 0)])):=by kernel_rfl
theorem c5w:x4 Tryz.prog 134=some ((.agg #[(.I 0),(.I 0),(.I 0)])):=by kernel_rfl
theorem c1A:x4 Tryz.prog 135=some ((.agg #[(.I 0),(.I 0),(.I 0)])):=by kernel_rfl
theorem c86:x4 Tryz.prog 142=some ((.agg #[(.slice none 0 0),(.I 0)])):=by kernel_rfl
theorem c5x:x4 Tryz.prog 170=some ((.agg #[(.I 0),(.bool false),(.I 0)])):=by kernel_rfl
theorem c7R:x4 Tryz.prog 199=some ((.agg #[(.I 0),(.I 0)])):=by kernel_rfl
theorem b9s:x4 Tryz.prog 206=some ((.agg #[(.I 0),(.I 0),(.I 0)])):=by kernel_rfl
theorem d0f:x4 Tryz.prog 208=some (.nilFunc):=by kernel_rfl
theorem d0g:x4 Tryz.prog 213=some ((.agg #[(.slice none 0 0),(.I 0),(.I 0),(.slice none 0 0),(.slice none 0 0),(.slice none 0 0),(.slice none 0 0),(.I 0),(.I 0),(.I 0),(.I 0),(.I 0)])):=by kernel_rfl
theorem d0h:x4 Tryz.prog 225=some ((.agg #[(.I 0),(.I 0)])):=by kernel_rfl
theorem c1B:x4 Tryz.prog 235=some ((.agg #[(.I 0),(.I 0)])):=by kernel_rfl
theorem c87:x4 Tryz.prog 250=some ((.agg #[.nilFunc])):=by kernel_rfl
theorem d0i:x4 Tryz.prog 273=some ((.slice none 0 0)):=by kernel_rfl
theorem a3C:x4 Tryz.prog 279=some ((.agg #[.nilFunc,(.I 0),(.I 0),(.I 0)])):=by kernel_rfl
theorem c3L:x4 Tryz.prog 308=some ((.agg #[.nilFunc])):=by kernel_rfl
theorem d0j:x4 Tryz.prog 365=some ((.agg #[(.slice none 0 0),(.I 0)])):=by kernel_rfl
theorem d0k:x4 Tryz.prog 378=some ((.agg #[(.I 0),(.I 0),(.I 0)])):=by kernel_rfl
theorem d0l:x4 Tryz.prog 386=some ((.agg #[(.slice none 0 0)])):=by kernel_rfl
theorem c89:x4 Tryz.prog 394=some ((.agg #[(.I 0),(.I 0),(.I 0),(.I 0)])):=by kernel_rfl
theorem K8:Tryz.prog.follows .mixedOrders=true:=by kernel_rfl
end Ty
def tb:TB:=⟨[((24,0),(0,22)),((24,1),(1,3)),((26,0),(0,24)),((26,1),(2,3)),((32,0),(0,30)),((32,1),(1,3)),((34,0),(0,26)),((34,1),(3,27)),((34,2),(4,28)),((34,3),(5,29)),((34,4),(6,32)),((39,0),(0,37)),((39,1),(1,3)),((39,2),(2,3)),((44,0),(0,42)),((44,1),(1,3)),((46,0),(0,39)),((46,1),(3,27)),((46,2),(4,40)),((46,3),(5,41)),((46,4),(6,44)),((62,0),(0,3)),((62,1),(1,3)),((62,2),(2,3)),((62,3),(3,3)),((62,4),(4,4)),((62,5),(5,27)),((68,0),(0,3)),((68,1),(1,4)),((68,2),(2,3)),((73,0),(0,3)),((73,1),(1,3)),((73,2),(2,3)),((73,3),(3,3)),((79,0),(0,3)),((79,1),(1,3)),((85,0),(0,3)),((85,1),(1,3)),((114,0),(0,3)),((114,1),(1,3)),((114,2),(2,3)),((114,3),(3,3)),((114,4),(4,4)),((114,5),(5,27)),((129,0),(0,3)),((129,1),(1,3)),((129,2),(2,114)),((132,0),(0,3)),((132,1),(1,3)),((132,2),(2,62)),((134,0),(0,3)),((134,1),(1,3)),((134,2),(2,3)),((135,0),(0,3)),((135,1),(1,3)),((135,2),(2,3)),((142,0),(0,140)),((142,1),(1,3)),((170,0),(0,3)),((170,1),(1,4)),((170,2),(2,3)),((199,0),(0,3)),((199,1),(1,3)),((206,0),(0,3)),((206,1),(1,3)),((206,2),(2,3)),((213,0),(0,34)),((213,1),(8,73)),((225,0),(0,3)),((225,1),(1,3)),((235,0),(0,3)),((235,1),(1,3)),((250,0),(0,248)),((279,0),(0,277)),((279,1),(1,3)),((279,3),(3,63)),((308,0),(0,306)),((365,0),(0,27)),((365,1),(1,3)),((378,0),(0,3)),((378,1),(1,3)),((378,2),(2,3)),((386,0),(0,29))],[(3,false),(4,false),(22,false),(24,true),(26,true),(27,false),(28,false),(29,false),(30,false),(32,true),(34,true),(35,false),(37,false),(39,true),(40,false),(41,false),(42,false),(44,true),(46,true),(62,true),(63,false),(68,true),(73,true),(79,true),(85,true),(114,true),(129,true),(132,true),(134,true),(135,true),(140,false),(142,true),(150,false),(170,true),(206,true),(213,true),(235,true),(236,false),(238,false),(239,false),(248,false),(250,true),(254,false),(277,false),(279,true),(306,false),(308,true),(365,true)],[(3,1),(4,1),(22,1),(24,2),(26,3),(27,1),(28,1),(29,1),(32,2),(34,8),(39,3),(40,1),(41,1),(44,2),(46,8),(62,6),(63,1),(68,3),(73,4),(79,3),(85,3),(114,6),(129,8),(132,8),(134,3),(135,3),(142,2),(150,1),(170,3),(206,3),(213,12),(235,2),(236,1),(239,1),(250,1),(254,1),(279,4),(308,1),(365,2),(394,4)],[(3,.I 0),(4,.bool false),(24,.agg [.I4 true (List.map slab_Cell_store_Obj.Pv []),.I 0]),(26,.agg [.I4 true (List.map slab_Cell_store_Obj.Pv []),.I 0,.I 0]),(27,.I4 true (List.map iF [])),(29,.I4 true (List.map hash_Place.Pv [])),(32,.agg [.I4 true (List.map task_Task.Pv []),.I 0]),(34,.agg [.I4 true (List.map slab_Cell_store_Obj.Pv []),.I 0,.I 0,.I4 true (List.map iF []),.I4 true (List.map weak_Cell.Pv []),.I4 true (List.map hash_Place.Pv []),.I4 true (List.map task_Task.Pv []),.I 0]),(39,.agg [.I4 true (List.map j6.Pv []),.I 0,.I 0]),(44,.agg [.I4 true (List.map m9.Pv []),.I 0]),(46,.agg [.I4 true (List.map j6.Pv []),.I 0,.I 0,.I4 true (List.map iF []),.I4 true (List.map k9.Pv []),.I4 true (List.map c7.Pv []),.I4 true (List.map m9.Pv []),.I 0]),(62,.agg [.I 0,.I 0,.I 0,.I 0,.bool false,.I4 true (List.map iF [])]),(63,.I 0),(68,.agg [.I 0,.bool false,.I 0]),(73,.agg [.I 0,.I 0,.I 0,.I 0]),(79,.agg [.I 0,.I 0,.I 0]),(85,.agg [.I 0,.I 0,.I 0]),(114,.agg [.I 0,.I 0,.I 0,.I 0,.bool false,.I4 true (List.map iF [])]),(129,.agg [.I 0,.I 0,.I 0,.I 0,.I 0,.I 0,.bool false,.I4 true (List.map iF [])]),(132,.agg [.I 0,.I 0,.I 0,.I 0,.I 0,.I 0,.bool false,.I4 true (List.map iF [])]),(134,.agg [.I 0,.I 0,.I 0]),(135,.agg [.I 0,.I 0,.I 0]),(142,.agg [.I4 true (List.map r8.Pv []),.I 0]),(150,.abs b5i),(170,.agg [.I 0,.bool false,.I 0]),(206,.agg [.I 0,.I 0,.I 0]),(235,.agg [.I 0,.I 0]),(236,.I4 true (List.map j5.Pv [])),(239,.abs b5i),(250,.agg [.nilfn]),(254,.abs b5i),(279,.agg [.nilfn,.I 0,.I 0,.I 0]),(308,.agg [.nilfn]),(365,.agg [.I4 true (List.map iF []),.I 0]),(394,.agg [.I 0,.I 0,.I 0,.I 0])]⟩
theorem Tb:TB.Ok Tryz.prog tb:=⟨by kernel_rfl,by kernel_rfl,by kernel_rfl,by kernel_rfl⟩
section
variable{X:Ctx}{ops:Array Oper}{K:Ctx→St→Prop}{i n:Nat}{l l':List Oper}{env env':Nat→PV}{σ σ':Nat→Option Row}{Q:PX→Ctx→St→Prop}{y:Code}{KD:St→Prop}{bar:List Nat}
theorem S1(n:Nat)(h:run tb n l env σ=some (l',env',σ'))(k:Sq X ops (i+n) l' K ⟨env',σ'⟩)(hb:TB.Ok X.P tb:=by exact Tb):Sq X ops i l K ⟨env,σ⟩:=seg hb n h k
theorem S2(n:Nat)(h:run tb n l env σ=some ([],env',σ'))(k:K X ⟨env',σ'⟩)(hb:TB.Ok X.P tb:=by exact Tb):Sq X ops i l K ⟨env,σ⟩:=seg hb n h (yN k)
theorem S3{id:Nat}(n:Nat)(h:run tb n l env σ=some (l',env',σ'))(k:Sq X l.toArray (0+n) l' (λX' s=>Q2 X' y Q s) ⟨env',σ'⟩)(hd:a1Y X.N l.toArray=true:=by kernel_rfl)(hb:TB.Ok X.P tb:=by exact Tb):Q2 X (.seq (.region id l.toArray false) y) Q ⟨env,σ⟩:=sr hd (seg hb n h k)
theorem S4{id:Nat}(n:Nat)(h:run tb n l env σ=some ([],env',σ'))(k:Q2 X y Q ⟨env',σ'⟩)(hd:a1Y X.N l.toArray=true:=by kernel_rfl)(hb:TB.Ok X.P tb:=by exact Tb):Q2 X (.seq (.region id l.toArray false) y) Q ⟨env,σ⟩:=sr hd (seg hb n h (yN k))
theorem S5{id:Nat}(n:Nat)(h:run tb n l env σ=some (l',env',σ'))(k:Sq X l.toArray (0+n) l' (Q .normal) ⟨env',σ'⟩)(hd:a1Y X.N l.toArray=true:=by kernel_rfl)(hb:TB.Ok X.P tb:=by exact Tb):Q2 X (.region id l.toArray false) Q ⟨env,σ⟩:=sr1 hd (seg hb n h k)
theorem S6{id:Nat}(n:Nat)(h:run tb n l env σ=some ([],env',σ'))(k:Q .normal X ⟨env',σ'⟩)(hd:a1Y X.N l.toArray=true:=by kernel_rfl)(hb:TB.Ok X.P tb:=by exact Tb):Q2 X (.region id l.toArray false) Q ⟨env,σ⟩:=sr1 hd (seg hb n h (yN k))
theorem S7(n:Nat)(h:c5j tb bar n i l env σ=some (l',env',σ'))(k:Ex X.P ops bar true (i+n) l' ⟨env',σ'⟩ KD)(hb:TB.Ok X.P tb:=by exact Tb):Ex X.P ops bar true i l ⟨env,σ⟩ KD:=dG hb n h k
theorem S8(n:Nat)(h:c5j tb bar n i l env σ=some ([],env',σ'))(k:KD ⟨env',σ'⟩)(hb:TB.Ok X.P tb:=by exact Tb):Ex X.P ops bar true i l ⟨env,σ⟩ KD:=dG hb n h k
end
theorem c7G:b5k Tryz.prog (Tryz.sortF_ren.f 6):=c1q Tryz.sortF
theorem b6w{a0}:PO Tryz.prog 69 [store_Store.Pv a0] (a71 a0) λr=>.bool r:=by
 refine pO Tryz.func69 λr h _ _=>?_
 refine S4 2 J ?_
 refine jq h (λ_=>St.of [(1,.ptr 1 0 0)] [(1,vR (store_Store.Pv a0) 3)]) (λq6 h=>?_) λκ5 h=>?_
 ·refine S3 3 J ?_
  refine nL J Ty.e22<|S2 2 J<|a6 ?_
  cases h
  exact f1
 ·refine S4 1 J ?_
  refine b7<|lq h (λs8=>St.of [(1,.ptr 1 0 0),(3,.I s8)] [(1,vR (store_Store.Pv a0) 3)]) W λs8 x9 h hx8=>b9<|S3 4 J<|nL J Ty.e22<|S1 2 J<|b8 J (λhg=>mI J)<|b8 J (λhg=>j8 (ct hg) J J)<|y0 J (k7 J J J (λq=>H0 q))<|yN ?_
  refine cN h (λhc h=>?_) λhc h=>?_
  ·refine a8 ?_
   refine b9<|b7<|S3 4 J<|iL h J J Ty.e22 Ty.a4Y λv10 _ h=>S1 3 J<|nL J Ty.p8<|S2 1 J ?_
   refine cN h (λhc h=>?_) λhc h=>?_
   ·refine S4 1 J ?_
    refine a6 ?_
    have h:=xL hx8 h
    cases h
    exact f1
   ·refine a8 ?_
    refine S6 3 J ?_
    exact eL h W
  ·refine g8 ?_
   refine a7<|a7<|c4 ?_
   have h:=xL hx8 h
   exact eJ h W

theorem a0r{a0}:PO Tryz.prog 21 [hold_Heap.Pv a0] (a09 a0) λr=>.bool r:=by
 refine pO Tryz.func21 λr h _ _=>?_
 refine S4 2 J<|S3 2 J<|cA h b6w J J λv1 _ h=>S1 1 J<|b8 J (λhg=>oF J Ty.b9B J)<|b8 J (λhg=>oS (ct hg) J J Ty.a27 J)<|b8 J (λhg=>D6 (f:=iF) (ct hg) Ty.p8)<|b8 J (λhg=>j8 (ct hg) J J)<|y0 J (k7 J J J (λq=>H0 q))<|S1 1 J<|b8 J (λhg=>oF J Ty.b1m J)<|b8 J (λhg=>oS (ct hg) J J Ty.a28 J)<|b8 J (λhg=>D6 (f:=weak_Cell.Pv) (ct hg) Ty.e28)<|b8 J (λhg=>j8 (ct hg) J J)<|y0 J (k7 J J J (λq=>H0 q))<|S1 1 J<|b8 J (λhg=>oF J Ty.c5G J)<|b8 J (λhg=>oS (ct hg) J J Ty.a29 J)<|b8 J (λhg=>D6 (f:=hash_Place.Pv) (ct hg) Ty.e29)<|b8 J (λhg=>j8 (ct hg) J J)<|y0 J (k7 J J J (λq=>H0 q))<|S1 1 J<|b8 J (λhg=>oF J Ty.b4B J)<|b8 J (λhg=>oF (ct hg) Ty.b9A J)<|b8 J (λhg=>oS (ct hg) J J Ty.a30 J)<|b8 J (λhg=>D6 (f:=task_Task.Pv) (ct hg) Ty.e30)<|b8 J (λhg=>j8 (ct hg) J J)<|y0 J (k7 J J J (λq=>H0 q))<|S2 1 J<|a6 ?_
 cases h
 exact f1

theorem b9n{a0}:PO Tryz.prog 90 [store_Obj.Pv a0] (b2o a0) λr=>z8.Pv r:=by
 refine pO Tryz.func90 λr h _ _=>?_
 unfold b2o at h
 refine S4 2 J<|S3 12 J<|y0 J (l6 (cs:=[.I a0.Serial,.I a0.Strong,.I a0.Weak,.I a0.Prog,.bool a0.Started,.L iF a0.Fields]) J Ty.p62 Ty.z62 J J J)<|S2 1 J<|a6 ?_
 cases h
 exact⟨J,[_],⟨oL J J J Ty.a62 Ty.s62 nl J,tr⟩,J,io⟩

theorem L4{a0}:PO Tryz.prog 33 [store_Store.Pv a0] (a2P a0) λr=>c9.Pv r:=by
 refine pO Tryz.func33 λr h _ _=>?_
 refine S4 2 J<|sR<|y0 J (A0 J Ty.e37 Ty.a1C)<|S2 1 J ?_
 refine jq h (λj10=>St.of [(1,.ptr 1 0 0),(2,.ptr 2 0 0),(3,.sl 910003)] [(910003,⟨List.map j6.Pv j10,(List.map j6.Pv j10).length,true,8,true⟩),(2,vR (.agg [.nl,.I 0,.I 0]) 3),(1,vR (store_Store.Pv a0) 3)]) (λj10 h=>?_) λκ9 h=>?_
 ·refine S3 6 J ?_
  refine y0 J (l6 (cs:=[.sl 910003,.I a0.S.Last,.I a0.Serial]) J Ty.p39 Ty.z39 J J J)<|S2 1 J<|a6 ?_
  cases h
  exact⟨J,[_],⟨oL J J J Ty.a39 Ty.s39 nl J,tr⟩,J,io⟩
 ·refine S4 1 J ?_
  refine b7<|lq h (λq=>St.of [(1,.ptr 1 0 0),(2,.ptr 2 0 0),(3,.sl 910003),(4,.I q.1)] [(2,vR (.agg [.nl,.I 0,.I 0]) 3),(1,vR (store_Store.Pv a0) 3),(910003,⟨List.map j6.Pv q.2,(List.map j6.Pv q.2).length,true,8,true⟩)]) (Wk.trans (B2 (t:=3) (l:=920003) (z:=8) J J) (WP (λl=>if l=910003 then 920003 else l))) λq15 x14 h hx10=>?_
  obtain⟨s12,s13⟩:=q15
  refine b9<|S3 4 J<|nL J Ty.e22<|S2 1 J ?_
  refine cN h (λhc h=>?_) λhc h=>?_
  ·refine a8 ?_
   refine b9<|b7<|S3 4 J<|iL h J J Ty.e22 Ty.a4Y λv16 _ h=>S2 3 J<|a0p [] Ty.K8 (by kernel_rfl) (by kernel_rfl)<|S7 7 J<|l7 h λv17 hv12 h=>Q7 J (n0 J b9n J hv12) J<|d7 J (λ_ hN=>l6 (cs:=[.I v16.State,.I v16.Gen,.I v17.Serial,.I v17.Strong,.I v17.Weak,.I v17.Prog,.bool v17.Started,.L iF v17.Fields]) J Ty.c8D Ty.b9r J J J) J<|d1n J (F1 (f:=j6.Pv) (l:=[(⟨v16.State,v16.Gen,v17⟩:j6)]) J Ty.e37 Ty.a1C Ty.b9r J J nl J J) J<|l7 h λv18 hv13 h=>d3a J (B6 (f:=j6.Pv) hv13 J J J J J J (.inl ⟨_,J,J⟩) Ty.e37 Ty.a1C Ty.c6l Ty.b9r J (λ_=>J)) J J J J J<|S8 1 J<|S6 3 J ?_
   exact eL h (Wk.trans (g7 _ [31]) (WP (λl=>if l=910003 then 31 else l)))
  ·refine g8 ?_
   refine a7<|a7<|c4 ?_
   have h:=xL hx10 h
   exact eJ h (Wk.trans (g7 _ [910003]) W)

theorem b6v{a0}:PO Tryz.prog 61 [.L weak_Cell.Pv a0] (a7Z a0) λr=>.L k9.Pv r:=by
 refine pO Tryz.func61 λr h _ _=>?_
 refine S4 1 J<|sR<|y0 J (A0 J Ty.e40 Ty.b1V)<|S2 1 J ?_
 refine jq h (λj9=>St.of [(3,.sl 910003)] [(910003,⟨List.map k9.Pv j9,(List.map k9.Pv j9).length,true,3,true⟩)]) (λj9 h=>?_) λκ8 h=>?_
 ·refine S4 2 J ?_
  refine a6 ?_
  cases h
  exact f1
 ·refine S4 1 J ?_
  refine b7<|lq h (λq=>St.of [(0,.L weak_Cell.Pv a0),(3,.sl 910003),(4,.I q.1)] [(910003,⟨List.map k9.Pv q.2,(List.map k9.Pv q.2).length,true,3,true⟩)]) (Wk.trans (B2 (t:=3) (l:=920003) (z:=3) J J) (WP (λl=>if l=910003 then 920003 else l))) λq14 x13 h hx9=>?_
  obtain⟨s11,s12⟩:=q14
  refine b9<|S3 2 J<|nL J Ty.e28<|S2 1 J ?_
  refine cN h (λhc h=>?_) λhc h=>?_
  ·refine a8 ?_
   refine b9<|b7<|S5 3 J<|iL h J J Ty.e28 Ty.s68 λv15 _ h=>S1 1 J<|y0 J (F1 (f:=k9.Pv) (l:=[(⟨v15.Target,v15.Intact,v15.Call⟩:k9)]) J Ty.e40 Ty.b1V Ty.c5x J J nl J J)<|l7 h λv16 hv11 h=>D7 J (B6 (f:=k9.Pv) hv11 J J J J J J (.inl ⟨_,J,J⟩) Ty.e40 Ty.b1V Ty.c77 Ty.c5x J (λ_=>J)) J J J<|S2 1 J<|S6 3 J ?_
   exact eL h (Wk.trans (g7 _ [18]) (WP (λl=>if l=910003 then 18 else l)))
  ·refine g8 ?_
   refine a7<|a7<|c4 ?_
   have h:=xL hx9 h
   exact eJ h (Wk.trans (g7 _ [910003]) W)

theorem a88{a0}:PO Tryz.prog 34 [.L hash_Place.Pv a0] (a73 a0) λr=>.L c7.Pv r:=by
 refine pO Tryz.func34 λr h _ _=>?_
 refine S4 1 J<|sR<|y0 J (A0 J Ty.e41 Ty.a7l)<|S2 1 J ?_
 refine jq h (λj9=>St.of [(3,.sl 910003)] [(910003,⟨List.map c7.Pv j9,(List.map c7.Pv j9).length,true,3,true⟩)]) (λj9 h=>?_) λκ8 h=>?_
 ·refine S4 2 J ?_
  refine a6 ?_
  cases h
  exact f1
 ·refine S4 1 J ?_
  refine b7<|lq h (λq=>St.of [(0,.L hash_Place.Pv a0),(3,.sl 910003),(4,.I q.1)] [(910003,⟨List.map c7.Pv q.2,(List.map c7.Pv q.2).length,true,3,true⟩)]) (Wk.trans (B2 (t:=3) (l:=920003) (z:=3) J J) (WP (λl=>if l=910003 then 920003 else l))) λq14 x13 h hx9=>?_
  obtain⟨s11,s12⟩:=q14
  refine b9<|S3 2 J<|nL J Ty.e29<|S2 1 J ?_
  refine cN h (λhc h=>?_) λhc h=>?_
  ·refine a8 ?_
   refine b9<|b7<|S5 3 J<|iL h J J Ty.e29 Ty.a83 λv15 _ h=>S1 1 J<|y0 J (F1 (f:=c7.Pv) (l:=[(⟨v15.State,v15.Key,v15.Val⟩:c7)]) J Ty.e41 Ty.a7l Ty.c5w J J nl J J)<|l7 h λv16 hv11 h=>D7 J (B6 (f:=c7.Pv) hv11 J J J J J J (.inl ⟨_,J,J⟩) Ty.e41 Ty.a7l Ty.c75 Ty.c5w J (λ_=>J)) J J J<|S2 1 J<|S6 3 J ?_
   exact eL h (Wk.trans (g7 _ [18]) (WP (λl=>if l=910003 then 18 else l)))
  ·refine g8 ?_
   refine a7<|a7<|c4 ?_
   have h:=xL hx9 h
   exact eJ h (Wk.trans (g7 _ [910003]) W)

theorem b6y{a0}:PO Tryz.prog 62 [queue_Queue_task_Task.Pv a0] (a74 a0) λr=>r7.Pv r:=by
 refine pO Tryz.func62 λr h _ _=>?_
 refine S4 2 J<|sR<|y0 J (A0 J Ty.e42 Ty.s85)<|S2 1 J ?_
 refine jq h (λj9=>St.of [(1,.ptr 1 0 0),(2,.ptr 2 0 0),(3,.sl 910003)] [(910003,⟨List.map m9.Pv j9,(List.map m9.Pv j9).length,true,3,true⟩),(2,vR (.agg [.nl,.I 0]) 2),(1,vR (queue_Queue_task_Task.Pv a0) 2)]) (λj9 h=>?_) λκ8 h=>?_
 ·refine S3 3 J ?_
  refine y0 J (l6 (cs:=[.sl 910003,.I a0.Cap]) J Ty.p44 Ty.z44 J J J)<|S2 1 J<|a6 ?_
  cases h
  exact⟨J,[_],⟨oL J J J Ty.a44 Ty.s44 nl J,tr⟩,J,io⟩
 ·refine S4 1 J ?_
  refine b7<|lq h (λq=>St.of [(1,.ptr 1 0 0),(2,.ptr 2 0 0),(3,.sl 910003),(4,.I q.1)] [(2,vR (.agg [.nl,.I 0]) 2),(1,vR (queue_Queue_task_Task.Pv a0) 2),(910003,⟨List.map m9.Pv q.2,(List.map m9.Pv q.2).length,true,3,true⟩)]) (Wk.trans (B2 (t:=3) (l:=920003) (z:=3) J J) (WP (λl=>if l=910003 then 920003 else l))) λq14 x13 h hx9=>?_
  obtain⟨s11,s12⟩:=q14
  refine b9<|S3 3 J<|nL J Ty.e30<|S2 1 J ?_
  refine cN h (λhc h=>?_) λhc h=>?_
  ·refine a8 ?_
   refine b9<|b7<|S5 4 J<|iL h J J Ty.e30 Ty.s79 λv15 _ h=>S1 1 J<|y0 J (F1 (f:=m9.Pv) (l:=[(⟨v15.Kind,v15.At,v15.Prog⟩:m9)]) J Ty.e42 Ty.s85 Ty.z85 J J nl J J)<|l7 h λv16 hv11 h=>D7 J (B6 (f:=m9.Pv) hv11 J J J J J J (.inl ⟨_,J,J⟩) Ty.e42 Ty.s85 Ty.b85 Ty.z85 J (λ_=>J)) J J J<|S2 1 J<|S6 3 J ?_
   exact eL h (Wk.trans (g7 _ [20]) (WP (λl=>if l=910003 then 20 else l)))
  ·refine g8 ?_
   refine a7<|a7<|c4 ?_
   have h:=xL hx9 h
   exact eJ h (Wk.trans (g7 _ [910003]) W)

theorem J1{a0}:PO Tryz.prog 18 [hold_Heap.Pv a0] (L3 a0) λr=>c5.Pv r:=by
 refine pO Tryz.func18 λr h _ _=>?_
 unfold L3 at h
 refine S4 2 J<|dr [] Ty.K8 (by kernel_rfl) (by kernel_rfl)<|S7 2 J<|l7 h λv1 hv1 h=>Q7 J (n0 J L4 J hv1) J<|S7 4 J<|l7 h λv2 hv2 h=>Q7 J (n0 J b6v J hv2) J<|S7 2 J<|l7 h λv3 hv3 h=>Q7 J (n0 J a88 J hv3) J<|S7 2 J<|l7 h λv4 hv4 h=>Q7 J (n0 J b6y J hv4) J<|d7 J (λ_ hN=>l6 (cs:=[.L j6.Pv v1.Cells,.I v1.Last,.I v1.Serial,.L iF a0.Roots,.L k9.Pv v2,.L c7.Pv v3,.L m9.Pv v4.L,.I v4.Cap]) J Ty.p46 Ty.z46 J J J) J<|F0 (x':=.agg [.L j6.Pv v1.Cells,.I v1.Last,.I v1.Serial,.L iF a0.Roots,.L k9.Pv v2,.L c7.Pv v3,.L m9.Pv v4.L,.I v4.Cap]) (cl':=true) J J (.inr J) Ty.s46<|F6<|a6 ?_
 cases h
 exact⟨J,[_],⟨oL J J J Ty.a46 Ty.s46 nl J,tr⟩,J,io⟩

theorem M6{a0}:PO Tryz.prog 95 [c9.Pv a0] (L8 a0) λr=>z7.Pv r:=by
 refine pO Tryz.func95 λr h _ _=>?_
 refine S4 2 J<|S3 2 J<|y0 J (l6 (cs:=[.nl,.I a0.Last]) J Ty.c8E Ty.c86 J J J)<|S1 1 J<|a6f (x':=.agg [.nl,.I a0.Last]) (cl':=true) J J (.inl J) Ty.b6h<|yN ?_
 refine jq h (λj9=>St.of [(2,.ptr 2 0 0),(3,.ptr 3 0 0)] [(3,vS (.agg [.sl 910503,.I a0.Last]) 2),(910503,⟨List.map r8.Pv j9,(List.map r8.Pv j9).length,true,3,true⟩),(2,vR (.agg [.nl,.I 0]) 2)]) (λj9 h=>?_) λκ8 h=>?_
 ·refine S4 2 J ?_
  refine a6 ?_
  cases h
  exact⟨J,[_],⟨oL J J J Ty.b8k Ty.b6h nl J,tr⟩,J,io⟩
 ·refine S4 1 J ?_
  refine b7<|lq h (λq=>St.of [(1,.ptr 1 0 0),(2,.ptr 2 0 0),(3,.ptr 3 0 0),(4,.I q.1)] [(3,vS (.agg [.sl 910503,.I a0.Last]) 2),(2,vR (.agg [.nl,.I 0]) 2),(1,vR (c9.Pv a0) 3),(910503,⟨List.map r8.Pv q.2,(List.map r8.Pv q.2).length,true,3,true⟩)]) (Wk.trans (a78 (l0:=3) (j:=0) (l:=920503) (z:=3) J J J J J) (WP (λl=>if l=910503 then 920503 else l))) λq14 x13 h hx9=>?_
  obtain⟨s11,s12⟩:=q14
  refine b9<|S3 3 J<|nL J Ty.e37<|S2 1 J ?_
  refine cN h (λhc h=>?_) λhc h=>?_
  ·refine a8 ?_
   refine b9<|b7<|a0p [] Ty.K8 (by kernel_rfl) (by kernel_rfl)<|S7 5 J<|l7 h λv15 hv10 h=>d0 J (p9 (f:=j6.Pv) (cs:=j6.Pc v15) hv10 J J Ty.e37 Ty.a1C J J) J<|S7 5 J<|d0 J (p9 (f:=j6.Pv) (cs:=j6.Pc v15) hv10 J J Ty.e37 Ty.a1C J J) J<|S7 3 J<|d7 J (λ_ hN=>l6 (cs:=[.I v15.State,.I v15.Gen,.I s11]) J Ty.c46 Ty.b9s J J J) J<|d1n J (F1 (f:=r8.Pv) (l:=[(⟨v15.State,v15.Gen,s11⟩:r8)]) J Ty.a6x Ty.a84 Ty.b9s J J nl J J) J<|l7 h λv16 hv11 h=>d3a J (B6 (f:=r8.Pv) hv11 J J J J J J (.inl ⟨_,J,J⟩) Ty.a6x Ty.a84 Ty.c78 Ty.b9s J (λ_=>J)) J J J J J<|S7 1 J<|F0 (x':=.agg [.sl 32,.I a0.Last]) (cl':=false) J J (.inl J) Ty.d0b<|F6<|S6 3 J ?_
   exact eL h (Wk.trans (g7 _ [32]) (WP (λl=>if l=910503 then 32 else l)))
  ·refine g8 ?_
   refine a7<|a7<|c4 ?_
   have h:=xL hx9 h
   exact eJ h (Wk.trans (g7 _ [910503]) W)

theorem b51{a0}:PO Tryz.prog 155 [z7.Pv a0] (a7H a0) λr=>.bool r:=by
 refine pO Tryz.func155 λr h _ _=>?_
 refine S4 2 J<|b9<|S3 2 J<|nL J Ty.a6x<|S1 2 J<|b8 J (λhg=>oF J Ty.b8x J)<|b8 J (λhg=>oS (ct hg) J J Ty.a3 J)<|b8 J (λhg=>j8 (ct hg) J J)<|y0 J (n8 J J J (λq=>H5 q))<|S1 1 J<|b8 J (λhg=>oF J Ty.b8x J)<|b8 J (λhg=>oS (ct hg) J J Ty.a3 J)<|b8 J (λhg=>j8 (ct hg) J J)<|y0 J (n8 J J J (λq=>H5 q))<|yN ?_
 refine cN h (λhc h=>?_) λhc h=>?_
 ·refine S4 1 J ?_
  refine a6 ?_
  cases h
  exact f1
 ·refine a8 ?_
  refine jq h (λ_=>St.of [] []) (λq6 h=>?_) λκ5 h=>?_
  ·refine S4 1 J ?_
   refine a6 ?_
   cases h
   exact f1
  ·refine S4 1 J ?_
   refine b7<|lq h (λs8=>St.of [(1,.ptr 1 0 0),(3,.I s8)] [(1,vR (z7.Pv a0) 2)]) W λs8 x9 h hx8=>b9<|S3 3 J<|nL J Ty.a6x<|S2 1 J ?_
   refine cN h (λhc h=>?_) λhc h=>?_
   ·refine a8 ?_
    refine b9<|b7<|S3 3 J<|iL h J J Ty.a6x Ty.a84 λv10 _ h=>S2 3 J<|S3 4 J<|b8 J (λhg=>oF J Ty.b8y J)<|b8 J (λhg=>oS (ct hg) J J Ty.a3 J)<|b8 J (λhg=>j8 (ct hg) J J)<|y0 J (n8 J J J (λq=>H5 q))<|S1 1 J<|b8 J (λhg=>oF J Ty.c2b J)<|b8 J (λhg=>oS (ct hg) J J Ty.a3 J)<|b8 J (λhg=>j8 (ct hg) J J)<|y0 J (n8 J J J (λq=>H5 q))<|S1 1 J<|b8 J (λhg=>oF J Ty.c2b J)<|b8 J (λhg=>oS (ct hg) J J Ty.a3 J)<|b8 J (λhg=>oF J Ty.b8x J)<|b8 J (λhg=>oS (ct hg) J J Ty.a3 J)<|b8 J (λhg=>j8 (ct hg) (ct hg) J)<|y0 J (n8 J J J (λq=>H5 q))<|yN ?_
    refine cN h (λhc h=>?_) λhc h=>?_
    ·refine S4 1 J ?_
     refine a6 ?_
     have h:=xL hx8 h
     cases h
     exact f1
    ·refine a8 ?_
     refine S6 3 J ?_
     exact eL h W
   ·refine g8 ?_
    refine a7<|a7<|c4 ?_
    have h:=xL hx8 h
    exact eJ h W

theorem a9Z{a0}:PO Tryz.prog 156 [j6.Pv a0] (a2T a0) λr=>.bool r:=by
 refine pO Tryz.func156 λr h _ _=>?_
 unfold a2T at h
 refine S4 2 J<|S3 4 J<|b8 J (λhg=>oF J Ty.b8w J)<|b8 J (λhg=>oS (ct hg) J J Ty.a3 J)<|b8 J (λhg=>j8 (ct hg) J J)<|y0 J (n8 J J J (λq=>H5 q))<|S2 1 J<|a6 ?_
 cases h
 exact f1

theorem b53{a0}:PO Tryz.prog 80 [c9.Pv a0] (a7I a0) λr=>.bool r:=by
 refine pO Tryz.func80 λr h _ _=>?_
 refine S4 2 J<|b9<|S3 1 J<|cF h M6 J J λv1 _ h=>cA h b51 J J λv2 _ h=>S1 2 J<|b8 J (λhg=>oF J Ty.b9C J)<|b8 J (λhg=>oS (ct hg) J J Ty.a3 J)<|b8 J (λhg=>j8 (ct hg) J J)<|y0 J (n8 J J J (λq=>H5 q))<|yN ?_
 refine cN h (λhc h=>?_) λhc h=>?_
 ·refine S4 1 J ?_
  refine a6 ?_
  cases h
  exact f1
 ·refine a8 ?_
  refine jq h (λ_=>St.of [] []) (λq23 h=>?_) λκ22 h=>?_
  ·refine S4 1 J ?_
   refine a6 ?_
   cases h
   exact f1
  ·refine S4 1 J ?_
   refine b7<|lq h (λs25=>St.of [(1,.ptr 1 0 0),(3,.I s25)] [(1,vR (c9.Pv a0) 3)]) W λs25 x26 h hx24=>b9<|S3 3 J<|nL J Ty.e37<|S2 1 J ?_
   refine cN h (λhc h=>?_) λhc h=>?_
   ·refine a8 ?_
    refine jq h (λ_=>St.of [(1,.ptr 1 0 0),(3,.I s25)] [(1,vR (c9.Pv a0) 3)]) (λq35 h=>?_) λκ34 h=>?_
    ·refine S6 3 J ?_
     exact eL h W
    ·refine b7 ?_
     refine S3 3 J<|iL h J J Ty.e37 Ty.a1C λv36 _ h=>S2 3 J<|S4 4 J<|b9<|S3 1 J<|cA h a9Z J J λv37 _ h=>S2 1 J ?_
     refine cN h (λhc h=>?_) λhc h=>?_
     ·refine b9 ?_
      refine S3 4 J<|b8 J (λhg=>oF J Ty.b6T J)<|b8 J (λhg=>oS (ct hg) J J Ty.a3 J)<|b8 J (λhg=>j8 (ct hg) J J)<|y0 J (n8 J J J (λq=>H5 q))<|S1 1 J<|b8 J (λhg=>oF J Ty.b6U J)<|b8 J (λhg=>oS (ct hg) J J Ty.a3 J)<|b8 J (λhg=>j8 (ct hg) J J)<|y0 J (n8 J J J (λq=>H5 q))<|S1 1 J<|b8 J (λhg=>oF J Ty.b4C J)<|b8 J (λhg=>oS (ct hg) J J Ty.a3 J)<|b8 J (λhg=>j8 (ct hg) J J)<|y0 J (n8 J J J (λq=>H5 q))<|S1 1 J<|b8 J (λhg=>oF J Ty.b4D J)<|b8 J (λhg=>oS (ct hg) J J Ty.a4 J)<|y0 J (n8 J J J (λq=>H5 q))<|S1 1 J<|b8 J (λhg=>oF J Ty.b2D J)<|b8 J (λhg=>oS (ct hg) J J Ty.a27 J)<|b8 J (λhg=>D6 (f:=iF) (ct hg) Ty.p8)<|b8 J (λhg=>j8 (ct hg) J J)<|y0 J (n8 J J J (λq=>H5 q))<|yN ?_
      refine cN h (λhc h=>?_) λhc h=>?_
      ·refine S4 1 J ?_
       refine a6 ?_
       have h:=xL hx24 h
       cases h
       exact f1
      ·refine a8 ?_
       refine g8<|a7<|c4 ?_
       exact eJ h W
     ·refine a8 ?_
      refine b9<|S3 4 J<|b8 J (λhg=>oF J Ty.b2C J)<|b8 J (λhg=>oS (ct hg) J J Ty.a3 J)<|b8 J (λhg=>oF J Ty.b9C J)<|b8 J (λhg=>oS (ct hg) J J Ty.a3 J)<|b8 J (λhg=>j8 (ct hg) (ct hg) J)<|y0 J (n8 J J J (λq=>H5 q))<|S1 1 J<|b8 J (λhg=>oF J Ty.b6T J)<|b8 J (λhg=>oS (ct hg) J J Ty.a3 J)<|b8 J (λhg=>j8 (ct hg) J J)<|y0 J (n8 J J J (λq=>H5 q))<|S1 1 J<|b8 J (λhg=>oF J Ty.b6U J)<|b8 J (λhg=>oS (ct hg) J J Ty.a3 J)<|b8 J (λhg=>j8 (ct hg) J J)<|y0 J (n8 J J J (λq=>H5 q))<|S1 1 J<|b8 J (λhg=>oF J Ty.b4C J)<|b8 J (λhg=>oS (ct hg) J J Ty.a3 J)<|b8 J (λhg=>j8 (ct hg) J J)<|y0 J (n8 J J J (λq=>H5 q))<|S1 1 J<|b8 J (λhg=>oF J Ty.b4C J)<|b8 J (λhg=>oS (ct hg) J J Ty.a3 J)<|b8 J (λhg=>j8 (ct hg) J J)<|y0 J (n8 J J J (λq=>H5 q))<|S1 1 J<|b8 J (λhg=>oF J Ty.b2D J) ?_
      refine b8 J (λhg=>oS (ct hg) J J Ty.a27 J)<|b8 J (λhg=>D6 (f:=iF) (ct hg) Ty.p8)<|b8 J (λhg=>j8 (ct hg) J J)<|y0 J (n8 J J J (λq=>H5 q))<|yN ?_
      refine cN h (λhc h=>?_) λhc h=>?_
      ·refine S4 1 J ?_
       refine a6 ?_
       have h:=xL hx24 h
       cases h
       exact f1
      ·refine a8 ?_
       refine S4 1 J<|b7<|lq h (λs39=>St.of [(1,.ptr 1 0 0),(3,.I s25),(5,.ptr 5 0 0),(6,.I s39)] [(5,vR (z8.Pv v36.Val) 6),(1,vR (c9.Pv a0) 3)]) W λs39 x40 h hx37=>b9<|S4 3 J ?_
       refine cN h (λhc h=>?_) λhc h=>?_
       ·refine a8 ?_
        refine b9<|b7<|dr [] Ty.K8 (by kernel_rfl) (by kernel_rfl)<|S7 3 J<|l7 h λv41 hv38 h=>d0 J (p9 (f:=j6.Pv) (cs:=j6.Pc v41) hv38 J J Ty.e37 Ty.a1C J J) J<|S7 1 J<|l7 h λv42 hv39 h=>d2 J (y5 J a9Z J hv39) J<|S7 1 J<|m7 J (λhg _ hN=>oF J Ty.a9l J) J<|s6 J (λhg=>oS (ct hg) J J Ty.a37 J) J<|m7 J (λhg _ hN=>mI J) J<|s6 J (λhg=>p9 (f:=j6.Pv) (cs:=j6.Pc v41) hv38 (ct hg) (ct hg) Ty.e37 Ty.a1C J J) J<|m7 J (λhg _ hN=>z6 (ct hg) Ty.a6C J) J<|m7 J (λhg _ hN=>z6 (ct hg) Ty.b2C J) J<|s6 J (λhg=>B1 (ct hg) Ty.a3 J) J<|m7 J (λhg _ hN=>oF J Ty.b2C J) J<|s6 J (λhg=>oS (ct hg) J J Ty.a3 J) J<|m7 J (λhg _ hN=>j8 (ct hg) (ct hg) J) J<|d7 J (λ_ hN=>k7 J J J (λq=>H0 q)) J<|F6 ?_
        refine cN h (λhc h=>?_) λhc h=>?_
        ·refine S4 1 J ?_
         refine a6 ?_
         have h:=xL hx37 h
         have h:=xL hx24 h
         cases h
         exact f1
        ·refine a8 ?_
         refine S6 3 J ?_
         exact eL h W
       ·refine g8 ?_
        refine a7<|a7<|c4 ?_
        have h:=xL hx37 h
        exact eJ h W
   ·refine g8 ?_
    refine a7<|a7<|c4 ?_
    have h:=xL hx24 h
    exact eJ h W

theorem a61{a0 a1}:PO Tryz.prog 157 [.L c7.Pv a0,.I a1] (a0Z a0 a1) λr=>.I r:=by
 refine pO Tryz.func157 λr h _ _=>?_
 refine S4 1 J ?_
 refine jq h (λ_=>St.of [] []) (λq6 h=>?_) λκ5 h=>?_
 ·refine S4 1 J ?_
  refine a6 ?_
  cases h
  exact f1
 ·refine S4 1 J ?_
  refine b7<|lq h (λs8=>St.of [(0,.L c7.Pv a0),(1,.I a1),(5,.I s8)] []) W λs8 x9 h hx8=>b9<|S3 2 J<|nL J Ty.e41<|S2 1 J ?_
  refine cN h (λhc h=>?_) λhc h=>?_
  ·refine a8 ?_
   refine b9<|b7<|S3 2 J<|iL h J J Ty.e41 Ty.a7l λv10 hv9 h=>S1 4 J<|b8 J (λhg=>om (d:=.L c7.Pv a0) J)<|b8 J (λhg=>mI J)<|b8 J (λhg=>p9 (f:=c7.Pv) (cs:=c7.Pc v10) hv9 (ct hg) (ct hg) Ty.e41 Ty.a7l J J)<|b8 J (λhg=>z6 (ct hg) Ty.c17 J)<|b8 J (λhg=>B1 (ct hg) Ty.a3 J)<|b8 J (λhg=>mI J)<|b8 J (λhg=>j8 (ct hg) (ct hg) J)<|y0 J (k7 J J J (λq=>H0 q))<|yN ?_
   refine cN h (λhc h=>?_) λhc h=>?_
   ·refine S4 2 J ?_
    refine a6 ?_
    have h:=xL hx8 h
    cases h
    exact f1
   ·refine a8 ?_
    refine S6 3 J ?_
    exact eL h W
  ·refine g8 ?_
   refine a7<|a7<|c4 ?_
   have h:=xL hx8 h
   exact eJ h W

theorem b7E{a0 a1}:PO Tryz.prog 158 [.I a0,.I a1] (b3e a0 a1) λr=>.I r:=by
 refine pO Tryz.func158 λr h _ _=>?_
 refine S4 1 J<|b9<|S4 2 J ?_
 refine cN h (λhc h=>?_) λhc h=>?_
 ·refine S4 1 J ?_
  refine a6 ?_
  cases h
  exact f1
 ·refine a8 ?_
  refine S3 4 J<|l7 h λv1 hv1 h=>y0 J (a4D J J hv1)<|S2 1 J<|b9<|S4 2 J ?_
  refine cN h (λhc h=>?_) λhc h=>?_
  ·refine S6 4 J ?_
   refine S4 2 J<|a6 ?_
   cases h
   exact f1
  ·refine a8 ?_
   refine S4 2 J<|a6 ?_
   cases h
   exact f1

theorem b56{a0}:PO Tryz.prog 81 [.L c7.Pv a0] (a7K a0) λr=>.bool r:=by
 refine pO Tryz.func81 λr h _ _=>?_
 refine S4 1 J<|S3 1 J<|nL J Ty.e41<|S2 1 J<|b9<|S3 3 J<|b8 J (λhg=>mI J)<|b8 J (λhg=>j8 (ct hg) J J)<|y0 J (n8 J J J (λq=>H5 q))<|yN ?_
 refine cN h (λhc h=>?_) λhc h=>?_
 ·refine S4 1 J ?_
  refine a6 ?_
  cases h
  exact f1
 ·refine a8 ?_
  refine jq h (λ_=>St.of [] []) (λq23 h=>?_) λκ22 h=>?_
  ·refine S4 1 J ?_
   refine a6 ?_
   cases h
   exact f1
  ·refine S4 1 J ?_
   refine b7<|lq h (λs25=>St.of [(0,.L c7.Pv a0),(3,.I (a0.length:Int)),(4,.I s25)] []) W λs25 x26 h hx24=>b9<|S4 3 J ?_
   refine cN h (λhc h=>?_) λhc h=>?_
   ·refine a8 ?_
    refine jq h (λ_=>St.of [(0,.L c7.Pv a0),(3,.I (a0.length:Int)),(4,.I s25)] []) (λq36 h=>?_) λκ35 h=>?_
    ·refine S6 3 J ?_
     exact eL h W
    ·refine b7 ?_
     refine S3 2 J<|iL h J J Ty.e41 Ty.a7l λv37 _ h=>S2 3 J<|b9<|S3 4 J<|b8 J (λhg=>oF J Ty.c16 J)<|b8 J (λhg=>oS (ct hg) J J Ty.a3 J)<|b8 J (λhg=>j8 (ct hg) J J)<|y0 J (n8 J J J (λq=>H5 q))<|S1 1 J<|b8 J (λhg=>oF J Ty.c16 J)<|b8 J (λhg=>oS (ct hg) J J Ty.a3 J)<|b8 J (λhg=>j8 (ct hg) J J)<|b8 J (λhg=>om (d:=.bool (v37.State != 1)) (ct hg))<|b8 (n7 J J J) (λhg=>oF J Ty.c17 J)<|b8 (n7 J J J) (λhg=>oS (ct hg) J J Ty.a3 J)<|b8 (n7 J J J) (λhg=>j8 (ct hg) J J)<|b8 (n7 J J J) (λhg=>om (d:=.bool (v37.Key != 0)) (ct hg))<|b8 (n7 J J J) (λhg=>oF J Ty.c6v J)<|b8 (n7 J J J) (λhg=>oS (ct hg) J J Ty.a3 J)<|b8 (n7 J J J) (λhg=>j8 (ct hg) J J)<|b8 (n7 J J J) (λhg=>n8 (ct hg) J J (λq=>a1j hg (H5 q)))<|b8 J (λhg=>k7 (ct hg) J J (λq=>a1j hg (H0 q)))<|y0 J (n8 J J J (λq=>H5 q))<|yN ?_
     refine cN h (λhc h=>?_) λhc h=>?_
     ·refine S4 1 J ?_
      refine a6 ?_
      have h:=xL hx24 h
      cases h
      exact f1
     ·refine a8 ?_
      refine b9<|S4 3 J ?_
      refine cN h (λhc h=>?_) λhc h=>?_
      ·refine g8 ?_
       refine a7<|c4 ?_
       exact eJ h W
      ·refine a8 ?_
       refine b9<|S3 3 J<|cA h a61 J J λv38 _ h=>S2 2 J ?_
       refine cN h (λhc h=>?_) λhc h=>?_
       ·refine S4 1 J ?_
        refine a6 ?_
        have h:=xL hx24 h
        cases h
        exact f1
       ·refine a8 ?_
        refine S3 3 J<|cA h b7E J J λv39 _ h=>S2 1 J<|b7<|lq h (λs41=>St.of [(0,.L c7.Pv a0),(3,.I (a0.length:Int)),(4,.I s25),(6,.I s41)] []) W λs41 x42 h hx39=>b9<|S4 3 J ?_
        refine cN h (λhc h=>?_) λhc h=>?_
        ·refine a8 ?_
         refine b9<|b7<|S3 2 J<|iL h J J Ty.e41 Ty.a7l λv43 _ h=>S2 3 J ?_
         refine cN h (λhc h=>?_) λhc h=>?_
         ·refine S4 1 J ?_
          refine a6 ?_
          have h:=xL hx39 h
          have h:=xL hx24 h
          cases h
          exact f1
         ·refine a8 ?_
          refine S5 3 J<|l7 h λv44 hv41 h=>y0 J (a4D J J hv41)<|S2 1 J ?_
          exact eL h W
        ·refine g8 ?_
         refine a7<|a7<|c4 ?_
         have h:=xL hx39 h
         exact eJ h W
   ·refine g8 ?_
    refine a7<|a7<|c4 ?_
    have h:=xL hx24 h
    exact eJ h W

theorem a6X{a0 a1}:PO Tryz.prog 92 [.I a0,.I a1] (a3k a0 a1) λr=>.I r:=by
 refine pO Tryz.func92 λr h _ _=>?_
 refine S4 1 J<|b9<|S3 3 J<|b8 J (λhg=>mI J)<|b8 J (λhg=>j8 (ct hg) J J)<|y0 J (n8 J J J (λq=>H5 q))<|S1 1 J<|b8 J (λhg=>mI J)<|b8 J (λhg=>j8 (ct hg) J J)<|y0 J (n8 J J J (λq=>H5 q))<|S1 1 J<|b8 J (λhg=>mI J)<|b8 J (λhg=>j8 (ct hg) J J)<|y0 J (n8 J J J (λq=>H5 q))<|yN ?_
 refine cN h (λhc h=>?_) λhc h=>?_
 ·refine S4 1 J ?_
  refine a6 ?_
  cases h
  exact f1
 ·refine a8 ?_
  refine S4 6 J<|a6 ?_
  cases h
  exact f1

theorem a9S{a0}:PO Tryz.prog 302 [.I a0] (a4H a0) λr=>.bool r:=by
 refine pO Tryz.func302 λr h _ _=>?_
 refine S4 1 J<|b9<|S3 3 J<|b8 J (λhg=>mI J)<|b8 J (λhg=>j8 (ct hg) J J)<|y0 J (n8 J J J (λq=>H5 q))<|yN ?_
 refine cN h (λhc h=>?_) λhc h=>?_
 ·refine S4 1 J ?_
  refine a6 ?_
  cases h
  exact f1
 ·refine a8 ?_
  refine S3 2 J<|l7 h λv1 hv1 h=>y0 J (a4D J J hv1)<|S1 2 J<|l7 h λv2 hv2 h=>y0 J (a4D J J hv2)<|cA h a6X J J λv3 _ h=>S2 3 J<|a6 ?_
  cases h
  exact f1

theorem b1t{a0}:PO Tryz.prog 235 [.I a0] (a6Y a0) λr=>.I r:=by
 refine pO Tryz.func235 λr h _ _=>?_
 refine S4 1 J<|b9<|S3 1 J<|cA h a9S J J λv1 _ h=>S2 1 J ?_
 refine cN h (λhc h=>?_) λhc h=>?_
 ·refine S4 1 J ?_
  refine a6 ?_
  cases h
  exact f1
 ·refine a8 ?_
  refine S3 2 J<|l7 h λv2 hv2 h=>y0 J (a4D J J hv2)<|S2 1 J<|a6 ?_
  cases h
  exact f1

theorem b81{a0}:PO Tryz.prog 236 [.I a0] (b2d a0) λr=>.I r:=by
 refine pO Tryz.func236 λr h _ _=>?_
 refine S4 1 J<|b9<|S3 1 J<|cA h a9S J J λv1 _ h=>S2 1 J ?_
 refine cN h (λhc h=>?_) λhc h=>?_
 ·refine S4 1 J ?_
  refine a6 ?_
  cases h
  exact f1
 ·refine a8 ?_
  refine S3 2 J<|l7 h λv2 hv2 h=>y0 J (a4D J J hv2)<|S2 1 J<|a6 ?_
  cases h
  exact f1

theorem V2{a0 a1}:PO Tryz.prog 161 [z7.Pv a0,.I a1] (L1 a0 a1) λr=>.tup [.I r.1,.I r.2]:=by
 refine pO Tryz.func161 λr h _ _=>?_
 refine S4 3 J<|b9<|S4 2 J ?_
 refine cN h (λhc h=>?_) λhc h=>?_
 ·refine S4 2 J ?_
  refine a6 ?_
  cases h
  exact f2
 ·refine a8 ?_
  refine S3 1 J<|cA h b1t J J λv1 _ h=>S2 1 J<|b9<|S3 3 J<|b8 J (λhg=>mI J)<|b8 J (λhg=>oF J Ty.c6x J)<|b8 J (λhg=>oS (ct hg) J J Ty.c9m J)<|b8 J (λhg=>D6 (f:=r8.Pv) (ct hg) Ty.a6x)<|b8 J (λhg=>j8 (ct hg) (ct hg) J)<|y0 J (n8 J J J (λq=>H5 q))<|yN ?_
  refine cN h (λhc h=>?_) λhc h=>?_
  ·refine S4 2 J ?_
   refine a6 ?_
   cases h
   exact f2
  ·refine a8 ?_
   refine S3 3 J<|iL h J J Ty.a6x Ty.a84 λv2 _ h=>S2 3 J<|b9<|dr [] Ty.K8 (by kernel_rfl) (by kernel_rfl)<|S7 3 J<|l7 h λv3 hv3 h=>d2 J (y5 J b81 J hv3) J<|S7 2 J<|m7 J (λhg _ hN=>oF J Ty.b8y J) J<|s6 J (λhg=>oS (ct hg) J J Ty.a3 J) J<|m7 J (λhg _ hN=>j8 (ct hg) J J) J<|m7 J (λhg _ hN=>om (d:=.bool (v2.State != 1)) (ct hg)) J<|m7 (n7 J J J) (λhg _ hN=>oF J Ty.b8y J) J<|s6 (n7 J J J) (λhg=>oS (ct hg) J J Ty.a3 J) J<|m7 (n7 J J J) (λhg _ hN=>j8 (ct hg) J J) J<|m7 J (λhg _ hN=>k7 (ct hg) J J (λq=>a1j hg (H0 q))) J<|d7 J (λ_ hN=>n8 J J J (λq=>H5 q)) J<|F6 ?_
   refine cN h (λhc h=>?_) λhc h=>?_
   ·refine S4 2 J ?_
    refine a6 ?_
    cases h
    exact f2
   ·refine a8 ?_
    refine S4 3 J<|a6 ?_
    cases h
    exact f2

theorem b3a{a0 a1}:PO Tryz.prog 94 [z7.Pv a0,.I a1] (a9T a0 a1) λr=>.tup [.I r.1,.I r.2]:=by
 refine pO Tryz.func94 λr h _ _=>?_
 refine S4 3 J<|S3 2 J<|cA h V2 J J λv1 _ h=>S2 5 J<|b9<|S4 2 J ?_
 refine cN h (λhc h=>?_) λhc h=>?_
 ·refine S4 3 J ?_
  refine a6 ?_
  cases h
  exact f2
 ·refine a8 ?_
  refine b9<|S3 3 J<|iL h J J Ty.a6x Ty.a84 λv2 hv2 h=>S2 3 J ?_
  refine cN h (λhc h=>?_) λhc h=>?_
  ·refine S4 2 J ?_
   refine a6 ?_
   cases h
   exact f2
  ·refine a8 ?_
   refine S3 3 J<|y0 J (p9 (f:=r8.Pv) (cs:=r8.Pc v2) hv2 J J Ty.a6x Ty.a84 J J)<|S2 4 J<|a6 ?_
   cases h
   exact f2

theorem B9{a0 a1}:PO Tryz.prog 37 [c9.Pv a0,.I a1] (E2 a0 a1) λr=>.tup [z8.Pv r.1,.I r.2]:=by
 refine pO Tryz.func37 λr h _ _=>?_
 refine S4 3 J<|S3 1 J<|cF h M6 J J λv1 _ h=>S1 1 J<|cA h b3a J J λv2 _ h=>S2 5 J<|b9<|S4 2 J ?_
 refine cN h (λhc h=>?_) λhc h=>?_
 ·refine sR ?_
  refine y0 J (l6 (cs:=[.I 0,.I 0,.I 0,.I 0,.bool false,.nl]) J Ty.p62 Ty.z62 J J J)<|S1 1 J<|a6f (x':=.agg [.I 0,.I 0,.I 0,.I 0,.bool false,.nl]) (cl':=true) J J (.inl J) Ty.s62<|S2 1 J<|a6 ?_
  cases h
  exact⟨J,[_,_],⟨oL J J J Ty.a62 Ty.s62 nl J,⟨J,tr⟩⟩,J,io⟩
 ·refine a8 ?_
  refine S3 3 J<|iL h J J Ty.e37 Ty.a1C λv3 _ h=>S2 4 J<|a6 ?_
  cases h
  exact⟨J,[_,_],⟨oL J J J Ty.a62 Ty.s62 nl J,⟨J,tr⟩⟩,J,io⟩

theorem b6c{a0}:PO Tryz.prog 82 [c5.Pv a0] (a7P a0) λr=>.bool r:=by
 refine pO Tryz.func82 λr h _ _=>?_
 refine S4 2 J ?_
 refine jq h (λ_=>St.of [(1,.ptr 1 0 0)] [(1,vR (c5.Pv a0) 8)]) (λq31 h=>?_) λκ30 h=>?_
 ·refine S3 5 J ?_
  refine b8 J (λhg=>oF J Ty.b6S J)<|b8 J (λhg=>oF (ct hg) Ty.b6R J)<|b8 J (λhg=>oS (ct hg) J J Ty.a42 J)<|b8 J (λhg=>D6 (f:=m9.Pv) (ct hg) Ty.e42)<|b8 J (λhg=>j8 (ct hg) J J)<|y0 J (k7 J J J (λq=>H0 q))<|S2 1 J<|a6 ?_
  cases h
  exact f1
 ·refine S4 1 J ?_
  refine b7<|lq h (λs33=>St.of [(1,.ptr 1 0 0),(3,.I s33)] [(1,vR (c5.Pv a0) 8)]) W λs33 x34 h hx30=>b9<|S3 4 J<|nL J Ty.e42<|S2 1 J ?_
  refine cN h (λhc h=>?_) λhc h=>?_
  ·refine a8 ?_
   refine jq h (λ_=>St.of [(1,.ptr 1 0 0),(3,.I s33)] [(1,vR (c5.Pv a0) 8)]) (λq48 h=>?_) λκ47 h=>?_
   ·refine S6 3 J ?_
    exact eL h W
   ·refine b7 ?_
    refine S3 4 J<|iL h J J Ty.e42 Ty.s85 λv49 _ h=>S2 3 J<|b9<|S3 4 J<|b8 J (λhg=>oF J Ty.c5J J)<|b8 J (λhg=>oS (ct hg) J J Ty.a3 J)<|b8 J (λhg=>j8 (ct hg) J J)<|y0 J (k7 J J J (λq=>H0 q))<|S1 1 J<|b8 J (λhg=>oF J Ty.c5K J)<|b8 J (λhg=>oS (ct hg) J J Ty.a3 J)<|b8 J (λhg=>j8 (ct hg) J J)<|y0 J (n8 J J J (λq=>H5 q))<|S1 1 J<|b8 J (λhg=>oF J Ty.c5K J)<|b8 J (λhg=>oS (ct hg) J J Ty.a3 J)<|b8 J (λhg=>j8 (ct hg) J J)<|y0 J (n8 J J J (λq=>H5 q))<|yN ?_
    refine cN h (λhc h=>?_) λhc h=>?_
    ·refine S4 1 J ?_
     refine a6 ?_
     have h:=xL hx30 h
     cases h
     exact f1
    ·refine a8 ?_
     refine jq h (λ_=>St.of [(1,.ptr 1 0 0),(3,.I s33),(4,.ptr 4 0 0)] [(4,vR (m9.Pv v49) 3),(1,vR (c5.Pv a0) 8)]) (λq55 h=>?_) λκ54 h=>?_
     ·refine S3 4 J ?_
      refine cF h B9 J J λv56 _ h=>S2 6 J<|S3 4 J<|b8 J (λhg=>mI J)<|b8 J (λhg=>j8 (ct hg) J J)<|b8 J (λhg=>om (d:=.bool (v56.2 != 0)) (ct hg))<|b8 (n7 J J J) (λhg=>oF J Ty.b4D J)<|b8 (n7 J J J) (λhg=>oS (ct hg) J J Ty.a4 J)<|b8 (n7 J J J) (λhg=>J7 (ct hg) J)<|b8 J (λhg=>n8 (ct hg) J J (λq=>a1j hg (H5 q)))<|y0 J (k7 J J J (λq=>H0 q))<|S1 1 J<|b8 J (λhg=>oF J Ty.c5J J)<|b8 J (λhg=>oS (ct hg) J J Ty.a3 J)<|b8 J (λhg=>j8 (ct hg) J J)<|b8 J (λhg=>om (d:=.bool (v49.Kind==2)) (ct hg))<|b8 (n7 J J J) (λhg=>oF J Ty.b6V J)<|b8 (n7 J J J) (λhg=>oS (ct hg) J J Ty.a3 J)<|b8 (n7 J J J) (λhg=>j8 (ct hg) J J)<|b8 (n7 J J J) (λhg=>om (d:=.bool (decide (v49.At<0))) (ct hg))<|b8 (n7 J J J) (λhg=>oF J Ty.b6V J)<|b8 (n7 J J J) (λhg=>oS (ct hg) J J Ty.a3 J)<|b8 (n7 J J J) (λhg=>j8 (ct hg) J J)<|b8 (n7 J J J) (λhg=>n8 (ct hg) J J (λq=>a1j hg (H5 q)))<|b8 J (λhg=>k7 (ct hg) J J (λq=>a1j hg (H0 q)))<|y0 J (n8 J J J (λq=>H5 q))<|yN ?_
      refine cN h (λhc h=>?_) λhc h=>?_
      ·refine S4 1 J ?_
       refine a6 ?_
       have h:=xL hx30 h
       cases h
       exact f1
      ·refine a8 ?_
       exact eJ h W
     ·refine S4 1 J ?_
      refine b7<|lq h (λs58=>St.of [(1,.ptr 1 0 0),(3,.I s33),(4,.ptr 4 0 0),(5,.I s58)] [(4,vR (m9.Pv v49) 3),(1,vR (c5.Pv a0) 8)]) W λs58 x59 h hx52=>b9<|S4 3 J ?_
      refine cN h (λhc h=>?_) λhc h=>?_
      ·refine a8 ?_
       refine b9<|b7<|dr [] Ty.K8 (by kernel_rfl) (by kernel_rfl)<|S7 4 J<|l7 h λv60 hv53 h=>d0 J (p9 (f:=m9.Pv) (cs:=m9.Pc v60) hv53 J J Ty.e42 Ty.s85 J J) J<|S7 6 J<|m7 J (λhg _ hN=>oF J Ty.b6S J) J<|m7 J (λhg _ hN=>oF (ct hg) Ty.b6R J) J<|s6 J (λhg=>oS (ct hg) J J Ty.a42 J) J<|m7 J (λhg _ hN=>mI J) J<|s6 J (λhg=>p9 (f:=m9.Pv) (cs:=m9.Pc v60) hv53 (ct hg) (ct hg) Ty.e42 Ty.s85 J J) J<|m7 J (λhg _ hN=>z6 (ct hg) Ty.b6V J) J<|s6 J (λhg=>B1 (ct hg) Ty.a3 J) J<|m7 J (λhg _ hN=>oF J Ty.b6V J) J<|s6 J (λhg=>oS (ct hg) J J Ty.a3 J) J<|m7 J (λhg _ hN=>j8 (ct hg) (ct hg) J) J<|d7 J (λ_ hN=>k7 J J J (λq=>H0 q)) J<|F6 ?_
       refine cN h (λhc h=>?_) λhc h=>?_
       ·refine S4 1 J ?_
        refine a6 ?_
        have h:=xL hx52 h
        have h:=xL hx30 h
        cases h
        exact f1
       ·refine a8 ?_
        refine S6 3 J ?_
        exact eL h W
      ·refine g8 ?_
       refine a7<|a7<|c4 ?_
       have h:=xL hx52 h
       exact eJ h W
  ·refine g8 ?_
   refine a7<|a7<|c4 ?_
   have h:=xL hx30 h
   exact eJ h W

theorem W9{a0 a1}:PO Tryz.prog 153 [c5.Pv a0,.I a1] (W8 a0 a1) λr=>.bool r:=by
 refine pO Tryz.func153 λr h _ _=>?_
 refine S4 2 J<|S3 3 J<|cF h B9 J J λv1 _ h=>S2 6 J<|S4 3 J<|a6 ?_
 cases h
 exact f1

theorem b0d{a0 a1}:PO Tryz.prog 159 [c5.Pv a0,.I a1] (a2V a0 a1) λr=>.bool r:=by
 refine pO Tryz.func159 λr h _ _=>?_
 unfold a2V at h
 refine S4 2 J<|S3 3 J<|b8 J (λhg=>oL J J J Ty.a46 Ty.s46 nl J)<|b8 J (λhg=>mI J)<|l7 h λv1 hv1 h=>b8 J (λhg=>y5 J W9 (o8 (ct hg) (o8 (ct hg) J)) (u9 hv1 hg))<|y0 J (n8 J J J (λq=>H5 q))<|S2 1 J<|a6 ?_
 cases h
 exact f1

theorem b39{a0 a1}:PO Tryz.prog 93 [c9.Pv a0,.L iF a1] (a3l a0 a1) λr=>.L iF r:=by
 refine pO Tryz.func93 λr h _ _=>?_
 unfold a3l at h
 refine S4 2 J<|sR<|y0 J (A0 J Ty.p8 Ty.s3)<|S1 1 J<|l7 h λv1 hv1 h=>y1 J (a4C (f:=iF) hv1 J J (.inl ⟨_,J,J⟩) Ty.p8 Ty.s3 Ty.b3 Ty.z3 J (λ_=>J)) J<|S2 1 J ?_
 refine jq h (λj36=>St.of [(5,.sl 15)] [(15,⟨List.map iF j36,0,true,1,true⟩)]) (λj36 h=>?_) λκ35 h=>?_
 ·refine S4 2 J ?_
  refine a6 ?_
  cases h
  exact f1
 ·refine S4 1 J ?_
  refine b7<|lq h (λq=>St.of [(2,.ptr 2 0 0),(5,.sl 15),(6,.I q.1)] [(15,⟨List.map iF q.2,0,true,1,true⟩),(2,vR (c9.Pv a0) 3)]) W λq41 x40 h hx31=>?_
  obtain⟨s38,s39⟩:=q41
  refine b9<|S3 2 J<|y0 J (b4W (f:=iF) J J J Ty.p8)<|S2 1 J ?_
  refine cN h (λhc h=>?_) λhc h=>?_
  ·refine a8 ?_
   refine jq h (λj56=>St.of [(2,.ptr 2 0 0),(5,.sl 15),(6,.I s38)] [(15,⟨List.map iF j56,0,true,1,true⟩),(2,vR (c9.Pv a0) 3)]) (λj56 h=>?_) λκ55 h=>?_
   ·refine S6 3 J ?_
    exact eL h W
   ·refine b7 ?_
    refine S4 2 J<|b7<|lq h (λq=>St.of [(2,.ptr 2 0 0),(5,.sl 15),(6,.I s38),(7,.I q.1)] [(15,⟨List.map iF q.2,0,true,1,true⟩),(2,vR (c9.Pv a0) 3)]) W λq61 x60 h hx46=>?_
    obtain⟨s58,s59⟩:=q61
    refine b9<|S4 2 J ?_
    refine cN h (λhc h=>?_) λhc h=>?_
    ·refine a8 ?_
     refine b9<|b7<|dr [] Ty.K8 (by kernel_rfl) (by kernel_rfl)<|S7 1 J<|l7 h λv62 hv47 h=>Q7 J (n0 J M6 J hv47) J<|S7 3 J<|l7 h λv63 hv48 h=>d0 J (a0w (f:=iF) hv48 J J J J Ty.p8 Ty.s3 J) J<|d0 J (b1q (f:=iF) hv48 J J J Ty.a3 J) J<|l7 h λv64 hv49 h=>d2 J (y5 J V2 J hv49) J<|S8 5 J<|dr [] Ty.K8 (by kernel_rfl) (by kernel_rfl)<|S7 1 J<|Q7 J (n0 J M6 J hv47) J<|S7 2 J<|l7 h λv65 hv50 h=>d0 J (a0w (f:=iF) hv50 J J J J Ty.p8 Ty.s3 J) J<|d0 J (b1q (f:=iF) hv50 J J J Ty.a3 J) J<|l7 h λv66 hv51 h=>d2 J (y5 J V2 J hv51) J<|S8 5 J<|b9<|dr [] Ty.K8 (by kernel_rfl) (by kernel_rfl)<|S7 3 J<|m7 J (λhg _ hN=>mI J) J<|m7 J (λhg _ hN=>j8 (ct hg) J J) J<|d7 J (λ_ hN=>n8 J J J (λq=>H5 q)) J<|S7 1 J<|m7 J (λhg _ hN=>oF J Ty.a9l J) J<|s6 J (λhg=>oS (ct hg) J J Ty.a37 J) J<|m7 J (λhg _ hN=>mI J) J<|l7 h λv67 hv52 h=>s6 J (λhg=>p9 (f:=j6.Pv) (cs:=j6.Pc v67) (u9 hv52 hg) (ct hg) (ct hg) Ty.e37 Ty.a1C J J) J<|m7 J (λhg _ hN=>z6 (ct hg) Ty.a6C J) J<|m7 J (λhg _ hN=>z6 (ct hg) Ty.b2C J) J<|s6 J (λhg=>B1 (ct hg) Ty.a3 J) J<|m7 J (λhg _ hN=>oF J Ty.a9l J) J<|s6 J (λhg=>oS (ct hg) J J Ty.a37 J) J<|m7 J (λhg _ hN=>mI J) J<|l7 h λv68 hv53 h=>s6 J (λhg=>p9 (f:=j6.Pv) (cs:=j6.Pc v68) (u9 hv53 hg) (ct hg) (ct hg) Ty.e37 Ty.a1C J J) J<|m7 J (λhg _ hN=>z6 (ct hg) Ty.a6C J) J<|m7 J (λhg _ hN=>z6 (ct hg) Ty.b2C J) J<|s6 J (λhg=>B1 (ct hg) Ty.a3 J) J<|m7 J (λhg _ hN=>j8 (ct hg) (ct hg) J) J<|d7 J (λ_ hN=>n8 J J J (λq=>H5 q)) J<|F6 ?_
     refine cN h (λhc h=>?_) λhc h=>?_
     ·refine g8 ?_
      refine a7<|a2E (by decide)<|a7<|a7<|c4 ?_
      have h:=xL hx46 h
      exact eJ h W
     ·refine a8 ?_
      refine S3 2 J<|y0 J (a0w (f:=iF) hv50 J J J J Ty.p8 Ty.s3 J)<|y0 J (b1q (f:=iF) hv50 J J J Ty.a3 J)<|S2 1 J<|S3 5 J<|y0 J (a0w (f:=iF) hv48 J J J J Ty.p8 Ty.s3 J)<|y0 J (b1q (f:=iF) hv48 J J J Ty.a3 J)<|y0 J (a0w (f:=iF) hv50 J J J J Ty.p8 Ty.s3 J)<|a6e (f:=iF) (v:=v63) hv50 J J (.inl J) Ty.s3<|yN<|S5 4 J<|l7 h λv69 hv54 h=>y0 J (a0w (f:=iF) hv54 J J J J Ty.p8 Ty.s3 J)<|a6e (f:=iF) (v:=v65) hv54 J J (.inl J) Ty.s3<|yN<|S6 3 J ?_
      exact eL h W
    ·refine g8 ?_
     refine a7<|a7<|c4 ?_
     have h:=xL hx46 h
     exact eJ h W
  ·refine g8 ?_
   refine a7<|a7<|c4 ?_
   have h:=xL hx31 h
   exact eJ h W

theorem E7{a0}:PO Tryz.prog 36 [c9.Pv a0] (I5 a0) λr=>.L iF r:=by
 refine pO Tryz.func36 λr h _ _=>?_
 refine S4 2 J<|sR<|y0 J (A0 J Ty.p8 Ty.s3)<|S2 1 J ?_
 refine jq h (λj15=>St.of [(1,.ptr 1 0 0),(3,.sl 910003)] [(910003,⟨List.map iF j15,(List.map iF j15).length,true,1,true⟩),(1,vR (c9.Pv a0) 3)]) (λj15 h=>?_) λκ14 h=>?_
 ·refine S3 2 J ?_
  obtain⟨v16,hv12,h⟩:=a5Y h
  refine ycL J (n0 J b39 J hv12) J<|S2 1 J<|a6 ?_
  cases h
  exact f1
 ·refine S4 1 J ?_
  refine b7<|lq h (λq=>St.of [(1,.ptr 1 0 0),(3,.sl 910003),(4,.I q.1)] [(1,vR (c9.Pv a0) 3),(910003,⟨List.map iF q.2,(List.map iF q.2).length,true,1,true⟩)]) (Wk.trans (B2 (t:=3) (l:=920003) (z:=1) J J) (WP (λl=>if l=910003 then 920003 else l))) λq21 x20 h hx15=>?_
  obtain⟨s18,s19⟩:=q21
  refine b9<|S3 3 J<|nL J Ty.e37<|S2 1 J ?_
  refine cN h (λhc h=>?_) λhc h=>?_
  ·refine a8 ?_
   refine jq h (λj26=>St.of [(1,.ptr 1 0 0),(3,.sl 30),(4,.I s18)] [(30,⟨List.map iF j26,(List.map iF j26).length,true,1,true⟩),(1,vR (c9.Pv a0) 3)]) (λj26 h=>?_) λκ25 h=>?_
   ·refine S6 3 J ?_
    exact eL h (Wk.trans (g7 _ [30]) (WP (λl=>if l=910003 then 30 else l)))
   ·refine b7 ?_
    refine S3 3 J<|iL h J J Ty.e37 Ty.a1C λv27 hv20 h=>S2 3 J ?_
    refine cN h (λhc h=>?_) λhc h=>?_
    ·refine S5 5 J ?_
     refine y0 J (p9 (f:=j6.Pv) (cs:=j6.Pc v27) hv20 J J Ty.e37 Ty.a1C J J)<|S1 2 J<|cA h a6X J J λv28 _ h=>y0 J (F1 (f:=iF) (l:=[v28]) J Ty.p8 Ty.s3 Ty.z3 J J nl J J)<|l7 h λv29 hv22 h=>D7 J (B6 (f:=iF) hv22 J J J J J J (.inl ⟨_,J,J⟩) Ty.p8 Ty.s3 Ty.b3 Ty.z3 J (λ_=>J)) J J J<|S2 1 J ?_
     exact eJ h (Wk.trans (g7 _ [30]) W)
    ·refine a8 ?_
     exact eJ h (Wk.trans (g7 _ [910003]) (WP (λl=>if l=30 then 910003 else l)))
  ·refine g8 ?_
   refine a7<|a7<|c4 ?_
   have h:=xL hx15 h
   exact eJ h (Wk.trans (g7 _ [910003]) W)

theorem b7F{a0}:PO Tryz.prog 233 [.L c7.Pv a0] (a93 a0) λr=>.L iF r:=by
 refine pO Tryz.func233 λr h _ _=>?_
 refine S4 1 J<|sR<|y0 J (A0 J Ty.p8 Ty.s3)<|S2 1 J ?_
 refine jq h (λj13=>St.of [(3,.sl 910003)] [(910003,⟨List.map iF j13,(List.map iF j13).length,true,1,true⟩)]) (λj13 h=>?_) λκ12 h=>?_
 ·refine S4 2 J ?_
  refine a6 ?_
  cases h
  exact f1
 ·refine S4 1 J ?_
  refine b7<|lq h (λq=>St.of [(0,.L c7.Pv a0),(3,.sl 910003),(4,.I q.1)] [(910003,⟨List.map iF q.2,(List.map iF q.2).length,true,1,true⟩)]) (Wk.trans (B2 (t:=3) (l:=920003) (z:=1) J J) (WP (λl=>if l=910003 then 920003 else l))) λq18 x17 h hx12=>?_
  obtain⟨s15,s16⟩:=q18
  refine b9<|S3 2 J<|nL J Ty.e41<|S2 1 J ?_
  refine cN h (λhc h=>?_) λhc h=>?_
  ·refine a8 ?_
   refine jq h (λj22=>St.of [(0,.L c7.Pv a0),(3,.sl 25),(4,.I s15)] [(25,⟨List.map iF j22,(List.map iF j22).length,true,1,true⟩)]) (λj22 h=>?_) λκ21 h=>?_
   ·refine S6 3 J ?_
    exact eL h (Wk.trans (g7 _ [25]) (WP (λl=>if l=910003 then 25 else l)))
   ·refine b7 ?_
    refine S3 2 J<|iL h J J Ty.e41 Ty.a7l λv23 hv16 h=>S2 3 J ?_
    refine cN h (λhc h=>?_) λhc h=>?_
    ·refine S5 3 J ?_
     refine y0 J (p9 (f:=c7.Pv) (cs:=c7.Pc v23) hv16 J J Ty.e41 Ty.a7l J J)<|S1 2 J<|y0 J (F1 (f:=iF) (l:=[v23.Key]) J Ty.p8 Ty.s3 Ty.z3 J J nl J J)<|l7 h λv24 hv17 h=>D7 J (B6 (f:=iF) hv17 J J J J J J (.inl ⟨_,J,J⟩) Ty.p8 Ty.s3 Ty.b3 Ty.z3 J (λ_=>J)) J J J<|S2 1 J ?_
     exact eJ h (Wk.trans (g7 _ [25]) W)
    ·refine a8 ?_
     exact eJ h (Wk.trans (g7 _ [910003]) (WP (λl=>if l=25 then 910003 else l)))
  ·refine g8 ?_
   refine a7<|a7<|c4 ?_
   have h:=xL hx12 h
   exact eJ h (Wk.trans (g7 _ [910003]) W)

theorem b84{a0 a1}:PO Tryz.prog 234 [.L c7.Pv a0,.I a1] (b2f a0 a1) λr=>.tup [.I r.1,.I r.2]:=by
 refine pO Tryz.func234 λr h _ _=>?_
 refine S4 2 J<|S3 2 J<|cA h a61 J J λv1 _ h=>S2 1 J<|b9<|S4 2 J ?_
 refine cN h (λhc h=>?_) λhc h=>?_
 ·refine S4 2 J ?_
  refine a6 ?_
  cases h
  exact f2
 ·refine a8 ?_
  refine S3 2 J<|iL h J J Ty.e41 Ty.a7l λv2 _ h=>S2 4 J<|a6 ?_
  cases h
  exact f2

theorem a5G{a0}:PO Tryz.prog 160 [.L c7.Pv a0] (a2U a0) λr=>.L u5.Pv r:=by
 refine pO Tryz.func160 λr h _ _=>?_
 refine S4 1 J<|sR<|y0 J (A0 J Ty.b0G Ty.b4i)<|S2 1 J<|S3 1 J<|cF h b7F J J λv1 _ h=>S2 1 J ?_
 refine jq h (λj11=>St.of [(3,.sl 910003)] [(910003,⟨List.map u5.Pv j11,(List.map u5.Pv j11).length,true,2,true⟩)]) (λj11 h=>?_) λκ10 h=>?_
 ·refine S4 2 J ?_
  refine a6 ?_
  cases h
  exact f1
 ·refine S4 1 J ?_
  refine b7<|lq h (λq=>St.of [(0,.L c7.Pv a0),(3,.sl 910003),(4,.L iF v1),(5,.I q.1)] [(910003,⟨List.map u5.Pv q.2,(List.map u5.Pv q.2).length,true,2,true⟩)]) (Wk.trans (B2 (t:=3) (l:=920003) (z:=2) J J) (WP (λl=>if l=910003 then 920003 else l))) λq16 x15 h hx11=>?_
  obtain⟨s13,s14⟩:=q16
  refine b9<|S3 2 J<|nL J Ty.p8<|S2 1 J ?_
  refine cN h (λhc h=>?_) λhc h=>?_
  ·refine a8 ?_
   refine b9<|b7<|S3 3 J<|iL h J J Ty.p8 Ty.s3 λv17 hv12 h=>S1 1 J<|cA h b84 J J λv18 _ h=>S2 5 J<|S5 3 J<|y0 J (p9 (f:=iF) (cs:=[.I v17]) hv12 J J Ty.p8 Ty.s3 J J)<|S1 2 J<|y0 J (l6 (cs:=[.I v17,.I v18.1]) J Ty.c9M Ty.c7R J J J)<|y0 J (F1 (f:=u5.Pv) (l:=[(⟨v17,v18.1⟩:u5)]) J Ty.b0G Ty.b4i Ty.c7R J J nl J J)<|l7 h λv19 hv14 h=>D7 J (B6 (f:=u5.Pv) hv14 J J J J J J (.inl ⟨_,J,J⟩) Ty.b0G Ty.b4i Ty.c9q Ty.c7R J (λ_=>J)) J J J<|S2 1 J<|S6 3 J ?_
   exact eL h (Wk.trans (g7 _ [34]) (WP (λl=>if l=910003 then 34 else l)))
  ·refine g8 ?_
   refine a7<|a7<|c4 ?_
   have h:=xL hx11 h
   exact eJ h (Wk.trans (g7 _ [910003]) W)

theorem b6b{a0}:PO Tryz.prog 83 [c5.Pv a0] (a7O a0) λr=>.bool r:=by
 refine pO Tryz.func83 λr h _ _=>?_
 refine S4 2 J ?_
 refine jq h (λ_=>St.of [(1,.ptr 1 0 0)] [(1,vR (c5.Pv a0) 8)]) (λq7 h=>?_) λκ6 h=>?_
 ·refine S3 2 J ?_
  refine cF h E7 J J λv8 _ h=>S2 1 J ?_
  refine jq h (λ_=>St.of [(1,.ptr 1 0 0)] [(1,vR (c5.Pv a0) 8)]) (λq29 h=>?_) λκ28 h=>?_
  ·refine S3 2 J ?_
   refine cF h a5G J J λv30 _ h=>S2 1 J ?_
   refine jq h (λ_=>St.of [] []) (λq38 h=>?_) λκ37 h=>?_
   ·refine S4 1 J ?_
    refine a6 ?_
    cases h
    exact f1
   ·refine S4 1 J ?_
    refine b7<|lq h (λs40=>St.of [(1,.ptr 1 0 0),(9,.L u5.Pv v30),(10,.I s40)] [(1,vR (c5.Pv a0) 8)]) W λs40 x41 h hx37=>b9<|S3 2 J<|nL J Ty.b0G<|S2 1 J ?_
    refine cN h (λhc h=>?_) λhc h=>?_
    ·refine a8 ?_
     refine b9<|b7<|dr [] Ty.K8 (by kernel_rfl) (by kernel_rfl)<|S7 3 J<|l7 h λv42 hv38 h=>d0 J (p9 (f:=u5.Pv) (cs:=u5.Pc v42) hv38 J J Ty.b0G Ty.b4i J J) J<|S7 2 J<|l7 h λv43 hv39 h=>d2 J (y5 J W9 J hv39) J<|S7 2 J<|s6 J (λhg=>oL J J J Ty.a46 Ty.s46 nl J) J<|m7 J (λhg _ hN=>om (d:=.L u5.Pv v30) J) J<|m7 J (λhg _ hN=>mI J) J<|s6 J (λhg=>p9 (f:=u5.Pv) (cs:=u5.Pc v42) hv38 (ct hg) (ct hg) Ty.b0G Ty.b4i J J) J<|m7 J (λhg _ hN=>z6 (ct hg) Ty.c2a J) J<|s6 J (λhg=>B1 (ct hg) Ty.a3 J) J<|l7 h λv44 hv40 h=>X7 J (λhg=>y5 J W9 (o8 (ct hg) (o8 (ct hg) J)) (u9 hv40 hg)) J<|m7 J (λhg _ hN=>J7 (ct hg) J) J<|d7 J (λ_ hN=>n8 J J J (λq=>H5 q)) J<|F6 ?_
     refine cN h (λhc h=>?_) λhc h=>?_
     ·refine S4 1 J ?_
      refine a6 ?_
      have h:=xL hx37 h
      cases h
      exact f1
     ·refine a8 ?_
      refine S6 3 J ?_
      exact eL h W
    ·refine g8 ?_
     refine a7<|a7<|c4 ?_
     have h:=xL hx37 h
     exact eJ h W
  ·refine S4 1 J ?_
   refine b7<|lq h (λs46=>St.of [(1,.ptr 1 0 0),(4,.L iF v8),(5,.I s46)] [(1,vR (c5.Pv a0) 8)]) W λs46 x47 h hx43=>b9<|S3 2 J<|nL J Ty.p8<|S2 1 J ?_
   refine cN h (λhc h=>?_) λhc h=>?_
   ·refine a8 ?_
    refine jq h (λ_=>St.of [(1,.ptr 1 0 0),(4,.L iF v8),(5,.I s46)] [(1,vR (c5.Pv a0) 8)]) (λq56 h=>?_) λκ55 h=>?_
    ·refine S6 3 J ?_
     exact eL h W
    ·refine b7 ?_
     refine dr [] Ty.K8 (by kernel_rfl) (by kernel_rfl)<|S7 4 J<|l7 h λv57 hv52 h=>d0 J (p9 (f:=iF) (cs:=[.I v57]) hv52 J J Ty.p8 Ty.s3 J J) J<|S7 1 J<|l7 h λv58 hv53 h=>Q7 J (n0 J B9 J hv53) J<|S7 4 J<|F0 (x':=z8.Pv v58.1) (cl':=true) J J (.inr J) Ty.s62<|S8 1 J<|S4 1 J<|b7<|lq h (λs60=>St.of [(1,.ptr 1 0 0),(4,.L iF v8),(5,.I s46),(6,.ptr 6 0 0),(8,.I s60)] [(6,vR (z8.Pv v58.1) 6),(1,vR (c5.Pv a0) 8)]) W λs60 x61 h hx56=>b9<|S3 3 J<|nL J Ty.p8<|S2 1 J ?_
     refine cN h (λhc h=>?_) λhc h=>?_
     ·refine a8 ?_
      refine b9<|b7<|dr [] Ty.K8 (by kernel_rfl) (by kernel_rfl)<|S7 4 J<|l7 h λv62 hv57 h=>d0 J (p9 (f:=iF) (cs:=[.I v62]) hv57 J J Ty.p8 Ty.s3 J J) J<|S7 1 J<|l7 h λv63 hv58 h=>d2 J (y5 J b0d J hv58) J<|S8 1 J ?_
      refine cN h (λhc h=>?_) λhc h=>?_
      ·refine S4 1 J ?_
       refine a6 ?_
       have h:=xL hx56 h
       have h:=xL hx43 h
       cases h
       exact f1
      ·refine a8 ?_
       refine S6 3 J ?_
       exact eL h W
     ·refine g8 ?_
      refine a7<|a7<|c4 ?_
      have h:=xL hx56 h
      exact eJ h W
   ·refine g8 ?_
    refine a7<|a7<|c4 ?_
    have h:=xL hx43 h
    exact eJ h W
 ·refine S4 1 J ?_
  refine b7<|lq h (λs65=>St.of [(1,.ptr 1 0 0),(3,.I s65)] [(1,vR (c5.Pv a0) 8)]) W λs65 x66 h hx61=>b9<|S3 3 J<|nL J Ty.p8<|S2 1 J ?_
  refine cN h (λhc h=>?_) λhc h=>?_
  ·refine a8 ?_
   refine b9<|b7<|dr [] Ty.K8 (by kernel_rfl) (by kernel_rfl)<|S7 4 J<|l7 h λv67 hv62 h=>d0 J (p9 (f:=iF) (cs:=[.I v67]) hv62 J J Ty.p8 Ty.s3 J J) J<|S7 1 J<|l7 h λv68 hv63 h=>d2 J (y5 J b0d J hv63) J<|S8 1 J ?_
   refine cN h (λhc h=>?_) λhc h=>?_
   ·refine S4 1 J ?_
    refine a6 ?_
    have h:=xL hx61 h
    cases h
    exact f1
   ·refine a8 ?_
    refine S6 3 J ?_
    exact eL h W
  ·refine g8 ?_
   refine a7<|a7<|c4 ?_
   have h:=xL hx61 h
   exact eJ h W

theorem b59{a0 a1}:PO Tryz.prog 162 [r7.Pv a0,.I a1] (a4O a0 a1) λr=>.bool r:=by
 refine pO Tryz.func162 λr h _ _=>?_
 refine S4 2 J ?_
 refine jq h (λ_=>St.of [] []) (λq6 h=>?_) λκ5 h=>?_
 ·refine S4 1 J ?_
  refine a6 ?_
  cases h
  exact f1
 ·refine S4 1 J ?_
  refine b7<|lq h (λs8=>St.of [(1,.I a1),(2,.ptr 2 0 0),(5,.I s8)] [(2,vR (r7.Pv a0) 2)]) W λs8 x9 h hx8=>b9<|S3 3 J<|nL J Ty.e42<|S2 1 J ?_
  refine cN h (λhc h=>?_) λhc h=>?_
  ·refine a8 ?_
   refine b9<|b7<|S3 3 J<|iL h J J Ty.e42 Ty.s85 λv10 hv9 h=>S1 4 J<|b8 J (λhg=>oF J Ty.b6R J)<|b8 J (λhg=>oS (ct hg) J J Ty.a42 J)<|b8 J (λhg=>mI J)<|b8 J (λhg=>p9 (f:=m9.Pv) (cs:=m9.Pc v10) hv9 (ct hg) (ct hg) Ty.e42 Ty.s85 J J)<|b8 J (λhg=>z6 (ct hg) Ty.b6V J)<|b8 J (λhg=>B1 (ct hg) Ty.a3 J)<|b8 J (λhg=>mI J)<|b8 J (λhg=>j8 (ct hg) (ct hg) J)<|y0 J (k7 J J J (λq=>H0 q))<|yN ?_
   refine cN h (λhc h=>?_) λhc h=>?_
   ·refine S4 1 J ?_
    refine a6 ?_
    have h:=xL hx8 h
    cases h
    exact f1
   ·refine a8 ?_
    refine S6 3 J ?_
    exact eL h W
  ·refine g8 ?_
   refine a7<|a7<|c4 ?_
   have h:=xL hx8 h
   exact eJ h W

theorem b6a{a0}:PO Tryz.prog 84 [c5.Pv a0] (a7N a0) λr=>.bool r:=by
 refine pO Tryz.func84 λr h _ _=>?_
 refine S4 2 J ?_
 refine jq h (λ_=>St.of [] []) (λq10 h=>?_) λκ9 h=>?_
 ·refine S4 1 J ?_
  refine a6 ?_
  cases h
  exact f1
 ·refine S4 1 J ?_
  refine b7<|lq h (λs12=>St.of [(1,.ptr 1 0 0),(3,.I s12)] [(1,vR (c5.Pv a0) 8)]) W λs12 x13 h hx12=>b9<|S3 3 J<|nL J Ty.e40<|S2 1 J ?_
  refine cN h (λhc h=>?_) λhc h=>?_
  ·refine a8 ?_
   refine b9<|b7<|S3 3 J<|iL h J J Ty.e40 Ty.b1V λv14 _ h=>S2 3 J<|dr [] Ty.K8 (by kernel_rfl) (by kernel_rfl)<|S7 2 J<|l7 h λv15 hv14 h=>Q7 J (n0 J M6 J hv14) J<|S7 2 J<|l7 h λv16 hv15 h=>d2 J (y5 J V2 J hv15) J<|S8 5 J<|S3 4 J<|b8 J (λhg=>oF J Ty.c6y J)<|b8 J (λhg=>oS (ct hg) J J Ty.a3 J)<|b8 J (λhg=>j8 (ct hg) J J)<|y0 J (n8 J J J (λq=>H5 q))<|S1 1 J<|b8 J (λhg=>oF J Ty.b5C J)<|b8 J (λhg=>oS (ct hg) J J Ty.a3 J)<|b8 J (λhg=>j8 (ct hg) J J)<|b8 J (λhg=>om (d:=.bool (v14.Target==0)) (ct hg))<|b8 (n7 J J J) (λhg=>oF J Ty.c19 J)<|b8 (n7 J J J) (λhg=>oS (ct hg) J J Ty.a4 J)<|b8 J (λhg=>k7 (ct hg) J J (λq=>a1j hg (H0 q)))<|y0 J (n8 J J J (λq=>H5 q))<|S1 1 J<|b8 J (λhg=>oF J Ty.b5C J)<|b8 J (λhg=>oS (ct hg) J J Ty.a3 J)<|b8 J (λhg=>j8 (ct hg) J J)<|b8 J (λhg=>om (d:=.bool (v14.Target != 0)) (ct hg))<|b8 (n7 J J J) (λhg=>mI J)<|b8 (n7 J J J) (λhg=>j8 (ct hg) J J)<|b8 J (λhg=>k7 (ct hg) J J (λq=>a1j hg (H0 q)))<|y0 J (n8 J J J (λq=>H5 q))<|S1 1 J<|b8 J (λhg=>oF J Ty.c19 J)<|b8 J (λhg=>oS (ct hg) J J Ty.a4 J)<|b8 J (λhg=>om (d:=.bool v14.Intact) (ct hg))<|b8 (n7 J J J) (λhg=>oL J J J Ty.a46 Ty.s46 nl J) ?_
   refine b8 (n7 J J J) (λhg=>oF J Ty.b5C J)<|b8 (n7 J J J) (λhg=>oS (ct hg) J J Ty.a3 J)<|l7 h λv17 hv16 h=>b8 (n7 J J J) (λhg=>y5 J W9 (o8 (ct hg) (o8 (ct hg) J)) (u9 hv16 hg))<|b8 (n7 J J J) (λhg=>J7 (ct hg) J)<|b8 (n7 J J J) (λhg=>om (d:=.bool (!v17)) (ct hg))<|b8 (n7 J J J) (λhg=>oF J Ty.b6S J)<|b8 (n7 J J J) (λhg=>oL (ct hg) J J Ty.a44 Ty.s44 nl J)<|b8 (n7 J J J) (λhg=>mI J)<|l7 h λv18 hv17 h=>b8 (n7 J J J) (λhg=>y5 J b59 (o8 (ct hg) (o8 (ct hg) J)) (u9 hv17 hg))<|b8 (n7 J J J) (λhg=>n8 (ct hg) J J (λq=>a1j hg (H5 q)))<|b8 J (λhg=>k7 (ct hg) J J (λq=>a1j hg (H0 q)))<|y0 J (n8 J J J (λq=>H5 q))<|yN ?_
   refine cN h (λhc h=>?_) λhc h=>?_
   ·refine S4 1 J ?_
    refine a6 ?_
    have h:=xL hx12 h
    cases h
    exact f1
   ·refine a8 ?_
    refine S6 3 J ?_
    exact eL h W
  ·refine g8 ?_
   refine a7<|a7<|c4 ?_
   have h:=xL hx12 h
   exact eJ h W

theorem b38{a0 a1}:PO Tryz.prog 163 [.I a0,.I a1] (a8Y a0 a1) λr=>.I r:=by
 refine pO Tryz.func163 λr h _ _=>?_
 refine S4 1 J<|S3 2 J<|cA h a6X J J λv1 _ h=>S2 1 J<|a6 ?_
 cases h
 exact f1

theorem b4a{a0 a1}:PO Tryz.prog 164 [.L k9.Pv a0,.I a1] (a5F a0 a1) λr=>.I r:=by
 refine pO Tryz.func164 λr h _ _=>?_
 refine S4 1 J<|S4 1 J ?_
 refine jq h (λj11=>St.of [(5,.I j11)] []) (λj11 h=>?_) λκ10 h=>?_
 ·refine S4 2 J ?_
  refine a6 ?_
  cases h
  exact f1
 ·refine S4 1 J ?_
  refine b7<|lq h (λq=>St.of [(0,.L k9.Pv a0),(1,.I a1),(5,.I q.1),(6,.I q.2)] []) W λq16 x15 h hx10=>?_
  obtain⟨s13,s14⟩:=q16
  refine b9<|S3 2 J<|nL J Ty.e40<|S2 1 J ?_
  refine cN h (λhc h=>?_) λhc h=>?_
  ·refine a8 ?_
   refine jq h (λj19=>St.of [(0,.L k9.Pv a0),(1,.I a1),(5,.I j19),(6,.I s14)] []) (λj19 h=>?_) λκ18 h=>?_
   ·refine S6 3 J ?_
    exact eL h W
   ·refine b7 ?_
    refine S3 2 J<|iL h J J Ty.e40 Ty.b1V λv20 _ h=>S1 5 J<|b8 J (λhg=>mI J)<|b8 J (λhg=>j8 (ct hg) J J)<|y0 J (k7 J J J (λq=>H0 q))<|yN ?_
    refine cN h (λhc h=>?_) λhc h=>?_
    ·refine S6 3 J ?_
     exact eJ h W
    ·refine a8 ?_
     exact eJ h W
  ·refine g8 ?_
   refine a7<|a7<|c4 ?_
   have h:=xL hx10 h
   exact eJ h W

theorem b6d{a0}:PO Tryz.prog 85 [c5.Pv a0] (a7Q a0) λr=>.bool r:=by
 refine pO Tryz.func85 λr h _ _=>?_
 refine S4 2 J ?_
 refine jq h (λ_=>St.of [] []) (λq13 h=>?_) λκ12 h=>?_
 ·refine S4 1 J ?_
  refine a6 ?_
  cases h
  exact f1
 ·refine S4 1 J ?_
  refine b7<|lq h (λs15=>St.of [(1,.ptr 1 0 0),(3,.I s15)] [(1,vR (c5.Pv a0) 8)]) W λs15 x16 h hx14=>b9<|S3 4 J<|nL J Ty.e37<|S2 1 J ?_
  refine cN h (λhc h=>?_) λhc h=>?_
  ·refine a8 ?_
   refine jq h (λ_=>St.of [(1,.ptr 1 0 0),(3,.I s15)] [(1,vR (c5.Pv a0) 8)]) (λq21 h=>?_) λκ20 h=>?_
   ·refine S6 3 J ?_
    exact eL h W
   ·refine b7 ?_
    refine S3 4 J<|iL h J J Ty.e37 Ty.a1C λv22 _ h=>S2 3 J<|b9<|S3 4 J<|b8 J (λhg=>oF J Ty.b8w J)<|b8 J (λhg=>oS (ct hg) J J Ty.a3 J)<|b8 J (λhg=>j8 (ct hg) J J)<|y0 J (k7 J J J (λq=>H0 q))<|yN ?_
    refine cN h (λhc h=>?_) λhc h=>?_
    ·refine g8 ?_
     refine a7<|c4 ?_
     exact eJ h W
    ·refine a8 ?_
     refine S3 3 J<|cA h b38 J J λv23 _ h=>S2 1 J<|dr [] Ty.K8 (by kernel_rfl) (by kernel_rfl)<|S7 6 J<|l7 h λv24 hv21 h=>d2 J (y5 J b4a J hv21) J<|S7 2 J<|m7 J (λhg _ hN=>oF J Ty.b8w J) J<|s6 J (λhg=>oS (ct hg) J J Ty.a3 J) J<|m7 J (λhg _ hN=>j8 (ct hg) J J) J<|m7 J (λhg _ hN=>om (d:=.bool (v22.State==2)) (ct hg)) J<|m7 (n7 J J J) (λhg _ hN=>oF J Ty.a6C J) J<|m7 (n7 J J J) (λhg _ hN=>oF (ct hg) Ty.b6U J) J<|s6 (n7 J J J) (λhg=>oS (ct hg) J J Ty.a3 J) J<|m7 (n7 J J J) (λhg _ hN=>j8 (ct hg) J J) J<|m7 (n7 J J J) (λhg _ hN=>om (d:=.bool (decide (v22.Val.Weak<1))) (ct hg)) J<|m7 (n7 J J J) (λhg _ hN=>oF J Ty.a6C J) J<|m7 (n7 J J J) (λhg _ hN=>oF (ct hg) Ty.b2D J) J<|s6 (n7 J J J) (λhg=>oS (ct hg) J J Ty.a27 J) J<|s6 (n7 J J J) (λhg=>D6 (f:=iF) (ct hg) Ty.p8) J<|m7 (n7 J J J) (λhg _ hN=>j8 (ct hg) J J) J<|m7 (n7 J J J) (λhg _ hN=>n8 (ct hg) J J (λq=>a1j hg (H5 q))) J<|m7 (n7 J J J) (λhg _ hN=>om (d:=.bool ((decide (v22.Val.Weak<1))||(decide ((v22.Val.Fields.length:Int) > 0)))) (ct hg)) J<|m7 (n7 J J J) (λhg _ hN=>oF J Ty.a6C J) J<|m7 (n7 J J J) (λhg _ hN=>oF (ct hg) Ty.b6T J) J<|s6 (n7 J J J) (λhg=>oS (ct hg) J J Ty.a3 J) J<|m7 (n7 J J J) (λhg _ hN=>j8 (ct hg) J J) J<|m7 (n7 J J J) (λhg _ hN=>n8 (ct hg) J J (λq=>a1j hg (H5 q))) J<|m7 J (λhg _ hN=>k7 (ct hg) J J (λq=>a1j hg (H0 q))) J<|d7 J (λ_ hN=>n8 J J J (λq=>H5 q)) J<|F6 ?_
     refine cN h (λhc h=>?_) λhc h=>?_
     ·refine S4 1 J ?_
      refine a6 ?_
      have h:=xL hx14 h
      cases h
      exact f1
     ·refine a8 ?_
      exact eJ h W
  ·refine g8 ?_
   refine a7<|a7<|c4 ?_
   have h:=xL hx14 h
   exact eJ h W

theorem b7M{a0}:PO Tryz.prog 167 [r7.Pv a0] (a69 a0) λr=>.L iF r:=by
 refine pO Tryz.func167 λr h _ _=>?_
 refine S4 2 J<|sR<|y0 J (A0 J Ty.p8 Ty.s3)<|S2 1 J ?_
 refine jq h (λj13=>St.of [(3,.sl 910003)] [(910003,⟨List.map iF j13,(List.map iF j13).length,true,1,true⟩)]) (λj13 h=>?_) λκ12 h=>?_
 ·refine S4 2 J ?_
  refine a6 ?_
  cases h
  exact f1
 ·refine S4 1 J ?_
  refine b7<|lq h (λq=>St.of [(1,.ptr 1 0 0),(3,.sl 910003),(4,.I q.1)] [(1,vR (r7.Pv a0) 2),(910003,⟨List.map iF q.2,(List.map iF q.2).length,true,1,true⟩)]) (Wk.trans (B2 (t:=3) (l:=920003) (z:=1) J J) (WP (λl=>if l=910003 then 920003 else l))) λq18 x17 h hx12=>?_
  obtain⟨s15,s16⟩:=q18
  refine b9<|S3 3 J<|nL J Ty.e42<|S2 1 J ?_
  refine cN h (λhc h=>?_) λhc h=>?_
  ·refine a8 ?_
   refine jq h (λj22=>St.of [(1,.ptr 1 0 0),(3,.sl 28),(4,.I s15)] [(28,⟨List.map iF j22,(List.map iF j22).length,true,1,true⟩),(1,vR (r7.Pv a0) 2)]) (λj22 h=>?_) λκ21 h=>?_
   ·refine S6 3 J ?_
    exact eL h (Wk.trans (g7 _ [28]) (WP (λl=>if l=910003 then 28 else l)))
   ·refine b7 ?_
    refine S3 3 J<|iL h J J Ty.e42 Ty.s85 λv23 hv16 h=>S2 3 J ?_
    refine cN h (λhc h=>?_) λhc h=>?_
    ·refine S5 4 J ?_
     refine y0 J (p9 (f:=m9.Pv) (cs:=m9.Pc v23) hv16 J J Ty.e42 Ty.s85 J J)<|S1 2 J<|y0 J (F1 (f:=iF) (l:=[v23.At]) J Ty.p8 Ty.s3 Ty.z3 J J nl J J)<|l7 h λv24 hv17 h=>D7 J (B6 (f:=iF) hv17 J J J J J J (.inl ⟨_,J,J⟩) Ty.p8 Ty.s3 Ty.b3 Ty.z3 J (λ_=>J)) J J J<|S2 1 J ?_
     exact eJ h (Wk.trans (g7 _ [28]) W)
    ·refine a8 ?_
     exact eJ h (Wk.trans (g7 _ [910003]) (WP (λl=>if l=28 then 910003 else l)))
  ·refine g8 ?_
   refine a7<|a7<|c4 ?_
   have h:=xL hx12 h
   exact eJ h (Wk.trans (g7 _ [910003]) W)

theorem b0b{a0}:PO Tryz.prog 87 [c5.Pv a0] (a4P a0) λr=>.L iF r:=by
 refine pO Tryz.func87 λr h _ _=>?_
 refine S4 2 J<|sR<|y0 J (A0 J Ty.p8 Ty.s3)<|S2 1 J ?_
 refine jq h (λj13=>St.of [(1,.ptr 1 0 0),(3,.sl 910003)] [(910003,⟨List.map iF j13,(List.map iF j13).length,true,1,true⟩),(1,vR (c5.Pv a0) 8)]) (λj13 h=>?_) λκ12 h=>?_
 ·refine S3 3 J ?_
  refine cF h b7M J J λv14 _ h=>l7 h λv15 hv11 h=>D7 J (B6 (f:=iF) hv11 J J J J J J (.inl ⟨_,J,J⟩) Ty.p8 Ty.s3 Ty.b3 Ty.z3 J (λ_=>J)) J J J<|S2 1 J<|a6 ?_
  cases h
  exact f1
 ·refine S4 1 J ?_
  refine b7<|lq h (λq=>St.of [(1,.ptr 1 0 0),(3,.sl 910003),(4,.I q.1)] [(1,vR (c5.Pv a0) 8),(910003,⟨List.map iF q.2,(List.map iF q.2).length,true,1,true⟩)]) (Wk.trans (B2 (t:=3) (l:=920003) (z:=1) J J) (WP (λl=>if l=910003 then 920003 else l))) λq20 x19 h hx14=>?_
  obtain⟨s17,s18⟩:=q20
  refine b9<|S3 3 J<|nL J Ty.p8<|S2 1 J ?_
  refine cN h (λhc h=>?_) λhc h=>?_
  ·refine a8 ?_
   refine jq h (λj24=>St.of [(1,.ptr 1 0 0),(3,.sl 26),(4,.I s17)] [(26,⟨List.map iF j24,(List.map iF j24).length,true,1,true⟩),(1,vR (c5.Pv a0) 8)]) (λj24 h=>?_) λκ23 h=>?_
   ·refine S6 3 J ?_
    exact eL h (Wk.trans (g7 _ [26]) (WP (λl=>if l=910003 then 26 else l)))
   ·refine b7 ?_
    refine S3 3 J<|iL h J J Ty.p8 Ty.s3 λv25 hv18 h=>S2 2 J ?_
    refine cN h (λhc h=>?_) λhc h=>?_
    ·refine S5 4 J ?_
     refine y0 J (p9 (f:=iF) (cs:=[.I v25]) hv18 J J Ty.p8 Ty.s3 J J)<|S1 1 J<|y0 J (F1 (f:=iF) (l:=[v25]) J Ty.p8 Ty.s3 Ty.z3 J J nl J J)<|l7 h λv26 hv19 h=>D7 J (B6 (f:=iF) hv19 J J J J J J (.inl ⟨_,J,J⟩) Ty.p8 Ty.s3 Ty.b3 Ty.z3 J (λ_=>J)) J J J<|S2 1 J ?_
     exact eJ h (Wk.trans (g7 _ [26]) W)
    ·refine a8 ?_
     exact eJ h (Wk.trans (g7 _ [910003]) (WP (λl=>if l=26 then 910003 else l)))
  ·refine g8 ?_
   refine a7<|a7<|c4 ?_
   have h:=xL hx14 h
   exact eJ h (Wk.trans (g7 _ [910003]) W)

theorem a2H{a0}:PO Tryz.prog 91 [.I a0] (P6 a0) λr=>.bool r:=by
 refine pO Tryz.func91 λr h _ _=>?_
 unfold P6 at h
 refine S4 1 J<|S4 3 J<|a6 ?_
 cases h
 exact f1

theorem a99{a0 a1}:PO Tryz.prog 165 [c9.Pv a0,.I a1] (a4N a0 a1) λr=>.bool r:=by
 refine pO Tryz.func165 λr h _ _=>?_
 refine S4 2 J<|S3 2 J<|cF h B9 J J λv1 _ h=>S2 6 J<|S3 2 J<|cA h a2H J J λv2 _ h=>S2 1 J<|a6 ?_
 cases h
 exact f1

theorem a9V{a0}:PO Tryz.prog 145 [.L iF a0] (a1w a0) λr=>.L iF r:=by
 refine pO Tryz.func145 λr h _ _=>?_
 refine S4 1 J<|sR<|y0 J (A0 J Ty.p8 Ty.s3)<|S2 1 J ?_
 refine jq h (λj13=>St.of [(3,.sl 910003)] [(910003,⟨List.map iF j13,(List.map iF j13).length,true,1,true⟩)]) (λj13 h=>?_) λκ12 h=>?_
 ·refine S4 2 J ?_
  refine a6 ?_
  cases h
  exact f1
 ·refine S4 1 J ?_
  refine b7<|lq h (λq=>St.of [(0,.L iF a0),(3,.sl 910003),(4,.I q.1)] [(910003,⟨List.map iF q.2,(List.map iF q.2).length,true,1,true⟩)]) (Wk.trans (B2 (t:=3) (l:=920003) (z:=1) J J) (WP (λl=>if l=910003 then 920003 else l))) λq18 x17 h hx12=>?_
  obtain⟨s15,s16⟩:=q18
  refine b9<|S3 2 J<|nL J Ty.p8<|S2 1 J ?_
  refine cN h (λhc h=>?_) λhc h=>?_
  ·refine a8 ?_
   refine jq h (λj22=>St.of [(0,.L iF a0),(3,.sl 23),(4,.I s15)] [(23,⟨List.map iF j22,(List.map iF j22).length,true,1,true⟩)]) (λj22 h=>?_) λκ21 h=>?_
   ·refine S6 3 J ?_
    exact eL h (Wk.trans (g7 _ [23]) (WP (λl=>if l=910003 then 23 else l)))
   ·refine b7 ?_
    refine S3 2 J<|iL h J J Ty.p8 Ty.s3 λv23 hv16 h=>S2 2 J ?_
    refine cN h (λhc h=>?_) λhc h=>?_
    ·refine S5 3 J ?_
     refine y0 J (p9 (f:=iF) (cs:=[.I v23]) hv16 J J Ty.p8 Ty.s3 J J)<|S1 1 J<|y0 J (F1 (f:=iF) (l:=[v23]) J Ty.p8 Ty.s3 Ty.z3 J J nl J J)<|l7 h λv24 hv17 h=>D7 J (B6 (f:=iF) hv17 J J J J J J (.inl ⟨_,J,J⟩) Ty.p8 Ty.s3 Ty.b3 Ty.z3 J (λ_=>J)) J J J<|S2 1 J ?_
     exact eJ h (Wk.trans (g7 _ [23]) W)
    ·refine a8 ?_
     exact eJ h (Wk.trans (g7 _ [910003]) (WP (λl=>if l=23 then 910003 else l)))
  ·refine g8 ?_
   refine a7<|a7<|c4 ?_
   have h:=xL hx12 h
   exact eJ h (Wk.trans (g7 _ [910003]) W)

theorem b3d{a0 a1}:PO Tryz.prog 239 [c9.Pv a0,.I a1] (a90 a0 a1) λr=>.L iF r:=by
 refine pO Tryz.func239 λr h _ _=>?_
 refine S4 2 J<|S3 2 J<|cF h B9 J J λv1 _ h=>S2 6 J<|b9<|S4 2 J ?_
 refine cN h (λhc h=>?_) λhc h=>?_
 ·refine S4 1 J ?_
  refine a6 ?_
  cases h
  exact f1
 ·refine a8 ?_
  refine S3 2 J<|cF h a9V J J λv2 _ h=>S2 1 J<|a6 ?_
  cases h
  exact f1

theorem M7{a0 a1}:PO Tryz.prog 38 [.L iF a0,.I a1] (H6 a0 a1) λr=>.I r:=by
 refine pO Tryz.func38 λr h _ _=>?_
 refine S4 1 J<|S4 1 J ?_
 refine jq h (λj11=>St.of [(5,.I j11)] []) (λj11 h=>?_) λκ10 h=>?_
 ·refine S4 2 J ?_
  refine a6 ?_
  cases h
  exact f1
 ·refine S4 1 J ?_
  refine b7<|lq h (λq=>St.of [(0,.L iF a0),(1,.I a1),(5,.I q.1),(6,.I q.2)] []) W λq16 x15 h hx10=>?_
  obtain⟨s13,s14⟩:=q16
  refine b9<|S3 2 J<|nL J Ty.p8<|S2 1 J ?_
  refine cN h (λhc h=>?_) λhc h=>?_
  ·refine a8 ?_
   refine jq h (λj19=>St.of [(0,.L iF a0),(1,.I a1),(5,.I j19),(6,.I s14)] []) (λj19 h=>?_) λκ18 h=>?_
   ·refine S6 3 J ?_
    exact eL h W
   ·refine b7 ?_
    refine S3 2 J<|iL h J J Ty.p8 Ty.s3 λv20 _ h=>S1 4 J<|b8 J (λhg=>mI J)<|b8 J (λhg=>j8 (ct hg) J J)<|y0 J (k7 J J J (λq=>H0 q))<|yN ?_
    refine cN h (λhc h=>?_) λhc h=>?_
    ·refine S6 3 J ?_
     exact eJ h W
    ·refine a8 ?_
     exact eJ h W
  ·refine g8 ?_
   refine a7<|a7<|c4 ?_
   have h:=xL hx10 h
   exact eJ h W

theorem c1c{a0 a1}:PO Tryz.prog 303 [c9.Pv a0,.I a1] (b54 a0 a1) λr=>.I r:=by
 refine pO Tryz.func303 λr h _ _=>?_
 refine S4 2 J<|S4 1 J<|S3 1 J<|cF h E7 J J λv1 _ h=>S2 1 J ?_
 refine jq h (λj11=>St.of [(5,.I j11)] []) (λj11 h=>?_) λκ10 h=>?_
 ·refine S4 2 J ?_
  refine a6 ?_
  cases h
  exact f1
 ·refine S4 1 J ?_
  refine b7<|lq h (λq=>St.of [(1,.I a1),(2,.ptr 2 0 0),(5,.I q.1),(6,.L iF v1),(7,.I q.2)] [(2,vR (c9.Pv a0) 3)]) W λq16 x15 h hx11=>?_
  obtain⟨s13,s14⟩:=q16
  refine b9<|S3 2 J<|nL J Ty.p8<|S2 1 J ?_
  refine cN h (λhc h=>?_) λhc h=>?_
  ·refine a8 ?_
   refine b9<|b7<|a0p [] Ty.K8 (by kernel_rfl) (by kernel_rfl)<|S7 4 J<|l7 h λv17 hv12 h=>d0 J (p9 (f:=iF) (cs:=[.I v17]) hv12 J J Ty.p8 Ty.s3 J J) J<|S7 1 J<|l7 h λv18 hv13 h=>Q7 J (n0 J b3d J hv13) J<|S7 1 J<|l7 h λv19 hv14 h=>d2 J (y5 J M7 J hv14) J<|S8 2 J<|S6 3 J ?_
   exact eL h W
  ·refine g8 ?_
   refine a7<|a7<|c4 ?_
   have h:=xL hx11 h
   exact eJ h W

theorem b57{a0 a1}:PO Tryz.prog 304 [.L c7.Pv a0,.I a1] (a7L a0 a1) λr=>.I r:=by
 refine pO Tryz.func304 λr h _ _=>?_
 refine S4 1 J<|S4 1 J<|S3 1 J<|cF h a5G J J λv1 _ h=>S2 1 J ?_
 refine jq h (λj12=>St.of [(5,.I j12)] []) (λj12 h=>?_) λκ11 h=>?_
 ·refine S4 2 J ?_
  refine a6 ?_
  cases h
  exact f1
 ·refine S4 1 J ?_
  refine b7<|lq h (λq=>St.of [(1,.I a1),(5,.I q.1),(6,.L u5.Pv v1),(7,.I q.2)] []) W λq17 x16 h hx11=>?_
  obtain⟨s14,s15⟩:=q17
  refine b9<|S3 2 J<|nL J Ty.b0G<|S2 1 J ?_
  refine cN h (λhc h=>?_) λhc h=>?_
  ·refine a8 ?_
   refine jq h (λj20=>St.of [(1,.I a1),(5,.I j20),(6,.L u5.Pv v1),(7,.I s15)] []) (λj20 h=>?_) λκ19 h=>?_
   ·refine S6 3 J ?_
    exact eL h W
   ·refine b7 ?_
    refine S3 2 J<|iL h J J Ty.b0G Ty.b4i λv21 _ h=>S1 5 J<|b8 J (λhg=>mI J)<|b8 J (λhg=>j8 (ct hg) J J)<|y0 J (k7 J J J (λq=>H0 q))<|yN ?_
    refine cN h (λhc h=>?_) λhc h=>?_
    ·refine S6 3 J ?_
     exact eJ h W
    ·refine a8 ?_
     exact eJ h W
  ·refine g8 ?_
   refine a7<|a7<|c4 ?_
   have h:=xL hx11 h
   exact eJ h W

theorem b58{a0 a1 a2}:PO Tryz.prog 237 [c9.Pv a0,.L c7.Pv a1,.I a2] (a7M a0 a1 a2) λr=>.I r:=by
 refine pO Tryz.func237 λr h _ _=>?_
 refine S4 2 J<|S3 2 J<|cA h c1c J J λv1 _ h=>S1 2 J<|cA h b57 J J λv2 _ h=>S2 2 J<|a6 ?_
 cases h
 exact f1

theorem b1w{a0 a1 a2}:PO Tryz.prog 166 [c9.Pv a0,.L c7.Pv a1,.I a2] (a68 a0 a1 a2) λr=>.I r:=by
 refine pO Tryz.func166 λr h _ _=>?_
 refine S4 2 J<|S3 2 J<|cF h B9 J J λv1 _ h=>S2 6 J<|b9<|S4 2 J ?_
 refine cN h (λhc h=>?_) λhc h=>?_
 ·refine S4 1 J ?_
  refine a6 ?_
  cases h
  exact f1
 ·refine a8 ?_
  refine dr [] Ty.K8 (by kernel_rfl) (by kernel_rfl)<|S7 5 J<|l7 h λv2 hv2 h=>d2 J (y5 J b58 J hv2) J<|S8 2 J<|a6 ?_
  cases h
  exact f1

theorem b7K{a0 a1 a2}:PO Tryz.prog 86 [c9.Pv a0,.L c7.Pv a1,.L iF a2] (a97 a0 a1 a2) λr=>.bool r:=by
 refine pO Tryz.func86 λr h _ _=>?_
 refine S4 2 J<|S3 1 J<|cF h E7 J J λv1 _ h=>S2 1 J ?_
 refine jq h (λ_=>St.of [] []) (λq10 h=>?_) λκ9 h=>?_
 ·refine S4 1 J ?_
  refine a6 ?_
  cases h
  exact f1
 ·refine S4 1 J ?_
  refine b7<|lq h (λs12=>St.of [(1,.L c7.Pv a1),(2,.L iF a2),(3,.ptr 3 0 0),(7,.L iF v1),(8,.I s12)] [(3,vR (c9.Pv a0) 3)]) W λs12 x13 h hx12=>b9<|S3 2 J<|nL J Ty.p8<|S2 1 J ?_
  refine cN h (λhc h=>?_) λhc h=>?_
  ·refine a8 ?_
   refine b9<|b7<|dr [] Ty.K8 (by kernel_rfl) (by kernel_rfl)<|S7 3 J<|l7 h λv14 hv13 h=>d0 J (p9 (f:=iF) (cs:=[.I v14]) hv13 J J Ty.p8 Ty.s3 J J) J<|S7 1 J<|l7 h λv15 hv14 h=>d2 J (y5 J a99 J hv14) J<|S7 2 J<|s6 J (λhg=>oL J J J Ty.a39 Ty.s39 nl J) J<|m7 J (λhg _ hN=>om (d:=.L c7.Pv a1) J) J<|m7 J (λhg _ hN=>om (d:=.L iF v1) J) J<|m7 J (λhg _ hN=>mI J) J<|s6 J (λhg=>p9 (f:=iF) (cs:=[.I v14]) hv13 (ct hg) (ct hg) Ty.p8 Ty.s3 J J) J<|s6 J (λhg=>B1 (ct hg) Ty.a3 J) J<|l7 h λv16 hv15 h=>X7 J (λhg=>y5 J b1w (o8 (ct hg) (o8 (ct hg) (o8 (ct hg) J))) (u9 hv15 hg)) J<|m7 J (λhg _ hN=>om (d:=.L iF a2) J) J<|m7 J (λhg _ hN=>om (d:=.L iF v1) J) J<|m7 J (λhg _ hN=>mI J) J<|s6 J (λhg=>p9 (f:=iF) (cs:=[.I v14]) hv13 (ct hg) (ct hg) Ty.p8 Ty.s3 J J) J<|s6 J (λhg=>B1 (ct hg) Ty.a3 J) J<|l7 h λv17 hv16 h=>X7 J (λhg=>y5 J M7 (o8 (ct hg) (o8 (ct hg) J)) (u9 hv16 hg)) J<|m7 J (λhg _ hN=>j8 (ct hg) (ct hg) J) J<|d7 J (λ_ hN=>k7 J J J (λq=>H0 q)) J<|F6 ?_
   refine cN h (λhc h=>?_) λhc h=>?_
   ·refine S4 1 J ?_
    refine a6 ?_
    have h:=xL hx12 h
    cases h
    exact f1
   ·refine a8 ?_
    refine S6 3 J ?_
    exact eL h W
  ·refine g8 ?_
   refine a7<|a7<|c4 ?_
   have h:=xL hx12 h
   exact eJ h W

theorem b0c{a0}:PO Tryz.prog 30 [c5.Pv a0] (a1y a0) λr=>.bool r:=by
 refine pO Tryz.func30 λr h _ _=>?_
 refine S4 2 J<|b9<|S3 2 J<|cA h b53 J J λv1 _ h=>S1 2 J<|b8 J (λhg=>oF J Ty.b9D J)<|b8 J (λhg=>oS (ct hg) J J Ty.a41 J)<|l7 h λv2 hv2 h=>b8 J (λhg=>y5 J b56 (o8 (ct hg) J) (u9 hv2 hg))<|b8 J (λhg=>J7 (ct hg) J)<|y0 J (n8 J J J (λq=>H5 q))<|S1 1 J<|b8 J (λhg=>oF J Ty.c2f J)<|b8 J (λhg=>oS (ct hg) J J Ty.a27 J)<|b8 J (λhg=>D6 (f:=iF) (ct hg) Ty.p8)<|b8 J (λhg=>j8 (ct hg) J J)<|y0 J (n8 J J J (λq=>H5 q))<|S1 1 J<|b8 J (λhg=>oF J Ty.c2g J)<|b8 J (λhg=>oS (ct hg) J J Ty.a40 J)<|b8 J (λhg=>D6 (f:=k9.Pv) (ct hg) Ty.e40)<|b8 J (λhg=>j8 (ct hg) J J)<|y0 J (n8 J J J (λq=>H5 q))<|yN ?_
 refine cN h (λhc h=>?_) λhc h=>?_
 ·refine S4 1 J ?_
  refine a6 ?_
  cases h
  exact f1
 ·refine a8 ?_
  refine dr [] Ty.K8 (by kernel_rfl) (by kernel_rfl)<|S7 1 J<|l7 h λv3 hv3 h=>d2 J (y5 J b6c J hv3) J<|S7 1 J<|s6 J (λhg=>oL J J J Ty.a46 Ty.s46 nl J) J<|l7 h λv4 hv4 h=>X7 J (λhg=>y5 J b6b (o8 (ct hg) J) (u9 hv4 hg)) J<|d7 J (λ_ hN=>k7 J J J (λq=>H0 q)) J<|S7 1 J<|s6 J (λhg=>oL J J J Ty.a46 Ty.s46 nl J) J<|l7 h λv5 hv5 h=>X7 J (λhg=>y5 J b6a (o8 (ct hg) J) (u9 hv5 hg)) J<|d7 J (λ_ hN=>k7 J J J (λq=>H0 q)) J<|S7 1 J<|s6 J (λhg=>oL J J J Ty.a46 Ty.s46 nl J) J<|l7 h λv6 hv6 h=>X7 J (λhg=>y5 J b6d (o8 (ct hg) J) (u9 hv6 hg)) J<|d7 J (λ_ hN=>k7 J J J (λq=>H0 q)) J<|S7 1 J<|m7 J (λhg _ hN=>oF J Ty.c8f J) J<|s6 J (λhg=>oL (ct hg) J J Ty.a39 Ty.s39 nl J) J<|m7 J (λhg _ hN=>oF J Ty.b9D J) J<|s6 J (λhg=>oS (ct hg) J J Ty.a41 J) J<|s6 J (λhg=>oL J J J Ty.a46 Ty.s46 nl J) J<|l7 h λv7 hv7 h=>a6v J (λhg=>n0 J b0b (o8 (ct hg) J) (u9 hv7 hg)) J<|l7 h λv8 hv8 h=>X7 J (λhg=>y5 J b7K (o8 (ct hg) (o8 (ct hg) (o8 (ct hg) J))) (u9 hv8 hg)) J<|d7 J (λ_ hN=>k7 J J J (λq=>H0 q)) J<|S8 1 J<|a6 ?_
  cases h
  exact f1

theorem b6x{a0}:PO Tryz.prog 58 [hold_Heap.Pv a0] (a72 a0) λr=>.bool r:=by
 refine pO Tryz.func58 λr h _ _=>?_
 refine S4 2 J<|S3 1 J<|cA h a0r J J λv1 _ h=>S1 1 J<|b8 J (λhg=>oF J Ty.c8e J)<|b8 J (λhg=>oF (ct hg) Ty.c2e J)<|b8 J (λhg=>oS (ct hg) J J Ty.a3 J)<|b8 J (λhg=>j8 (ct hg) J J)<|y0 J (k7 J J J (λq=>H0 q))<|S1 1 J<|b8 J (λhg=>oL J J J Ty.O2 Ty.I6 nl J)<|l7 h λv2 hv2 h=>b8e J (λhg=>n0 J J1 (o8 (ct hg) J) (u9 hv2 hg))<|l7 h λv3 hv3 h=>b8 J (λhg=>y5 J b0c (o8 (ct hg) J) (u9 hv3 hg))<|y0 J (k7 J J J (λq=>H0 q))<|S2 1 J<|a6 ?_
 cases h
 exact f1

theorem b1z{a0}:PO Tryz.prog 88 [c5.Pv a0] (a4R a0) λr=>.L iF r:=by
 refine pO Tryz.func88 λr h _ _=>?_
 refine S4 2 J<|sR<|y0 J (A0 J Ty.p8 Ty.s3)<|S2 1 J<|S3 2 J<|cF h E7 J J λv1 _ h=>S2 1 J ?_
 refine jq h (λj16=>St.of [(3,.sl 910003)] [(910003,⟨List.map iF j16,(List.map iF j16).length,true,1,true⟩)]) (λj16 h=>?_) λκ15 h=>?_
 ·refine S4 2 J ?_
  refine a6 ?_
  cases h
  exact f1
 ·refine S4 1 J ?_
  refine b7<|lq h (λq=>St.of [(1,.ptr 1 0 0),(3,.sl 910003),(4,.L iF v1),(5,.I q.1)] [(1,vR (c5.Pv a0) 8),(910003,⟨List.map iF q.2,(List.map iF q.2).length,true,1,true⟩)]) (Wk.trans (B2 (t:=3) (l:=920003) (z:=1) J J) (WP (λl=>if l=910003 then 920003 else l))) λq21 x20 h hx15=>?_
  obtain⟨s18,s19⟩:=q21
  refine b9<|S3 2 J<|nL J Ty.p8<|S2 1 J ?_
  refine cN h (λhc h=>?_) λhc h=>?_
  ·refine a8 ?_
   refine jq h (λj26=>St.of [(1,.ptr 1 0 0),(3,.sl 37),(4,.L iF v1),(5,.I s18)] [(37,⟨List.map iF j26,(List.map iF j26).length,true,1,true⟩),(1,vR (c5.Pv a0) 8)]) (λj26 h=>?_) λκ25 h=>?_
   ·refine S6 3 J ?_
    exact eL h (Wk.trans (g7 _ [37]) (WP (λl=>if l=910003 then 37 else l)))
   ·refine b7 ?_
    refine dr [] Ty.K8 (by kernel_rfl) (by kernel_rfl)<|S7 4 J<|l7 h λv27 hv20 h=>d0 J (p9 (f:=iF) (cs:=[.I v27]) hv20 J J Ty.p8 Ty.s3 J J) J<|S7 1 J<|l7 h λv28 hv21 h=>Q7 J (n0 J B9 J hv21) J<|S7 4 J<|F0 (x':=z8.Pv v28.1) (cl':=true) J J (.inr J) Ty.s62<|S8 1 J<|S4 3 J ?_
    refine cN h (λhc h=>?_) λhc h=>?_
    ·refine S5 3 J ?_
     refine y0 J (p9 (f:=iF) (cs:=[.I v27]) hv20 J J Ty.p8 Ty.s3 J J)<|S1 1 J<|y0 J (F1 (f:=iF) (l:=[v27]) J Ty.p8 Ty.s3 Ty.z3 J J nl J J)<|l7 h λv29 hv22 h=>D7 J (B6 (f:=iF) hv22 J J J J J J (.inl ⟨_,J,J⟩) Ty.p8 Ty.s3 Ty.b3 Ty.z3 J (λ_=>J)) J J J<|S2 1 J ?_
     exact eJ h (Wk.trans (g7 _ [37]) W)
    ·refine a8 ?_
     exact eJ h (Wk.trans (g7 _ [910003]) (WP (λl=>if l=37 then 910003 else l)))
  ·refine g8 ?_
   refine a7<|a7<|c4 ?_
   have h:=xL hx15 h
   exact eJ h (Wk.trans (g7 _ [910003]) W)

theorem a7b{a0}:PO Tryz.prog 31 [c5.Pv a0] (a19 a0) λr=>.bool r:=by
 refine pO Tryz.func31 λr h _ _=>?_
 refine S4 2 J<|S3 1 J<|cF h b1z J J λv1 _ h=>nL J Ty.p8<|S2 2 J<|a6 ?_
 cases h
 exact f1

theorem a2e{a0}:PO Tryz.prog 16 [hold_Heap.Pv a0] (a08 a0) λr=>.bool r:=by
 refine pO Tryz.func16 λr h _ _=>?_
 refine S4 2 J<|S3 1 J<|cA h b6x J J λv1 _ h=>S1 1 J<|b8 J (λhg=>oL J J J Ty.O2 Ty.I6 nl J)<|l7 h λv2 hv2 h=>b8e J (λhg=>n0 J J1 (o8 (ct hg) J) (u9 hv2 hg))<|l7 h λv3 hv3 h=>b8 J (λhg=>y5 J a7b (o8 (ct hg) J) (u9 hv3 hg))<|y0 J (k7 J J J (λq=>H0 q))<|S2 1 J<|a6 ?_
 cases h
 exact f1

theorem a6m{a0 a1}:PO Tryz.prog 173 [.I a0,.I a1] (a3t a0 a1) λr=>slab_Slab_store_Obj.Pv r:=by
 refine pO Tryz.func173 λr h _ _=>?_
 refine S4 1 J<|b9<|S3 3 J<|b8 J (λhg=>mI J)<|b8 J (λhg=>j8 (ct hg) J J)<|y0 J (n8 J J J (λq=>H5 q))<|S1 1 J<|b8 J (λhg=>mI J)<|b8 J (λhg=>j8 (ct hg) J J)<|y0 J (n8 J J J (λq=>H5 q))<|S1 1 J<|b8 J (λhg=>mI J)<|b8 J (λhg=>j8 (ct hg) J J)<|y0 J (n8 J J J (λq=>H5 q))<|yN ?_
 refine cN h (λhc h=>?_) λhc h=>?_
 ·refine sR ?_
  refine y0 J (l6 (cs:=[.nl,.I 0]) J Ty.p24 Ty.z24 J J J)<|a6f (x':=.agg [.nl,.I 0]) (cl':=true) J J (.inl J) Ty.Y4<|yN<|a6 ?_
  cases h
  exact⟨J,[_],⟨oL J J J Ty.a24 Ty.Y4 nl J,tr⟩,J,io⟩
 ·refine a8 ?_
  refine S3 1 J<|l7 h λv1 hv1 h=>y1 J (b8Q (f:=slab_Cell_store_Obj.Pv) hv1 J J J Ty.e22 Ty.a4Y Ty.c1z Ty.c74 J J J) J<|S1 1 J<|y0 J (l6 (cs:=[.sl 21,.I a1]) J Ty.p24 Ty.z24 J J J)<|S2 1 J<|a6 ?_
  cases h
  exact⟨J,[_],⟨oL J J J Ty.a24 Ty.Y4 nl J,tr⟩,J,io⟩

theorem b6p{a0 a1}:PO Tryz.prog 97 [.I a0,.I a1] (b5c a0 a1) λr=>store_Store.Pv r:=by
 refine pO Tryz.func97 λr h _ _=>?_
 refine S4 1 J<|S3 2 J<|cF h a6m J J λv1 _ h=>y0 J (l6 (cs:=[.L slab_Cell_store_Obj.Pv v1.Cells,.I v1.Last,.I 0]) J Ty.p26 Ty.z26 J J J)<|S2 1 J<|a6 ?_
 cases h
 exact⟨J,[_],⟨oL J J J Ty.a26 Ty.s26 nl J,tr⟩,J,io⟩

theorem b8a{a0}:PO Tryz.prog 98 [.I a0] (b78 a0) λr=>.L weak_Cell.Pv r:=by
 refine pO Tryz.func98 λr h _ _=>?_
 refine S4 1 J<|b9<|S3 3 J<|b8 J (λhg=>mI J)<|b8 J (λhg=>j8 (ct hg) J J)<|y0 J (n8 J J J (λq=>H5 q))<|yN ?_
 refine cN h (λhc h=>?_) λhc h=>?_
 ·refine S4 1 J ?_
  refine a6 ?_
  cases h
  exact f1
 ·refine a8 ?_
  refine S3 1 J<|l7 h λv1 hv1 h=>y1 J (b8Q (f:=weak_Cell.Pv) hv1 J J J Ty.e28 Ty.s68 Ty.z68 Ty.b68 J J J) J<|S2 1 J ?_
  refine jq h (λj9=>St.of [(3,.sl 12)] [(12,⟨List.map weak_Cell.Pv j9,0,true,3,true⟩)]) (λj9 h=>?_) λκ8 h=>?_
  ·refine S4 2 J ?_
   refine a6 ?_
   cases h
   exact f1
  ·refine S3 1 J ?_
   refine y0 J (b4W (f:=weak_Cell.Pv) J J J Ty.e28)<|S2 1 J<|b7<|lq h (λq=>St.of [(3,.sl 12),(14,.I (v1.length:Int)),(15,.I q.1)] [(12,⟨List.map weak_Cell.Pv q.2,0,true,3,true⟩)]) W λq14 x13 h hx9=>?_
   obtain⟨s11,s12⟩:=q14
   refine S4 1 J<|b9 ?_
   refine cN h (λhc h=>?_) λhc h=>?_
   ·refine a8 ?_
    refine b9<|b7<|S4 2 J<|S5 2 J<|l7 h λv15 hv10 h=>y0 J (a0w (f:=weak_Cell.Pv) hv10 J J J J Ty.e28 Ty.s68 J)<|S1 1 J<|a6e (f:=weak_Cell.Pv) (v:=(⟨v15.Target,v15.Intact,(-1)⟩:weak_Cell)) hv10 J J (.inl J) Ty.s3<|yN<|S6 2 J ?_
    exact eL h W
   ·refine g8 ?_
    refine a7<|a7<|c4 ?_
    have h:=xL hx9 h
    exact eJ h W

theorem b64{a0}:PO Tryz.prog 99 [.I a0] (b63 a0) λr=>.L hash_Place.Pv r:=by
 refine pO Tryz.func99 λr h _ _=>?_
 refine S4 1 J<|b9<|S3 3 J<|b8 J (λhg=>mI J)<|b8 J (λhg=>j8 (ct hg) J J)<|y0 J (n8 J J J (λq=>H5 q))<|yN ?_
 refine cN h (λhc h=>?_) λhc h=>?_
 ·refine S4 1 J ?_
  refine a6 ?_
  cases h
  exact f1
 ·refine a8 ?_
  refine S3 1 J<|l7 h λv1 hv1 h=>y1 J (b8Q (f:=hash_Place.Pv) hv1 J J J Ty.e29 Ty.a83 Ty.c1A Ty.c76 J J J) J<|S2 1 J<|a6 ?_
  cases h
  exact f1

theorem a5C{a0}:PO Tryz.prog 174 [.I a0] (Y3 a0) λr=>queue_Queue_task_Task.Pv r:=by
 refine pO Tryz.func174 λr h _ _=>?_
 unfold Y3 at h
 refine S4 1 J<|S3 1 J<|y0 J (l6 (cs:=[.nl,.I a0]) J Ty.p32 Ty.z32 J J J)<|a6f (x':=.agg [.nl,.I a0]) (cl':=true) J J (.inl J) Ty.s32<|yN<|a6 ?_
 cases h
 exact⟨J,[_],⟨oL J J J Ty.a32 Ty.s32 nl J,tr⟩,J,io⟩

theorem b1E:PO Tryz.prog 100 [] (b0p) λr=>queue_Queue_task_Task.Pv r:=by
 refine pO Tryz.func100 λr h _ _=>?_
 refine S4 1 J<|sR<|cF h a5C J J λv1 _ h=>S2 1 J<|a6 ?_
 cases h
 exact⟨J,[_],⟨oL J J J Ty.a32 Ty.s32 nl J,tr⟩,J,io⟩

theorem b69{a0 a1 a2}:PO Tryz.prog 40 [.I a0,.I a1,.I a2] (b2Q a0 a1 a2) λr=>hold_Heap.Pv r:=by
 refine pO Tryz.func40 λr h _ _=>?_
 refine S4 1 J<|b9<|S3 3 J<|b8 J (λhg=>mI J)<|b8 J (λhg=>j8 (ct hg) J J)<|y0 J (n8 J J J (λq=>H5 q))<|S1 1 J<|b8 J (λhg=>mI J)<|b8 J (λhg=>j8 (ct hg) J J)<|y0 J (n8 J J J (λq=>H5 q))<|S1 1 J<|b8 J (λhg=>mI J)<|b8 J (λhg=>j8 (ct hg) J J)<|y0 J (n8 J J J (λq=>H5 q))<|S1 1 J<|b8 J (λhg=>mI J)<|b8 J (λhg=>j8 (ct hg) J J)<|y0 J (n8 J J J (λq=>H5 q))<|S1 1 J<|b8 J (λhg=>mI J)<|b8 J (λhg=>j8 (ct hg) J J)<|y0 J (n8 J J J (λq=>H5 q))<|yN ?_
 refine cN h (λhc h=>?_) λhc h=>?_
 ·refine sR ?_
  refine y0 J (l6 (cs:=[.nl,.I 0,.I 0,.nl,.nl,.nl,.nl,.I 0]) J Ty.p34 Ty.z34 J J J)<|a6f (x':=.agg [.nl,.I 0,.I 0,.nl,.nl,.nl,.nl,.I 0]) (cl':=true) J J (.inl J) Ty.I6<|yN<|a6 ?_
  cases h
  exact⟨J,[_],⟨oL J J J Ty.O2 Ty.I6 nl J,tr⟩,J,io⟩
 ·refine a8 ?_
  refine dr [] Ty.K8 (by kernel_rfl) (by kernel_rfl)<|S7 2 J<|l7 h λv1 hv1 h=>Q7 J (n0 J b6p J hv1) J<|l7 h λv2 hv2 h=>d1 J (b8Q (f:=iF) hv2 J J J Ty.p8 Ty.s3 Ty.z3 Ty.b3 J J J) J J J<|l7 h λv3 hv3 h=>Q7 J (n0 J b8a J hv3) J<|S7 1 J<|l7 h λv4 hv4 h=>Q7 J (n0 J b64 J hv4) J<|l7 h λv5 hv5 h=>Q7 J (n0 J b1E J hv5) J<|d7 J (λ_ hN=>l6 (cs:=[.L slab_Cell_store_Obj.Pv v1.S.Cells,.I v1.S.Last,.I v1.Serial,.sl 33,.L weak_Cell.Pv v3,.L hash_Place.Pv v4,.L task_Task.Pv v5.L,.I v5.Cap]) J Ty.p34 Ty.z34 J J J) J<|F0 (x':=.agg [.L slab_Cell_store_Obj.Pv v1.S.Cells,.I v1.S.Last,.I v1.Serial,.sl 33,.L weak_Cell.Pv v3,.L hash_Place.Pv v4,.L task_Task.Pv v5.L,.I v5.Cap]) (cl':=false) J J (.inr J) Ty.I6<|F6<|a6 ?_
  cases h
  exact⟨J,[_],⟨oL J J J Ty.O2 Ty.I6 nl J,tr⟩,J,io⟩

theorem x8:PO Tryz.prog 306 [.fn (.func 307) []] (T0) λr=>g6.Pv r:=by
 refine pO Tryz.func306 λr h _ _=>?_
 unfold T0 at h
 refine S4 1 J<|S3 1 J<|y0 J (l6 (cs:=[.fn (.func 307) [],.I 0,.I 5,.I 6]) J Ty.b25 Ty.a3C J J J)<|H2 (a2h 4 (d':=.agg [fvE (some 307),.I 0,.I 5,.I 6]) J)<|S2 1 J<|a6 ?_
 cases h
 exact⟨J,[_],⟨oL J J J Ty.b5m Ty.a4h nl J,tr⟩,J,io⟩

theorem T6:PO Tryz.prog 309 [.fn (.func 310) []] (N4) λr=>g6.Pv r:=by
 refine pO Tryz.func309 λr h _ _=>?_
 unfold N4 at h
 refine S4 1 J<|S3 1 J<|y0 J (l6 (cs:=[.fn (.func 310) [],.I (-1),.I 5,.I 13]) J Ty.b25 Ty.a3C J J J)<|H2 (a2h 4 (d':=.agg [fvE (some 310),.I (-1),.I 5,.I 13]) J)<|S2 1 J<|a6 ?_
 cases h
 exact⟨J,[_],⟨oL J J J Ty.b5m Ty.a4h nl J,tr⟩,J,io⟩

theorem C3{a0}:PO Tryz.prog 305 [.L g6.Pv a0] (G5 a0) λr=>.L g6.Pv r:=by
 refine pO Tryz.func305 λr h _ _=>?_
 unfold G5 at h
 refine S4 1 J<|S4 2 J<|a6 ?_
 cases h
 exact f1

theorem H8:PO Tryz.prog 306 [.fn (.func 308) []] (T1) λr=>g6.Pv r:=by
 refine pO Tryz.func306 λr h _ _=>?_
 unfold T1 at h
 refine S4 1 J<|S3 1 J<|y0 J (l6 (cs:=[.fn (.func 308) [],.I 0,.I 5,.I 6]) J Ty.b25 Ty.a3C J J J)<|H2 (a2h 4 (d':=.agg [fvE (some 308),.I 0,.I 5,.I 6]) J)<|S2 1 J<|a6 ?_
 cases h
 exact⟨J,[_],⟨oL J J J Ty.b5m Ty.a4h nl J,tr⟩,J,io⟩

theorem a3z:PO Tryz.prog 311 [.fn (.func 310) []] (Q6) λr=>g6.Pv r:=by
 refine pO Tryz.func311 λr h _ _=>?_
 unfold Q6 at h
 refine S4 1 J<|S3 1 J<|y0 J (l6 (cs:=[.fn (.func 310) [],.I 0,.I 3,.I 5]) J Ty.b25 Ty.a3C J J J)<|H2 (a2h 4 (d':=.agg [fvE (some 310),.I 0,.I 3,.I 5]) J)<|S2 1 J<|a6 ?_
 cases h
 exact⟨J,[_],⟨oL J J J Ty.b5m Ty.a4h nl J,tr⟩,J,io⟩

theorem a3y:PO Tryz.prog 311 [.fn (.func 308) []] (Q5) λr=>g6.Pv r:=by
 refine pO Tryz.func311 λr h _ _=>?_
 unfold Q5 at h
 refine S4 1 J<|S3 1 J<|y0 J (l6 (cs:=[.fn (.func 308) [],.I 0,.I 3,.I 5]) J Ty.b25 Ty.a3C J J J)<|H2 (a2h 4 (d':=.agg [fvE (some 308),.I 0,.I 3,.I 5]) J)<|S2 1 J<|a6 ?_
 cases h
 exact⟨J,[_],⟨oL J J J Ty.b5m Ty.a4h nl J,tr⟩,J,io⟩

theorem a1k:PO Tryz.prog 312 [.fn (.func 310) []] (K1) λr=>g6.Pv r:=by
 refine pO Tryz.func312 λr h _ _=>?_
 unfold K1 at h
 refine S4 1 J<|S3 1 J<|y0 J (l6 (cs:=[.fn (.func 310) [],.I (-1),.I 5,.I 6]) J Ty.b25 Ty.a3C J J J)<|H2 (a2h 4 (d':=.agg [fvE (some 310),.I (-1),.I 5,.I 6]) J)<|S2 1 J<|a6 ?_
 cases h
 exact⟨J,[_],⟨oL J J J Ty.b5m Ty.a4h nl J,tr⟩,J,io⟩

theorem a4a:PO Tryz.prog 313 [.fn (.func 307) []] (S0) λr=>g6.Pv r:=by
 refine pO Tryz.func313 λr h _ _=>?_
 unfold S0 at h
 refine S4 1 J<|S3 1 J<|y0 J (l6 (cs:=[.fn (.func 307) [],.I 0,.I 5,.I 7]) J Ty.b25 Ty.a3C J J J)<|H2 (a2h 4 (d':=.agg [fvE (some 307),.I 0,.I 5,.I 7]) J)<|S2 1 J<|a6 ?_
 cases h
 exact⟨J,[_],⟨oL J J J Ty.b5m Ty.a4h nl J,tr⟩,J,io⟩

theorem P0:PO Tryz.prog 312 [.fn (.func 308) []] (K0) λr=>g6.Pv r:=by
 refine pO Tryz.func312 λr h _ _=>?_
 unfold K0 at h
 refine S4 1 J<|S3 1 J<|y0 J (l6 (cs:=[.fn (.func 308) [],.I (-1),.I 5,.I 6]) J Ty.b25 Ty.a3C J J J)<|H2 (a2h 4 (d':=.agg [fvE (some 308),.I (-1),.I 5,.I 6]) J)<|S2 1 J<|a6 ?_
 cases h
 exact⟨J,[_],⟨oL J J J Ty.b5m Ty.a4h nl J,tr⟩,J,io⟩

theorem a4b:PO Tryz.prog 313 [.fn (.func 308) []] (S9) λr=>g6.Pv r:=by
 refine pO Tryz.func313 λr h _ _=>?_
 unfold S9 at h
 refine S4 1 J<|S3 1 J<|y0 J (l6 (cs:=[.fn (.func 308) [],.I 0,.I 5,.I 7]) J Ty.b25 Ty.a3C J J J)<|H2 (a2h 4 (d':=.agg [fvE (some 308),.I 0,.I 5,.I 7]) J)<|S2 1 J<|a6 ?_
 cases h
 exact⟨J,[_],⟨oL J J J Ty.b5m Ty.a4h nl J,tr⟩,J,io⟩

theorem b1M:PO Tryz.prog 241 [] (a9i) λr=>.abs (R3 (List.map (ent iF (Ls g6.Pv)) r)):=by
 refine pO Tryz.func241 λr h _ _=>?_
 refine S4 1 J<|sR<|b3O (KT:=Int) (VT:=List g6) (EK:=iF) (E:=(Ls g6.Pv)) 5000001 J J<|cF h x8 J J λv1 hv1 h=>y0 J (l6 (cs:=[.fn (.func 308) [],.I 0,.I 4,.I 1]) J Ty.b25 Ty.a3C J J J)<|H2 (a2h 3 (d':=.agg [fvE (some 308),.I 0,.I 4,.I 1]) J)<|cF h T6 J J λv2 hv2 h=>y0 J (F1 (f:=g6.Pv) (l:=[v1,(⟨(some 308),0,4,1⟩:g6),v2]) J Ty.b0H Ty.a4h Ty.a3C J J nl J J)<|cF h C3 J J λv3 _ h=>T3 (es:=[]) (k:=1) (v:=v3) (E:=(Ls g6.Pv)) (EK:=iF) (.inr J) J J J J J J Ty.a4B (w8 Ty.u3)<|yc J (n0 J x8 J hv1)<|cF h H8 J J λv4 hv4 h=>y0 J (F1 (f:=g6.Pv) (l:=[v1,v4]) J Ty.b0H Ty.a4h Ty.a3C J J nl J J)<|cF h C3 J J λv5 hv5 h=>T3 (es:=(m8 [] 1 v3)) (k:=2) (v:=v5) (E:=(Ls g6.Pv)) (EK:=iF) (.inr J) J J J J J J Ty.a4B (w8 Ty.u3)<|yc J (n0 J x8 J hv1)<|y0 J (F1 (f:=g6.Pv) (l:=[v1]) J Ty.b0H Ty.a4h Ty.a3C J J nl J J)<|cF h C3 J J λv6 _ h=>T3 (es:=(m8 (m8 [] 1 v3) 2 v5)) (k:=3) (v:=v6) (E:=(Ls g6.Pv)) (EK:=iF) (.inr J) J J J J J J Ty.a4B (w8 Ty.u3)<|yc J (n0 J x8 J hv1)<|yc J (n0 J H8 J hv4)<|cF h a3z J J λv7 _ h=>y0 J (F1 (f:=g6.Pv) (l:=[v1,v4,v7]) J Ty.b0H Ty.a4h Ty.a3C J J nl J J)<|cF h C3 J J λv8 _ h=>T3 (es:=(m8 (m8 (m8 [] 1 v3) 2 v5) 3 v6)) (k:=4) (v:=v8) (E:=(Ls g6.Pv)) (EK:=iF) (.inr J) J J J J J J Ty.a4B (w8 Ty.u3)<|yc J (n0 J x8 J hv1)<|cF h a3y J J λv9 _ h=>cF h a1k J J λv10 _ h=>y0 J (F1 (f:=g6.Pv) (l:=[v1,v9,v10]) J Ty.b0H Ty.a4h Ty.a3C J J nl J J)<|cF h C3 J J λv11 _ h=>?_
 refine T3 (es:=(m8 (m8 (m8 (m8 [] 1 v3) 2 v5) 3 v6) 4 v8)) (k:=5) (v:=v11) (E:=(Ls g6.Pv)) (EK:=iF) (.inr J) J J J J J J Ty.a4B (w8 Ty.u3)<|cF h a4a J J λv12 _ h=>cF h P0 J J λv13 hv13 h=>yc J (n0 J T6 J hv2)<|y0 J (F1 (f:=g6.Pv) (l:=[v12,v13,v2]) J Ty.b0H Ty.a4h Ty.a3C J J nl J J)<|cF h C3 J J λv14 _ h=>T3 (es:=(m8 (m8 (m8 (m8 (m8 [] 1 v3) 2 v5) 3 v6) 4 v8) 5 v11)) (k:=6) (v:=v14) (E:=(Ls g6.Pv)) (EK:=iF) (.inr J) J J J J J J Ty.a4B (w8 Ty.u3)<|yc J (n0 J x8 J hv1)<|cF h a4b J J λv15 _ h=>y0 J (F1 (f:=g6.Pv) (l:=[v1,v15]) J Ty.b0H Ty.a4h Ty.a3C J J nl J J)<|cF h C3 J J λv16 _ h=>T3 (es:=(m8 (m8 (m8 (m8 (m8 (m8 [] 1 v3) 2 v5) 3 v6) 4 v8) 5 v11) 6 v14)) (k:=7) (v:=v16) (E:=(Ls g6.Pv)) (EK:=iF) (.inr J) J J J J J J Ty.a4B (w8 Ty.u3)<|yc J (n0 J x8 J hv1)<|yc J (n0 J P0 J hv13)<|y0 J (F1 (f:=g6.Pv) (l:=[v1,v13]) J Ty.b0H Ty.a4h Ty.a3C J J nl J J)<|cF h C3 J J λv17 _ h=>T3 (es:=(m8 (m8 (m8 (m8 (m8 (m8 (m8 [] 1 v3) 2 v5) 3 v6) 4 v8) 5 v11) 6 v14) 7 v16)) (k:=8) (v:=v17) (E:=(Ls g6.Pv)) (EK:=iF) (.inr J) J J J J J J Ty.a4B (w8 Ty.u3)<|yc J (n0 J x8 J hv1)<|yc J (n0 J H8 J hv4)<|y0 J (F1 (f:=g6.Pv) (l:=[v1,v4]) J Ty.b0H Ty.a4h Ty.a3C J J nl J J)<|yc J (n0 J C3 J hv5)<|T3 (es:=(m8 (m8 (m8 (m8 (m8 (m8 (m8 (m8 [] 1 v3) 2 v5) 3 v6) 4 v8) 5 v11) 6 v14) 7 v16) 8 v17)) (k:=9) (v:=v5) (E:=(Ls g6.Pv)) (EK:=iF) (.inr J) J J J J J J Ty.a4B (w8 Ty.u3)<|yc J (n0 J x8 J hv1)<|yc J (n0 J H8 J hv4)<|y0 J (F1 (f:=g6.Pv) (l:=[v1,v4]) J Ty.b0H Ty.a4h Ty.a3C J J nl J J)<|yc J (n0 J C3 J hv5)<|T3 (es:=(m8 (m8 (m8 (m8 (m8 (m8 (m8 (m8 (m8 [] 1 v3) 2 v5) 3 v6) 4 v8) 5 v11) 6 v14) 7 v16) 8 v17) 9 v5)) (k:=10) (v:=v5) (E:=(Ls g6.Pv)) (EK:=iF) (.inr J) J J J J J J Ty.a4B (w8 Ty.u3)<|cF h C3 J J λv18 _ h=>T3 (es:=(m8 (m8 (m8 (m8 (m8 (m8 (m8 (m8 (m8 (m8 [] 1 v3) 2 v5) 3 v6) 4 v8) 5 v11) 6 v14) 7 v16) 8 v17) 9 v5) 10 v5)) (k:=11) (v:=v18) (E:=(Ls g6.Pv)) (EK:=iF) (.inr J) J J J J J J Ty.a4B (w8 Ty.u3)<|y0 J (l6 (cs:=[.fn (.func 307) [],.I 0,.I 200,.I 12]) J Ty.b25 Ty.a3C J J J) ?_
 refine H2 (a2h 46 (d':=.agg [fvE (some 307),.I 0,.I 200,.I 12]) J)<|y0 J (F1 (f:=g6.Pv) (l:=[(⟨(some 307),0,200,12⟩:g6)]) J Ty.b0H Ty.a4h Ty.a3C J J nl J J)<|cF h C3 J J λv19 _ h=>T3 (es:=(m8 (m8 (m8 (m8 (m8 (m8 (m8 (m8 (m8 (m8 (m8 [] 1 v3) 2 v5) 3 v6) 4 v8) 5 v11) 6 v14) 7 v16) 8 v17) 9 v5) 10 v5) 11 v18)) (k:=12) (v:=v19) (E:=(Ls g6.Pv)) (EK:=iF) (.inr J) J J J J J J Ty.a4B (w8 Ty.u3)<|S2 2 J<|a1h (b9o 0 5000001 J J)<|a6 ?_
 cases h
 exact f1

theorem a8l{a0}:PO Tryz.prog 307 [o0.Pv a0] (a8L a0) λr=>.I r:=by
 refine pO Tryz.func307 λr h _ _=>?_
 unfold a8L at h
 refine S4 2 J<|S4 3 J<|a6 ?_
 cases h
 exact f1

theorem a8m{a0}:PO Tryz.prog 308 [o0.Pv a0] (a8M a0) λr=>.I r:=by
 refine pO Tryz.func308 λr h _ _=>?_
 unfold a8M at h
 refine S4 2 J<|S4 3 J<|a6 ?_
 cases h
 exact f1

theorem a8n{a0}:PO Tryz.prog 310 [o0.Pv a0] (a8N a0) λr=>.I r:=by
 refine pO Tryz.func310 λr h _ _=>?_
 unfold a8N at h
 refine S4 2 J<|S4 3 J<|a6 ?_
 cases h
 exact f1

theorem b8D{f:Fv}{a0:o0}{r:Int}(h:b5G f a0=some r):∃n,f=some n∧A2 Tryz.prog n∧O9 Tryz.prog n [o0.Pv a0] (.I r):=by
 unfold b5G at h
 by_cases e307:f=some 307
 ·rw[if_pos e307] at h;exact⟨307,e307,(@a8l a0).1,(@a8l a0).2 _ h⟩
 rw[if_neg e307] at h
 by_cases e308:f=some 308
 ·rw[if_pos e308] at h;exact⟨308,e308,(@a8m a0).1,(@a8m a0).2 _ h⟩
 rw[if_neg e308] at h
 by_cases e310:f=some 310
 ·rw[if_pos e310] at h;exact⟨310,e310,(@a8n a0).1,(@a8n a0).2 _ h⟩
 rw[if_neg e310] at h
 cases h

theorem b3Z{a0}:PO Tryz.prog 170 [o0.Pv a0] (a5e a0) λr=>.I r:=by
 refine pO Tryz.func170 λr h _ _=>?_
 unfold a5e at h
 refine S4 2 J<|dr [] Ty.K8 (by kernel_rfl) (by kernel_rfl)<|l7 h λv1 hv1 h=>Q7 J (n0 J b1M J hv1) J<|S7 2 J<|d4 J (b7o (es:=v1) (k:=a0.Kind) (E:=(Ls g6.Pv)) (EK:=iF) (d:=.tup [.L g6.Pv ((w9 v1 a0.Kind).getD ([]:List g6)),.bool ((w9 v1 a0.Kind).isSome)]) J J Ty.a4B (w8 Ty.u3) Ty.d0i J (lk2 _ _ ([]:List g6))) J<|S8 5 J<|b9<|S4 2 J ?_
 refine cN h (λhc h=>?_) λhc h=>?_
 ·refine S4 1 J ?_
  refine a6 ?_
  cases h
  exact f1
 ·refine a8 ?_
  refine jq h (λ_=>St.of [] []) (λq9 h=>?_) λκ8 h=>?_
  ·refine S4 1 J ?_
   refine a6 ?_
   cases h
   exact f1
  ·refine S3 1 J ?_
   refine nL J Ty.b0H<|S2 1 J<|b7<|lq h (λs11=>St.of [(1,.ptr 1 0 0),(17,.L g6.Pv ((w9 v1 a0.Kind).getD ([]:List g6))),(18,.I (((w9 v1 a0.Kind).getD ([]:List g6)).length:Int)),(19,.I s11)] [(1,vR (o0.Pv a0) 4)]) W λs11 x12 h hx13=>S4 1 J<|b9 ?_
   refine cN h (λhc h=>?_) λhc h=>?_
   ·refine a8 ?_
    refine b9<|b7<|sR<|iL h J J Ty.b0H Ty.a4h λv13 _ h=>S2 3 J<|S3 3 J ?_
    obtain⟨v14,hv15,h⟩:=a5Y h
    obtain⟨n15,he16,hk17,hp18⟩:=b8D hv15
    refine H2 (c0t 24 J he16)<|y0 J (b20 J hk17 J hp18)<|S2 1 J<|S3 5 J<|b8 J (λhg=>mI J)<|b8 J (λhg=>oF J Ty.c6B J)<|b8 J (λhg=>oS (ct hg) J J Ty.a3 J)<|b8 J (λhg=>j8 (ct hg) (ct hg) J)<|y0 J (n8 J J J (λq=>H5 q))<|yN ?_
    refine cN h (λhc h=>?_) λhc h=>?_
    ·refine S4 3 J ?_
     refine a6 ?_
     have h:=xL hx13 h
     cases h
     exact f1
    ·refine a8 ?_
     refine S6 2 J ?_
     exact eL h W
   ·refine g8 ?_
    refine a7<|a7<|c4 ?_
    have h:=xL hx13 h
    exact eJ h W

theorem b0V:PO Tryz.prog 171 [] (N6) λr=>.abs (R3 (List.map (ent iF fvE) r)):=by
 refine pO Tryz.func171 λr h _ _=>?_
 unfold N6 at h
 refine S4 1 J<|sR<|b3O (KT:=Int) (VT:=Fv) (EK:=iF) (E:=fvE) 5000001 J J<|a4l (es:=[]) (k:=1) (v:=(some 242)) (E:=fvE) (EK:=iF) (.inr J) J J J J J J Ty.a6U (w8 Ty.u3)<|a4l (es:=(m8 [] 1 (some 242))) (k:=2) (v:=(some 243)) (E:=fvE) (EK:=iF) (.inr J) J J J J J J Ty.a6U (w8 Ty.u3)<|a4l (es:=(m8 (m8 [] 1 (some 242)) 2 (some 243))) (k:=3) (v:=(some 244)) (E:=fvE) (EK:=iF) (.inr J) J J J J J J Ty.a6U (w8 Ty.u3)<|a4l (es:=(m8 (m8 (m8 [] 1 (some 242)) 2 (some 243)) 3 (some 244))) (k:=4) (v:=(some 245)) (E:=fvE) (EK:=iF) (.inr J) J J J J J J Ty.a6U (w8 Ty.u3)<|a4l (es:=(m8 (m8 (m8 (m8 [] 1 (some 242)) 2 (some 243)) 3 (some 244)) 4 (some 245))) (k:=5) (v:=(some 246)) (E:=fvE) (EK:=iF) (.inr J) J J J J J J Ty.a6U (w8 Ty.u3)<|a4l (es:=(m8 (m8 (m8 (m8 (m8 [] 1 (some 242)) 2 (some 243)) 3 (some 244)) 4 (some 245)) 5 (some 246))) (k:=6) (v:=(some 247)) (E:=fvE) (EK:=iF) (.inr J) J J J J J J Ty.a6U (w8 Ty.u3)<|a4l (es:=(m8 (m8 (m8 (m8 (m8 (m8 [] 1 (some 242)) 2 (some 243)) 3 (some 244)) 4 (some 245)) 5 (some 246)) 6 (some 247))) (k:=7) (v:=(some 248)) (E:=fvE) (EK:=iF) (.inr J) J J J J J J Ty.a6U (w8 Ty.u3)<|a4l (es:=(m8 (m8 (m8 (m8 (m8 (m8 (m8 [] 1 (some 242)) 2 (some 243)) 3 (some 244)) 4 (some 245)) 5 (some 246)) 6 (some 247)) 7 (some 248))) (k:=8) (v:=(some 249)) (E:=fvE) (EK:=iF) (.inr J) J J J J J J Ty.a6U (w8 Ty.u3)<|a4l (es:=(m8 (m8 (m8 (m8 (m8 (m8 (m8 (m8 [] 1 (some 242)) 2 (some 243)) 3 (some 244)) 4 (some 245)) 5 (some 246)) 6 (some 247)) 7 (some 248)) 8 (some 249))) (k:=9) (v:=(some 250)) (E:=fvE) (EK:=iF) (.inr J) J J J J J J Ty.a6U (w8 Ty.u3)<|a4l (es:=(m8 (m8 (m8 (m8 (m8 (m8 (m8 (m8 (m8 [] 1 (some 242)) 2 (some 243)) 3 (some 244)) 4 (some 245)) 5 (some 246)) 6 (some 247)) 7 (some 248)) 8 (some 249)) 9 (some 250))) (k:=10) (v:=(some 251)) (E:=fvE) (EK:=iF) (.inr J) J J J J J J Ty.a6U (w8 Ty.u3)<|S2 2 J<|a1h (b9o 0 5000001 J J)<|a6 ?_
 cases h
 exact f1

theorem b9m{a0}:PO Tryz.prog 364 [.I a0] (c0s a0) λr=>.tup [.L iF r.1,.I r.2]:=by
 refine pO Tryz.func364 λr h _ _=>?_
 refine S4 2 J<|b9<|S3 3 J<|b8 J (λhg=>mI J)<|b8 J (λhg=>j8 (ct hg) J J)<|y0 J (n8 J J J (λq=>H5 q))<|yN ?_
 refine cN h (λhc h=>?_) λhc h=>?_
 ·refine S4 2 J ?_
  refine a6 ?_
  cases h
  exact f2
 ·refine a8 ?_
  refine S3 1 J<|l7 h λv1 hv1 h=>y1 J (b8Q (f:=iF) hv1 J J J Ty.p8 Ty.s3 Ty.z3 Ty.b3 J J J) J<|S2 2 J<|a6 ?_
  cases h
  exact f2

theorem a2d{a0}:PO Tryz.prog 365 [.I a0] (N2 a0) λr=>.bool r:=by
 refine pO Tryz.func365 λr h _ _=>?_
 unfold N2 at h
 refine S4 1 J<|S3 3 J<|b8 J (λhg=>mI J)<|b8 J (λhg=>j8 (ct hg) J J)<|y0 J (k7 J J J (λq=>H0 q))<|S2 1 J<|a6 ?_
 cases h
 exact f1

theorem a5R{a0}:PO Tryz.prog 390 [slab_Slab_store_Obj.Pv a0] (Y5 a0) λr=>.fn (.func 397) [.rptr (slab_Slab_store_Obj.Pc r)]:=by
 refine pO Tryz.func390 λr h _ _=>?_
 unfold Y5 at h
 refine S4 2 J<|S4 2 J<|a6 ?_
 cases h
 exact f1

theorem I9{a0}:PON Tryz.prog 351 [.L slab_Cell_store_Obj.Pv a0] (r9 a0) λr=>⟨List.map slab_Cell_store_Obj.Pv r,0,true,8,true⟩:=by
 refine pON Tryz.func351 λr h _ _=>?_
 unfold r9 at h
 refine S4 1 J<|b9<|S3 1 J<|b6C J Ty.e22 λb hb=>yN ?_
 refine E5 b J (λhc=>?_) (λhc=>?_)
 ·obtain rfl:a0 = []:=by simpa using hb hc
  refine S4 1 J<|a1h (B2 (t:=2) (l:=920000) (z:=8) J J)<|a6 ?_
  cases h
  exact⟨J,_,_,J,J,J,J⟩
 ·refine a8 ?_
  refine sR<|y0 J (A0 J Ty.e22 Ty.a4Y)<|S1 1 J<|y1 J (a4C (f:=slab_Cell_store_Obj.Pv) h J J (.inl ⟨_,J,J⟩) Ty.e22 Ty.a4Y Ty.c74 Ty.c1z J (λ_=>J)) J<|S2 1 J<|a6 ?_
  exact⟨J,_,_,J,J,J,J⟩

theorem G1{a0 a1 a2}:PO Tryz.prog 285 [slab_Slab_store_Obj.Pv a0,.I a1,slab_Cell_store_Obj.Pv a2] (B0 a0 a1 a2) λr=>slab_Slab_store_Obj.Pv r:=by
 refine pO Tryz.func285 λr h _ _=>?_
 unfold B0 at h
 refine S4 3 J<|S3 2 J<|l7 h λv1 hv1 h=>ycN J (b21 J I9 J hv1) J J<|S2 2 J<|S3 4 J<|l7 h λv2 hv2 h=>y0 J (a0w (f:=slab_Cell_store_Obj.Pv) hv2 J J J J Ty.e22 Ty.a4Y J)<|a6e (f:=slab_Cell_store_Obj.Pv) (v:=a2) hv2 J J (.inr J) Ty.a4Y<|yN<|S4 2 J<|a6 ?_
 cases h
 exact⟨J,[_],⟨oL J J J Ty.a24 Ty.Y4 nl J,tr⟩,J,io⟩

theorem a3b{a0 a1}:PO Tryz.prog 101 [.I a0,.I a1] (U4 a0 a1) λr=>.I r:=by
 refine pO Tryz.func101 λr h _ _=>?_
 refine S4 1 J<|b9<|S3 3 J<|b8 J (λhg=>mI J)<|b8 J (λhg=>j8 (ct hg) J J)<|y0 J (n8 J J J (λq=>H5 q))<|S1 1 J<|b8 J (λhg=>mI J)<|b8 J (λhg=>j8 (ct hg) J J)<|y0 J (n8 J J J (λq=>H5 q))<|S1 1 J<|b8 J (λhg=>mI J)<|b8 J (λhg=>j8 (ct hg) J J)<|y0 J (n8 J J J (λq=>H5 q))<|yN ?_
 refine cN h (λhc h=>?_) λhc h=>?_
 ·refine S4 1 J ?_
  refine a6 ?_
  cases h
  exact f1
 ·refine a8 ?_
  refine S4 7 J<|a6 ?_
  cases h
  exact f1

theorem a5Q{a0 a1}:PO Tryz.prog 366 [slab_Slab_store_Obj.Pv a0,store_Obj.Pv a1] (a2B a0 a1) λr=>.tup [slab_Slab_store_Obj.Pv r.1,.I r.2.1,.I r.2.2]:=by
 refine pO Tryz.func366 λr h _ _=>?_
 refine S4 5 J ?_
 refine jq h (λ_=>St.of [(2,.ptr 2005 0 0),(4,.ptr 2003 0 0),(5,.ptr 2002 0 0),(6,.ptr 2001 0 0)] [(2001,vR (.I 0) 1),(2002,vR (.I 0) 1),(2003,vR (.agg [.nl,.I 0]) 2),(2005,vR (slab_Slab_store_Obj.Pv a0) 2)]) (λq10 h=>?_) λκ9 h=>?_
 ·refine S4 4 J ?_
  refine a6 ?_
  cases h
  exact⟨J,[_,_,_],⟨oL J J J Ty.a24 Ty.Y4 nl J,⟨oS J J J Ty.a3 J,⟨oS J J J Ty.a63 J,tr⟩⟩⟩,J,io⟩
 ·refine S3 1 J ?_
  refine cF h a5R J J λv11 _ h=>yN<|b7<|a1h (WPE (λl=>if l=2006 then 6 else if l=2007 then 5 else if l=2008 then 4 else if l=2009 then 3 else if l=2010 then 2 else l) [(2,.ptr 2010 0 0),(3,.ptr 2009 0 0),(4,.ptr 2008 0 0),(5,.ptr 2007 0 0),(6,.ptr 2006 0 0),(10,.fn (.func 397) [.rptr (slab_Slab_store_Obj.Pc v11)])] [(2006,vR (.I 0) 1),(2007,vR (.I 0) 1),(2008,vR (.agg [.nl,.I 0]) 2),(2009,vR (store_Obj.Pv a1) 6),(2010,vR (slab_Slab_store_Obj.Pv a0) 2)]) ?_
  refine Z1 (fn:=Tryz.f397) (N1:=23) J Tryz.func397 J J nl J Ty.c9G J J (λl19 e20 o21 hR22=>?_)
  refine S3 2 J<|nL J Ty.e22<|S2 1 J<|b7<|lq h (λs13=>St.of [(1000002,.ptr 2010 0 0),(1000003,.ptr 2009 0 0),(1000004,.ptr 2008 0 0),(1000005,.ptr 2007 0 0),(1000006,.ptr 2006 0 0),(1000010,.fn (.func 397) [.rptr (slab_Slab_store_Obj.Pc v11)]),(0,.fn (.yield l19) []),(6,.L slab_Cell_store_Obj.Pv v11.Cells),(7,.I (v11.Cells.length:Int)),(8,.I s13)] [(2006,vR (.I 0) 1),(2007,vR (.I 0) 1),(2008,vR (.agg [.nl,.I 0]) 2),(2009,vR (store_Obj.Pv a1) 6),(2010,vR (slab_Slab_store_Obj.Pv a0) 2)]) W λs13 x14 h hx25=>S4 1 J<|b9 ?_
  refine cN h (λhc h=>?_) λhc h=>?_
  ·refine a8 ?_
   refine b9<|b7<|S3 1 J<|iL h J J Ty.e22 Ty.a4Y λv15 _ h=>S2 4 J<|S3 4 J<|b8 J (λhg=>om (d:=.fn (.yield l19) []) J)<|b8 J (λhg=>mI J) ?_
   rcases Bool.eq_false_or_eq_true ((v15.State==0)==true) with hg27 | hg27
   ·have h:=ifT h hg27
    refine H2 (WE [(1000002,.ptr 2010 0 0),(1000003,.ptr 2009 0 0),(1000004,.ptr 2008 0 0),(1000005,.ptr 2007 0 0),(1000006,.ptr 2006 0 0),(1000010,.fn (.func 397) [.rptr (slab_Slab_store_Obj.Pc v11)]),(0,.fn (.yield l19) []),(6,.L slab_Cell_store_Obj.Pv v11.Cells),(7,.I (v11.Cells.length:Int)),(8,.I s13),(16,.bool (v15.State==0)),(17,.fn (.yield l19) []),(18,.I s13)] [(2006,vR (.I 0) 1),(2007,vR (.I 0) 1),(2008,vR (.agg [.nl,.I 0]) 2),(2009,vR (store_Obj.Pv a1) 6),(2010,vR (slab_Slab_store_Obj.Pv a0) 2)]) ?_
    refine a33 hR22 (congrArg some hg27) J J J J J (λe28 o29 o30=>?_)
    refine S6 1 J ?_
    refine⟨J,?_⟩
    refine b7<|S3 3 J<|iL h J J Ty.e22 Ty.a4Y λv16 _ h=>S2 3 J<|S3 4 J<|y0 J (l6 (cs:=[.I 1,.I v16.Gen,.I a1.Serial,.I a1.Strong,.I a1.Weak,.I a1.Prog,.bool a1.Started,.L iF a1.Fields]) J Ty.c44 Ty.c1z J J J)<|cF h G1 J J λv17 _ h=>S1 2 J<|cA h a3b J J λv18 _ h=>S2 3 J<|a6 ?_
    refine⟨J,?_⟩
    refine H2 (WE [(1000002,.ptr 2010 0 0),(1000003,.ptr 2009 0 0),(1000004,.ptr 2008 0 0),(1000005,.ptr 2007 0 0),(1000006,.ptr 2006 0 0),(1000010,.fn (.func 397) [.rptr (slab_Slab_store_Obj.Pc v11)]),(0,.fn (.yield l19) []),(6,.L slab_Cell_store_Obj.Pv v11.Cells),(7,.I (v11.Cells.length:Int)),(8,.I s13),(16,.bool (v15.State==0)),(19,.bool false)] [(2006,vR (.I 0) 1),(2007,vR (.I v18) 1),(2008,vR (slab_Slab_store_Obj.Pv v17) 2),(2009,vR (store_Obj.Pv a1) 6),(2010,vR (slab_Slab_store_Obj.Pv a0) 2)])<|y0 (congrArg some hg27) (J7 J J)<|y0 J (a3R J J hg27)<|yN ?_
    refine E5 true J (λ_=>?_) (λq=>nomatch q)
    refine a6 ?_
    refine .inr ⟨.ret,J,c4w ?_⟩
    have h:=xL hx25 h
    cases h
    exact⟨J,[_,_,_],⟨oL J J J Ty.a24 Ty.Y4 nl J,⟨oS J J J Ty.a3 J,⟨oS J J J Ty.a63 J,tr⟩⟩⟩,J,io⟩
   ·have h:=ifF h hg27
    refine T4 (congrArg some hg27)<|T4 (congrArg some hg27)<|y0 J (a3Q J J hg27)<|yN ?_
    refine E5 false J (λq=>nomatch q) (λ_=>?_)
    refine a8<|S6 2 J ?_
    exact eL h W
  ·refine g8 ?_
   refine a7<|a7<|c4 ?_
   refine .inl ⟨J,?_⟩
   have h:=xL hx25 h
   exact eJ h (WP (λl=>if l=2005 then 2010 else if l=2003 then 2008 else if l=2002 then 2007 else if l=2001 then 2006 else l))

theorem b4k{a0 a1 a2}:PO Tryz.prog 314 [store_Store.Pv a0,.I a1,.I a2] (b3y a0 a1 a2) λr=>.tup [store_Store.Pv r.1,.I r.2.1,.I r.2.2]:=by
 refine pO Tryz.func314 λr h _ _=>?_
 refine S4 4 J<|S3 1 J<|cF h b9m J J λv1 _ h=>S2 5 J<|b9<|S4 2 J ?_
 refine cN h (λhc h=>?_) λhc h=>?_
 ·refine S4 5 J ?_
  refine a6 ?_
  cases h
  exact⟨J,[_,_,_],⟨oL J J J Ty.a26 Ty.s26 nl J,⟨J,⟨J,tr⟩⟩⟩,J,io⟩
 ·refine a8 ?_
  refine b9<|S3 1 J<|cA h a2d J J λv2 _ h=>S2 1 J ?_
  refine cN h (λhc h=>?_) λhc h=>?_
  ·refine S4 4 J ?_
   refine a6 ?_
   cases h
   exact⟨J,[_,_,_],⟨oL J J J Ty.a26 Ty.s26 nl J,⟨J,⟨J,tr⟩⟩⟩,J,io⟩
  ·refine a8 ?_
   refine S3 7 J<|y0 J (l6 (cs:=[.I (s7 (a0.Serial+1)),.I 0,.I 0,.I a2,.bool false,.L iF v1.1]) J Ty.c9K Ty.d0e J J J)<|cF h a5Q J J λv3 _ h=>S2 8 J<|b9<|S4 2 J ?_
   refine cN h (λhc h=>?_) λhc h=>?_
   ·refine S4 5 J ?_
    refine a6 ?_
    cases h
    exact⟨J,[_,_,_],⟨oL J J J Ty.a26 Ty.s26 nl J,⟨J,⟨J,tr⟩⟩⟩,J,io⟩
   ·refine a8 ?_
    refine S3 4 J<|y0 J (l6 (cs:=[.L slab_Cell_store_Obj.Pv v3.1.Cells,.I v3.1.Last,.I (s7 (a0.Serial+1))]) J Ty.p26 Ty.z26 J J J)<|S2 4 J<|a6 ?_
    cases h
    exact⟨J,[_,_,_],⟨oL J J J Ty.a26 Ty.s26 nl J,⟨J,⟨J,tr⟩⟩⟩,J,io⟩

theorem a54{a0}:PO Tryz.prog 347 [.I a0] (a0J a0) λr=>.tup [.I r.1,.I r.2.1,.bool r.2.2]:=by
 refine pO Tryz.func347 λr h _ _=>?_
 refine S4 3 J<|b9<|S4 2 J ?_
 refine cN h (λhc h=>?_) λhc h=>?_
 ·refine S4 3 J ?_
  refine a6 ?_
  cases h
  exact f3
 ·refine a8 ?_
  refine S3 2 J<|l7 h λv1 hv1 h=>y0 J (a4D J J hv1)<|l7 h λv2 hv2 h=>y0 J (a4D J J hv2)<|S1 2 J<|l7 h λv3 hv3 h=>y0 J (a4D J J hv3)<|S2 2 J<|b9<|S3 3 J<|b8 J (λhg=>mI J)<|b8 J (λhg=>j8 (ct hg) J J)<|y0 J (n8 J J J (λq=>H5 q))<|yN ?_
  refine cN h (λhc h=>?_) λhc h=>?_
  ·refine S4 3 J ?_
   refine a6 ?_
   cases h
   exact f3
  ·refine a8 ?_
   refine S4 5 J<|a6 ?_
   cases h
   exact f3

theorem a6J{a0}:PO Tryz.prog 277 [.I a0] (a11 a0) λr=>.I r:=by
 refine pO Tryz.func277 λr h _ _=>?_
 refine S4 1 J<|S3 1 J<|cA h a54 J J λv1 _ h=>S2 7 J<|S4 2 J<|a6 ?_
 cases h
 exact f1

theorem a8s{a0}:PO Tryz.prog 278 [.I a0] (a3a a0) λr=>.I r:=by
 refine pO Tryz.func278 λr h _ _=>?_
 refine S4 1 J<|S3 1 J<|cA h a54 J J λv1 _ h=>S2 7 J<|S4 2 J<|a6 ?_
 cases h
 exact f1

theorem E1{a0 a1}:PO Tryz.prog 208 [slab_Slab_store_Obj.Pv a0,.I a1] (p7 a0 a1) λr=>.tup [.I r.1,.I r.2]:=by
 refine pO Tryz.func208 λr h _ _=>?_
 refine S4 3 J<|b9<|S4 2 J ?_
 refine cN h (λhc h=>?_) λhc h=>?_
 ·refine S4 2 J ?_
  refine a6 ?_
  cases h
  exact f2
 ·refine a8 ?_
  refine S3 1 J<|cA h a6J J J λv1 _ h=>S2 1 J<|b9<|S3 3 J<|b8 J (λhg=>mI J)<|b8 J (λhg=>oF J Ty.c8c J)<|b8 J (λhg=>oS (ct hg) J J Ty.a22 J)<|b8 J (λhg=>D6 (f:=slab_Cell_store_Obj.Pv) (ct hg) Ty.e22)<|b8 J (λhg=>j8 (ct hg) (ct hg) J)<|y0 J (n8 J J J (λq=>H5 q))<|yN ?_
  refine cN h (λhc h=>?_) λhc h=>?_
  ·refine S4 2 J ?_
   refine a6 ?_
   cases h
   exact f2
  ·refine a8 ?_
   refine S3 3 J<|iL h J J Ty.e22 Ty.a4Y λv2 _ h=>S2 3 J<|b9<|dr [] Ty.K8 (by kernel_rfl) (by kernel_rfl)<|S7 3 J<|l7 h λv3 hv3 h=>d2 J (y5 J a8s J hv3) J<|S7 2 J<|m7 J (λhg _ hN=>oF J Ty.b2B J) J<|s6 J (λhg=>oS (ct hg) J J Ty.a3 J) J<|m7 J (λhg _ hN=>j8 (ct hg) J J) J<|m7 J (λhg _ hN=>om (d:=.bool (v2.State != 1)) (ct hg)) J<|m7 (n7 J J J) (λhg _ hN=>oF J Ty.b2B J) J<|s6 (n7 J J J) (λhg=>oS (ct hg) J J Ty.a3 J) J<|m7 (n7 J J J) (λhg _ hN=>j8 (ct hg) J J) J<|m7 J (λhg _ hN=>k7 (ct hg) J J (λq=>a1j hg (H0 q))) J<|d7 J (λ_ hN=>n8 J J J (λq=>H5 q)) J<|F6 ?_
   refine cN h (λhc h=>?_) λhc h=>?_
   ·refine S4 2 J ?_
    refine a6 ?_
    cases h
    exact f2
   ·refine a8 ?_
    refine S4 3 J<|a6 ?_
    cases h
    exact f2

theorem a1i{a0 a1}:PO Tryz.prog 152 [slab_Slab_store_Obj.Pv a0,.I a1] (C0 a0 a1) λr=>.tup [store_Obj.Pv r.1,.I r.2]:=by
 refine pO Tryz.func152 λr h _ _=>?_
 refine S4 3 J<|S4 1 J<|S3 2 J<|cA h E1 J J λv1 _ h=>S2 5 J<|b9<|S4 2 J ?_
 refine cN h (λhc h=>?_) λhc h=>?_
 ·refine S3 2 J ?_
  refine a6f (x':=.agg [.I 0,.I 0,.I 0,.I 0,.bool false,.nl]) (cl':=true) J J (.inl J) Ty.a4X<|S2 1 J<|a6 ?_
  cases h
  exact⟨J,[_,_],⟨oL J J J Ty.c1F Ty.a4X nl J,⟨J,tr⟩⟩,J,io⟩
 ·refine a8 ?_
  refine b9<|S3 3 J<|iL h J J Ty.e22 Ty.a4Y λv2 hv2 h=>S2 3 J ?_
  refine cN h (λhc h=>?_) λhc h=>?_
  ·refine S3 1 J ?_
   refine a6f (x':=.agg [.I 0,.I 0,.I 0,.I 0,.bool false,.nl]) (cl':=true) J J (.inl J) Ty.a4X<|S2 1 J<|a6 ?_
   cases h
   exact⟨J,[_,_],⟨oL J J J Ty.c1F Ty.a4X nl J,⟨J,tr⟩⟩,J,io⟩
  ·refine a8 ?_
   refine S3 3 J<|y0 J (p9 (f:=slab_Cell_store_Obj.Pv) (cs:=slab_Cell_store_Obj.Pc v2) hv2 J J Ty.e22 Ty.a4Y J J)<|S2 4 J<|a6 ?_
   cases h
   exact⟨J,[_,_],⟨oL J J J Ty.c1F Ty.a4X nl J,⟨J,tr⟩⟩,J,io⟩

theorem y4{a0 a1}:PO Tryz.prog 74 [store_Store.Pv a0,.I a1] (r5 a0 a1) λr=>.tup [store_Obj.Pv r.1,.I r.2]:=by
 refine pO Tryz.func74 λr h _ _=>?_
 refine S4 3 J<|S3 3 J<|cF h a1i J J λv1 _ h=>S2 4 J<|a6 ?_
 cases h
 exact⟨J,[_,_],⟨oL J J J Ty.c1F Ty.a4X nl J,⟨J,tr⟩⟩,J,io⟩

theorem a0M{a0 a1}:PO Tryz.prog 202 [hold_Heap.Pv a0,.I a1] (U8 a0 a1) λr=>.bool r:=by
 refine pO Tryz.func202 λr h _ _=>?_
 refine S4 2 J<|S3 3 J<|cF h y4 J J λv1 _ h=>S2 6 J<|S4 3 J<|a6 ?_
 cases h
 exact f1

theorem K5{a0 a1}:PO Tryz.prog 183 [hold_Heap.Pv a0,.I a1] (F2 a0 a1) λr=>.bool r:=by
 refine pO Tryz.func183 λr h _ _=>?_
 unfold F2 at h
 refine S4 2 J<|S3 3 J<|b8 J (λhg=>oL J J J Ty.O2 Ty.I6 nl J)<|b8 J (λhg=>mI J)<|l7 h λv1 hv1 h=>b8 J (λhg=>y5 J a0M (o8 (ct hg) (o8 (ct hg) J)) (u9 hv1 hg))<|y0 J (n8 J J J (λq=>H5 q))<|S2 1 J<|a6 ?_
 cases h
 exact f1

theorem U1{a0}:PO Tryz.prog 281 [.I a0] (C9 a0) λr=>.bool r:=by
 refine pO Tryz.func281 λr h _ _=>?_
 unfold C9 at h
 refine S4 1 J<|S4 3 J<|a6 ?_
 cases h
 exact f1

end Go.Proofs.YtlkcpapbolbjnaaGreat.Ok
