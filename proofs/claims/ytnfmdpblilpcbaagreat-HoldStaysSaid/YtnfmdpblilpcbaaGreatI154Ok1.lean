/-
 The functions of the program do as the plain functions do.
-/
import Derived.Test.YtnfmdpblilpcbaaGreatI154PwC
import Derived.Test.YtnfmdpblilpcbaaGreatI154PwD
import Derived.Test.YtnfmdpblilpcbaaGreatSrt
import Derived.Test.YtnfmdpblilpcbaaGreatI154Sh
import Derived.Test.YtnfmdpblilpcbaaGreatProg
namespace Go.Proofs.YtnfmdpblilpcbaaGreat.Ok
open Go Go.Pw Go.Sh Go.Proofs
set_option linter.unusedVariables false
set_option maxRecDepth 100000
set_option maxHeartbeats 4000000
abbrev _root_.Go.Sh.store_Obj.Pc (x : store_Obj) : List PV := [.I x.Serial, .I x.Strong, .I x.Weak, .I x.Prog, .bool x.Started, .L iF x.Fields]
abbrev _root_.Go.Sh.store_Obj.Pv (x : store_Obj) : PV := .agg x.Pc
abbrev _root_.Go.Sh.slab_Cell_store_Obj.Pc (x : slab_Cell_store_Obj) : List PV := [.I x.State, .I x.Gen, .I x.Val.Serial, .I x.Val.Strong, .I x.Val.Weak, .I x.Val.Prog, .bool x.Val.Started, .L iF x.Val.Fields]
abbrev _root_.Go.Sh.slab_Cell_store_Obj.Pv (x : slab_Cell_store_Obj) : PV := .agg x.Pc
abbrev _root_.Go.Sh.slab_Slab_store_Obj.Pc (x : slab_Slab_store_Obj) : List PV := [.L slab_Cell_store_Obj.Pv x.Cells, .I x.Last]
abbrev _root_.Go.Sh.slab_Slab_store_Obj.Pv (x : slab_Slab_store_Obj) : PV := .agg x.Pc
abbrev _root_.Go.Sh.store_Store.Pc (x : store_Store) : List PV := [.L slab_Cell_store_Obj.Pv x.S.Cells, .I x.S.Last, .I x.Serial]
abbrev _root_.Go.Sh.store_Store.Pv (x : store_Store) : PV := .agg x.Pc
abbrev _root_.Go.Sh.weak_Cell.Pc (x : weak_Cell) : List PV := [.I x.Target, .bool x.Intact, .I x.Call]
abbrev _root_.Go.Sh.weak_Cell.Pv (x : weak_Cell) : PV := .agg x.Pc
abbrev _root_.Go.Sh.hash_Place.Pc (x : hash_Place) : List PV := [.I x.State, .I x.Key, .I x.Val]
abbrev _root_.Go.Sh.hash_Place.Pv (x : hash_Place) : PV := .agg x.Pc
abbrev _root_.Go.Sh.task_Task.Pc (x : task_Task) : List PV := [.I x.Kind, .I x.At, .I x.Prog]
abbrev _root_.Go.Sh.task_Task.Pv (x : task_Task) : PV := .agg x.Pc
abbrev _root_.Go.Sh.queue_Queue_task_Task.Pc (x : queue_Queue_task_Task) : List PV := [.L task_Task.Pv x.L, .I x.Cap]
abbrev _root_.Go.Sh.queue_Queue_task_Task.Pv (x : queue_Queue_task_Task) : PV := .agg x.Pc
abbrev _root_.Go.Sh.hold_Heap.Pc (x : hold_Heap) : List PV := [.L slab_Cell_store_Obj.Pv x.S.S.Cells, .I x.S.S.Last, .I x.S.Serial, .L iF x.Roots, .L weak_Cell.Pv x.Cells, .L hash_Place.Pv x.T, .L task_Task.Pv x.Q.L, .I x.Q.Cap]
abbrev _root_.Go.Sh.hold_Heap.Pv (x : hold_Heap) : PV := .agg x.Pc
abbrev _root_.Go.Sh.r06_Obj.Pc (x : r06_Obj) : List PV := [.I x.Serial, .I x.Strong, .I x.Weak, .I x.Prog, .bool x.Started, .L iF x.Fields]
abbrev _root_.Go.Sh.r06_Obj.Pv (x : r06_Obj) : PV := .agg x.Pc
abbrev _root_.Go.Sh.r06_Cell.Pc (x : r06_Cell) : List PV := [.I x.State, .I x.Gen, .I x.Val.Serial, .I x.Val.Strong, .I x.Val.Weak, .I x.Val.Prog, .bool x.Val.Started, .L iF x.Val.Fields]
abbrev _root_.Go.Sh.r06_Cell.Pv (x : r06_Cell) : PV := .agg x.Pc
abbrev _root_.Go.Sh.r09_Cell.Pc (x : r09_Cell) : List PV := [.I x.Target, .bool x.Intact, .I x.Call]
abbrev _root_.Go.Sh.r09_Cell.Pv (x : r09_Cell) : PV := .agg x.Pc
abbrev _root_.Go.Sh.r10_Place.Pc (x : r10_Place) : List PV := [.I x.State, .I x.Key, .I x.Val]
abbrev _root_.Go.Sh.r10_Place.Pv (x : r10_Place) : PV := .agg x.Pc
abbrev _root_.Go.Sh.r14_Task.Pc (x : r14_Task) : List PV := [.I x.Kind, .I x.At, .I x.Prog]
abbrev _root_.Go.Sh.r14_Task.Pv (x : r14_Task) : PV := .agg x.Pc
abbrev _root_.Go.Sh.r06_Store.Pc (x : r06_Store) : List PV := [.L r06_Cell.Pv x.Cells, .I x.Last, .I x.Serial]
abbrev _root_.Go.Sh.r06_Store.Pv (x : r06_Store) : PV := .agg x.Pc
abbrev _root_.Go.Sh.r14_Queue.Pc (x : r14_Queue) : List PV := [.L r14_Task.Pv x.L, .I x.Cap]
abbrev _root_.Go.Sh.r14_Queue.Pv (x : r14_Queue) : PV := .agg x.Pc
abbrev _root_.Go.Sh.r15_Heap.Pc (x : r15_Heap) : List PV := [.L r06_Cell.Pv x.S.Cells, .I x.S.Last, .I x.S.Serial, .L iF x.Roots, .L r09_Cell.Pv x.Cells, .L r10_Place.Pv x.T, .L r14_Task.Pv x.Q.L, .I x.Q.Cap]
abbrev _root_.Go.Sh.r15_Heap.Pv (x : r15_Heap) : PV := .agg x.Pc
abbrev _root_.Go.Sh.r03_Cell.Pc (x : r03_Cell) : List PV := [.I x.State, .I x.Gen, .I x.Val]
abbrev _root_.Go.Sh.r03_Cell.Pv (x : r03_Cell) : PV := .agg x.Pc
abbrev _root_.Go.Sh.r03_Slab.Pc (x : r03_Slab) : List PV := [.L r03_Cell.Pv x.Cells, .I x.Last]
abbrev _root_.Go.Sh.r03_Slab.Pv (x : r03_Slab) : PV := .agg x.Pc
abbrev _root_.Go.Sh.r11_Pair.Pc (x : r11_Pair) : List PV := [.I x.Key, .I x.Val]
abbrev _root_.Go.Sh.r11_Pair.Pv (x : r11_Pair) : PV := .agg x.Pc
abbrev _root_.Go.Sh.hold_rootPlace.Pc (x : hold_rootPlace) : List PV := [.I x.r, .I x.h]
abbrev _root_.Go.Sh.hold_rootPlace.Pv (x : hold_rootPlace) : PV := .agg x.Pc
abbrev _root_.Go.Sh.hold_fieldPlace.Pc (x : hold_fieldPlace) : List PV := [.I x.h, .I x.k, .I x.v]
abbrev _root_.Go.Sh.hold_fieldPlace.Pv (x : hold_fieldPlace) : PV := .agg x.Pc
abbrev _root_.Go.Sh.hold_pairPlace.Pc (x : hold_pairPlace) : List PV := [.L hash_Place.Pv x.t]
abbrev _root_.Go.Sh.hold_pairPlace.Pv (x : hold_pairPlace) : PV := .agg x.Pc
abbrev _root_.Go.Sh.store_rule.Pc (x : store_rule) : List PV := [fvE x.kept]
abbrev _root_.Go.Sh.store_rule.Pv (x : store_rule) : PV := .agg x.Pc
abbrev _root_.Go.Sh.ephem_Pair.Pc (x : ephem_Pair) : List PV := [.I x.Key, .I x.Val]
abbrev _root_.Go.Sh.ephem_Pair.Pv (x : ephem_Pair) : PV := .agg x.Pc
namespace Ty
theorem a3 : tagg Tryz.prog 3 = some false := by kernel_rfl
theorem a4 : tagg Tryz.prog 4 = some false := by kernel_rfl
theorem a22 : tagg Tryz.prog 22 = some false := by kernel_rfl
theorem a24 : tagg Tryz.prog 24 = some true := by kernel_rfl
theorem a26 : tagg Tryz.prog 26 = some true := by kernel_rfl
theorem a27 : tagg Tryz.prog 27 = some false := by kernel_rfl
theorem a28 : tagg Tryz.prog 28 = some false := by kernel_rfl
theorem a29 : tagg Tryz.prog 29 = some false := by kernel_rfl
theorem a30 : tagg Tryz.prog 30 = some false := by kernel_rfl
theorem a32 : tagg Tryz.prog 32 = some true := by kernel_rfl
theorem a34 : tagg Tryz.prog 34 = some true := by kernel_rfl
theorem a35 : tagg Tryz.prog 35 = some false := by kernel_rfl
theorem a37 : tagg Tryz.prog 37 = some false := by kernel_rfl
theorem a40 : tagg Tryz.prog 40 = some false := by kernel_rfl
theorem a42 : tagg Tryz.prog 42 = some true := by kernel_rfl
theorem a43 : tagg Tryz.prog 43 = some false := by kernel_rfl
theorem a44 : tagg Tryz.prog 44 = some false := by kernel_rfl
theorem a45 : tagg Tryz.prog 45 = some false := by kernel_rfl
theorem a47 : tagg Tryz.prog 47 = some true := by kernel_rfl
theorem a49 : tagg Tryz.prog 49 = some true := by kernel_rfl
theorem a63 : tagg Tryz.prog 63 = some true := by kernel_rfl
theorem a82 : tagg Tryz.prog 82 = some true := by kernel_rfl
theorem a84 : tagg Tryz.prog 84 = some true := by kernel_rfl
theorem a91 : tagg Tryz.prog 91 = some true := by kernel_rfl
theorem a134 : tagg Tryz.prog 134 = some false := by kernel_rfl
theorem a136 : tagg Tryz.prog 136 = some true := by kernel_rfl
theorem a139 : tagg Tryz.prog 139 = some true := by kernel_rfl
theorem a141 : tagg Tryz.prog 141 = some true := by kernel_rfl
theorem a151 : tagg Tryz.prog 151 = some true := by kernel_rfl
theorem a160 : tagg Tryz.prog 160 = some true := by kernel_rfl
theorem a175 : tagg Tryz.prog 175 = some false := by kernel_rfl
theorem a182 : tagg Tryz.prog 182 = some true := by kernel_rfl
theorem a183 : tagg Tryz.prog 183 = some true := by kernel_rfl
theorem a220 : tagg Tryz.prog 220 = some true := by kernel_rfl
theorem a238 : tagg Tryz.prog 238 = some true := by kernel_rfl
theorem a239 : tagg Tryz.prog 239 = some false := by kernel_rfl
theorem a241 : tagg Tryz.prog 241 = some false := by kernel_rfl
theorem a242 : tagg Tryz.prog 242 = some false := by kernel_rfl
theorem a250 : tagg Tryz.prog 250 = some false := by kernel_rfl
theorem a252 : tagg Tryz.prog 252 = some true := by kernel_rfl
theorem a279 : tagg Tryz.prog 279 = some false := by kernel_rfl
theorem a281 : tagg Tryz.prog 281 = some true := by kernel_rfl
theorem a303 : tagg Tryz.prog 303 = some true := by kernel_rfl
theorem b3 : tbytes Tryz.prog 3 = some 8 := by kernel_rfl
theorem b84 : tbytes Tryz.prog 84 = some 24 := by kernel_rfl
theorem b139 : tbytes Tryz.prog 139 = some 80 := by kernel_rfl
theorem b141 : tbytes Tryz.prog 141 = some 80 := by kernel_rfl
theorem b151 : tbytes Tryz.prog 151 = some 24 := by kernel_rfl
theorem b160 : tbytes Tryz.prog 160 = some 24 := by kernel_rfl
theorem b182 : tbytes Tryz.prog 182 = some 24 := by kernel_rfl
theorem b183 : tbytes Tryz.prog 183 = some 24 := by kernel_rfl
theorem b215 : tbytes Tryz.prog 215 = some 16 := by kernel_rfl
theorem b220 : tbytes Tryz.prog 220 = some 24 := by kernel_rfl
theorem b238 : tbytes Tryz.prog 238 = some 16 := by kernel_rfl
theorem e22 : telem Tryz.prog 22 = some 141 := by kernel_rfl
theorem e27 : telem Tryz.prog 27 = some 3 := by kernel_rfl
theorem e28 : telem Tryz.prog 28 = some 84 := by kernel_rfl
theorem e29 : telem Tryz.prog 29 = some 183 := by kernel_rfl
theorem e30 : telem Tryz.prog 30 = some 82 := by kernel_rfl
theorem e40 : telem Tryz.prog 40 = some 139 := by kernel_rfl
theorem e43 : telem Tryz.prog 43 = some 160 := by kernel_rfl
theorem e44 : telem Tryz.prog 44 = some 182 := by kernel_rfl
theorem e45 : telem Tryz.prog 45 = some 151 := by kernel_rfl
theorem e134 : telem Tryz.prog 134 = some 220 := by kernel_rfl
theorem e178 : telem Tryz.prog 178 = some 35 := by kernel_rfl
theorem e212 : telem Tryz.prog 212 = some 215 := by kernel_rfl
theorem e239 : telem Tryz.prog 239 = some 238 := by kernel_rfl
theorem e277 : telem Tryz.prog 277 = some 281 := by kernel_rfl
theorem f24_0 : foff Tryz.prog 24 0 = some (0, 22) := by kernel_rfl
theorem f24_1 : foff Tryz.prog 24 1 = some (1, 3) := by kernel_rfl
theorem f26_0 : foff Tryz.prog 26 0 = some (0, 24) := by kernel_rfl
theorem f26_1 : foff Tryz.prog 26 1 = some (2, 3) := by kernel_rfl
theorem f32_0 : foff Tryz.prog 32 0 = some (0, 30) := by kernel_rfl
theorem f32_1 : foff Tryz.prog 32 1 = some (1, 3) := by kernel_rfl
theorem f34_0 : foff Tryz.prog 34 0 = some (0, 26) := by kernel_rfl
theorem f34_1 : foff Tryz.prog 34 1 = some (3, 27) := by kernel_rfl
theorem f34_2 : foff Tryz.prog 34 2 = some (4, 28) := by kernel_rfl
theorem f34_3 : foff Tryz.prog 34 3 = some (5, 29) := by kernel_rfl
theorem f34_4 : foff Tryz.prog 34 4 = some (6, 32) := by kernel_rfl
theorem f42_0 : foff Tryz.prog 42 0 = some (0, 40) := by kernel_rfl
theorem f42_1 : foff Tryz.prog 42 1 = some (1, 3) := by kernel_rfl
theorem f42_2 : foff Tryz.prog 42 2 = some (2, 3) := by kernel_rfl
theorem f47_0 : foff Tryz.prog 47 0 = some (0, 45) := by kernel_rfl
theorem f47_1 : foff Tryz.prog 47 1 = some (1, 3) := by kernel_rfl
theorem f49_0 : foff Tryz.prog 49 0 = some (0, 42) := by kernel_rfl
theorem f49_1 : foff Tryz.prog 49 1 = some (3, 27) := by kernel_rfl
theorem f49_2 : foff Tryz.prog 49 2 = some (4, 43) := by kernel_rfl
theorem f49_3 : foff Tryz.prog 49 3 = some (5, 44) := by kernel_rfl
theorem f49_4 : foff Tryz.prog 49 4 = some (6, 47) := by kernel_rfl
theorem f63_0 : foff Tryz.prog 63 0 = some (0, 3) := by kernel_rfl
theorem f63_1 : foff Tryz.prog 63 1 = some (1, 3) := by kernel_rfl
theorem f63_2 : foff Tryz.prog 63 2 = some (2, 3) := by kernel_rfl
theorem f63_3 : foff Tryz.prog 63 3 = some (3, 3) := by kernel_rfl
theorem f63_4 : foff Tryz.prog 63 4 = some (4, 4) := by kernel_rfl
theorem f63_5 : foff Tryz.prog 63 5 = some (5, 27) := by kernel_rfl
theorem f82_0 : foff Tryz.prog 82 0 = some (0, 3) := by kernel_rfl
theorem f82_1 : foff Tryz.prog 82 1 = some (1, 3) := by kernel_rfl
theorem f82_2 : foff Tryz.prog 82 2 = some (2, 3) := by kernel_rfl
theorem f84_0 : foff Tryz.prog 84 0 = some (0, 3) := by kernel_rfl
theorem f84_1 : foff Tryz.prog 84 1 = some (1, 4) := by kernel_rfl
theorem f84_2 : foff Tryz.prog 84 2 = some (2, 3) := by kernel_rfl
theorem f91_0 : foff Tryz.prog 91 0 = some (0, 3) := by kernel_rfl
theorem f91_1 : foff Tryz.prog 91 1 = some (1, 3) := by kernel_rfl
theorem f91_2 : foff Tryz.prog 91 2 = some (2, 3) := by kernel_rfl
theorem f91_3 : foff Tryz.prog 91 3 = some (3, 3) := by kernel_rfl
theorem f91_4 : foff Tryz.prog 91 4 = some (4, 4) := by kernel_rfl
theorem f91_5 : foff Tryz.prog 91 5 = some (5, 27) := by kernel_rfl
theorem f96_0 : foff Tryz.prog 96 0 = some (0, 3) := by kernel_rfl
theorem f96_1 : foff Tryz.prog 96 1 = some (1, 3) := by kernel_rfl
theorem f103_0 : foff Tryz.prog 103 0 = some (0, 3) := by kernel_rfl
theorem f103_1 : foff Tryz.prog 103 1 = some (1, 3) := by kernel_rfl
theorem f103_2 : foff Tryz.prog 103 2 = some (2, 3) := by kernel_rfl
theorem f123_0 : foff Tryz.prog 123 0 = some (0, 29) := by kernel_rfl
theorem f136_0 : foff Tryz.prog 136 0 = some (0, 134) := by kernel_rfl
theorem f136_1 : foff Tryz.prog 136 1 = some (1, 3) := by kernel_rfl
theorem f139_0 : foff Tryz.prog 139 0 = some (0, 3) := by kernel_rfl
theorem f139_1 : foff Tryz.prog 139 1 = some (1, 3) := by kernel_rfl
theorem f139_2 : foff Tryz.prog 139 2 = some (2, 63) := by kernel_rfl
theorem f141_0 : foff Tryz.prog 141 0 = some (0, 3) := by kernel_rfl
theorem f141_1 : foff Tryz.prog 141 1 = some (1, 3) := by kernel_rfl
theorem f141_2 : foff Tryz.prog 141 2 = some (2, 91) := by kernel_rfl
theorem f151_0 : foff Tryz.prog 151 0 = some (0, 3) := by kernel_rfl
theorem f151_1 : foff Tryz.prog 151 1 = some (1, 3) := by kernel_rfl
theorem f151_2 : foff Tryz.prog 151 2 = some (2, 3) := by kernel_rfl
theorem f160_0 : foff Tryz.prog 160 0 = some (0, 3) := by kernel_rfl
theorem f160_1 : foff Tryz.prog 160 1 = some (1, 4) := by kernel_rfl
theorem f160_2 : foff Tryz.prog 160 2 = some (2, 3) := by kernel_rfl
theorem f182_0 : foff Tryz.prog 182 0 = some (0, 3) := by kernel_rfl
theorem f182_1 : foff Tryz.prog 182 1 = some (1, 3) := by kernel_rfl
theorem f182_2 : foff Tryz.prog 182 2 = some (2, 3) := by kernel_rfl
theorem f183_0 : foff Tryz.prog 183 0 = some (0, 3) := by kernel_rfl
theorem f183_1 : foff Tryz.prog 183 1 = some (1, 3) := by kernel_rfl
theorem f183_2 : foff Tryz.prog 183 2 = some (2, 3) := by kernel_rfl
theorem f215_0 : foff Tryz.prog 215 0 = some (0, 3) := by kernel_rfl
theorem f215_1 : foff Tryz.prog 215 1 = some (1, 3) := by kernel_rfl
theorem f220_0 : foff Tryz.prog 220 0 = some (0, 3) := by kernel_rfl
theorem f220_1 : foff Tryz.prog 220 1 = some (1, 3) := by kernel_rfl
theorem f220_2 : foff Tryz.prog 220 2 = some (2, 3) := by kernel_rfl
theorem f238_0 : foff Tryz.prog 238 0 = some (0, 3) := by kernel_rfl
theorem f238_1 : foff Tryz.prog 238 1 = some (1, 3) := by kernel_rfl
theorem f252_0 : foff Tryz.prog 252 0 = some (0, 250) := by kernel_rfl
theorem f281_0 : foff Tryz.prog 281 0 = some (0, 279) := by kernel_rfl
theorem k15 : Callable Tryz.prog 15 := kC Tryz.func15 J
theorem k16 : Callable Tryz.prog 16 := kC Tryz.func16 J
theorem k17 : Callable Tryz.prog 17 := kC Tryz.func17 J
theorem k19 : Callable Tryz.prog 19 := kC Tryz.func19 J
theorem k20 : Callable Tryz.prog 20 := kC Tryz.func20 J
theorem k22 : Callable Tryz.prog 22 := kC Tryz.func22 J
theorem k24 : Callable Tryz.prog 24 := kC Tryz.func24 J
theorem k26 : Callable Tryz.prog 26 := kC Tryz.func26 J
theorem k28 : Callable Tryz.prog 28 := kC Tryz.func28 J
theorem k29 : Callable Tryz.prog 29 := kC Tryz.func29 J
theorem k32 : Callable Tryz.prog 32 := kC Tryz.func32 J
theorem k33 : Callable Tryz.prog 33 := kC Tryz.func33 J
theorem k34 : Callable Tryz.prog 34 := kC Tryz.func34 J
theorem k48 : Callable Tryz.prog 48 := kC Tryz.func48 J
theorem k55 : Callable Tryz.prog 55 := kC Tryz.func55 J
theorem k56 : Callable Tryz.prog 56 := kC Tryz.func56 J
theorem k57 : Callable Tryz.prog 57 := kC Tryz.func57 J
theorem k58 : Callable Tryz.prog 58 := kC Tryz.func58 J
theorem k59 : Callable Tryz.prog 59 := kC Tryz.func59 J
theorem k60 : Callable Tryz.prog 60 := kC Tryz.func60 J
theorem k61 : Callable Tryz.prog 61 := kC Tryz.func61 J
theorem k62 : Callable Tryz.prog 62 := kC Tryz.func62 J
theorem k63 : Callable Tryz.prog 63 := kC Tryz.func63 J
theorem k64 : Callable Tryz.prog 64 := kC Tryz.func64 J
theorem k65 : Callable Tryz.prog 65 := kC Tryz.func65 J
theorem k66 : Callable Tryz.prog 66 := kC Tryz.func66 J
theorem k67 : Callable Tryz.prog 67 := kC Tryz.func67 J
theorem k68 : Callable Tryz.prog 68 := kC Tryz.func68 J
theorem k69 : Callable Tryz.prog 69 := kC Tryz.func69 J
theorem k70 : Callable Tryz.prog 70 := kC Tryz.func70 J
theorem k71 : Callable Tryz.prog 71 := kC Tryz.func71 J
theorem k72 : Callable Tryz.prog 72 := kC Tryz.func72 J
theorem k75 : Callable Tryz.prog 75 := kC Tryz.func75 J
theorem k80 : Callable Tryz.prog 80 := kC Tryz.func80 J
theorem k81 : Callable Tryz.prog 81 := kC Tryz.func81 J
theorem k82 : Callable Tryz.prog 82 := kC Tryz.func82 J
theorem k83 : Callable Tryz.prog 83 := kC Tryz.func83 J
theorem k84 : Callable Tryz.prog 84 := kC Tryz.func84 J
theorem k88 : Callable Tryz.prog 88 := kC Tryz.func88 J
theorem k89 : Callable Tryz.prog 89 := kC Tryz.func89 J
theorem k90 : Callable Tryz.prog 90 := kC Tryz.func90 J
theorem k92 : Callable Tryz.prog 92 := kC Tryz.func92 J
theorem k93 : Callable Tryz.prog 93 := kC Tryz.func93 J
theorem k94 : Callable Tryz.prog 94 := kC Tryz.func94 J
theorem k95 : Callable Tryz.prog 95 := kC Tryz.func95 J
theorem k99 : Callable Tryz.prog 99 := kC Tryz.func99 J
theorem k100 : Callable Tryz.prog 100 := kC Tryz.func100 J
theorem k101 : Callable Tryz.prog 101 := kC Tryz.func101 J
theorem k102 : Callable Tryz.prog 102 := kC Tryz.func102 J
theorem k103 : Callable Tryz.prog 103 := kC Tryz.func103 J
theorem k104 : Callable Tryz.prog 104 := kC Tryz.func104 J
theorem k105 : Callable Tryz.prog 105 := kC Tryz.func105 J
theorem k106 : Callable Tryz.prog 106 := kC Tryz.func106 J
theorem k107 : Callable Tryz.prog 107 := kC Tryz.func107 J
theorem k108 : Callable Tryz.prog 108 := kC Tryz.func108 J
theorem k113 : Callable Tryz.prog 113 := kC Tryz.func113 J
theorem k121 : Callable Tryz.prog 121 := kC Tryz.func121 J
theorem k126 : Callable Tryz.prog 126 := kC Tryz.func126 J
theorem k130 : Callable Tryz.prog 130 := kC Tryz.func130 J
theorem k132 : Callable Tryz.prog 132 := kC Tryz.func132 J
theorem k133 : Callable Tryz.prog 133 := kC Tryz.func133 J
theorem k134 : Callable Tryz.prog 134 := kC Tryz.func134 J
theorem k135 : Callable Tryz.prog 135 := kC Tryz.func135 J
theorem k136 : Callable Tryz.prog 136 := kC Tryz.func136 J
theorem k137 : Callable Tryz.prog 137 := kC Tryz.func137 J
theorem k138 : Callable Tryz.prog 138 := kC Tryz.func138 J
theorem k139 : Callable Tryz.prog 139 := kC Tryz.func139 J
theorem k140 : Callable Tryz.prog 140 := kC Tryz.func140 J
theorem k141 : Callable Tryz.prog 141 := kC Tryz.func141 J
theorem k142 : Callable Tryz.prog 142 := kC Tryz.func142 J
theorem k143 : Callable Tryz.prog 143 := kC Tryz.func143 J
theorem k144 : Callable Tryz.prog 144 := kC Tryz.func144 J
theorem k145 : Callable Tryz.prog 145 := kC Tryz.func145 J
theorem k146 : Callable Tryz.prog 146 := kC Tryz.func146 J
theorem k147 : Callable Tryz.prog 147 := kC Tryz.func147 J
theorem k148 : Callable Tryz.prog 148 := kC Tryz.func148 J
theorem k149 : Callable Tryz.prog 149 := kC Tryz.func149 J
theorem k150 : Callable Tryz.prog 150 := kC Tryz.func150 J
theorem k151 : Callable Tryz.prog 151 := kC Tryz.func151 J
theorem k152 : Callable Tryz.prog 152 := kC Tryz.func152 J
theorem k153 : Callable Tryz.prog 153 := kC Tryz.func153 J
theorem k154 : Callable Tryz.prog 154 := kC Tryz.func154 J
theorem k155 : Callable Tryz.prog 155 := kC Tryz.func155 J
theorem k156 : Callable Tryz.prog 156 := kC Tryz.func156 J
theorem k157 : Callable Tryz.prog 157 := kC Tryz.func157 J
theorem k161 : Callable Tryz.prog 161 := kC Tryz.func161 J
theorem k162 : Callable Tryz.prog 162 := kC Tryz.func162 J
theorem k163 : Callable Tryz.prog 163 := kC Tryz.func163 J
theorem k164 : Callable Tryz.prog 164 := kC Tryz.func164 J
theorem k165 : Callable Tryz.prog 165 := kC Tryz.func165 J
theorem k166 : Callable Tryz.prog 166 := kC Tryz.func166 J
theorem k169 : Callable Tryz.prog 169 := kC Tryz.func169 J
theorem k170 : Callable Tryz.prog 170 := kC Tryz.func170 J
theorem k171 : Callable Tryz.prog 171 := kC Tryz.func171 J
theorem k172 : Callable Tryz.prog 172 := kC Tryz.func172 J
theorem k175 : Callable Tryz.prog 175 := kC Tryz.func175 J
theorem k176 : Callable Tryz.prog 176 := kC Tryz.func176 J
theorem k177 : Callable Tryz.prog 177 := kC Tryz.func177 J
theorem k178 : Callable Tryz.prog 178 := kC Tryz.func178 J
theorem k179 : Callable Tryz.prog 179 := kC Tryz.func179 J
theorem k180 : Callable Tryz.prog 180 := kC Tryz.func180 J
theorem k181 : Callable Tryz.prog 181 := kC Tryz.func181 J
theorem k182 : Callable Tryz.prog 182 := kC Tryz.func182 J
theorem k183 : Callable Tryz.prog 183 := kC Tryz.func183 J
theorem k184 : Callable Tryz.prog 184 := kC Tryz.func184 J
theorem k185 : Callable Tryz.prog 185 := kC Tryz.func185 J
theorem k186 : Callable Tryz.prog 186 := kC Tryz.func186 J
theorem k187 : Callable Tryz.prog 187 := kC Tryz.func187 J
theorem k190 : Callable Tryz.prog 190 := kC Tryz.func190 J
theorem k193 : Callable Tryz.prog 193 := kC Tryz.func193 J
theorem k194 : Callable Tryz.prog 194 := kC Tryz.func194 J
theorem k195 : Callable Tryz.prog 195 := kC Tryz.func195 J
theorem k196 : Callable Tryz.prog 196 := kC Tryz.func196 J
theorem k199 : Callable Tryz.prog 199 := kC Tryz.func199 J
theorem k200 : Callable Tryz.prog 200 := kC Tryz.func200 J
theorem k201 : Callable Tryz.prog 201 := kC Tryz.func201 J
theorem k202 : Callable Tryz.prog 202 := kC Tryz.func202 J
theorem k203 : Callable Tryz.prog 203 := kC Tryz.func203 J
theorem k204 : Callable Tryz.prog 204 := kC Tryz.func204 J
theorem k205 : Callable Tryz.prog 205 := kC Tryz.func205 J
theorem k206 : Callable Tryz.prog 206 := kC Tryz.func206 J
theorem k207 : Callable Tryz.prog 207 := kC Tryz.func207 J
theorem k208 : Callable Tryz.prog 208 := kC Tryz.func208 J
theorem k209 : Callable Tryz.prog 209 := kC Tryz.func209 J
theorem k210 : Callable Tryz.prog 210 := kC Tryz.func210 J
theorem k211 : Callable Tryz.prog 211 := kC Tryz.func211 J
theorem k212 : Callable Tryz.prog 212 := kC Tryz.func212 J
theorem k213 : Callable Tryz.prog 213 := kC Tryz.func213 J
theorem k214 : Callable Tryz.prog 214 := kC Tryz.func214 J
theorem k215 : Callable Tryz.prog 215 := kC Tryz.func215 J
theorem k216 : Callable Tryz.prog 216 := kC Tryz.func216 J
theorem k217 : Callable Tryz.prog 217 := kC Tryz.func217 J
theorem k218 : Callable Tryz.prog 218 := kC Tryz.func218 J
theorem k219 : Callable Tryz.prog 219 := kC Tryz.func219 J
theorem k220 : Callable Tryz.prog 220 := kC Tryz.func220 J
theorem k221 : Callable Tryz.prog 221 := kC Tryz.func221 J
theorem k222 : Callable Tryz.prog 222 := kC Tryz.func222 J
theorem k223 : Callable Tryz.prog 223 := kC Tryz.func223 J
theorem k224 : Callable Tryz.prog 224 := kC Tryz.func224 J
theorem k227 : Callable Tryz.prog 227 := kC Tryz.func227 J
theorem k228 : Callable Tryz.prog 228 := kC Tryz.func228 J
theorem k229 : Callable Tryz.prog 229 := kC Tryz.func229 J
theorem k231 : Callable Tryz.prog 231 := kC Tryz.func231 J
theorem k232 : Callable Tryz.prog 232 := kC Tryz.func232 J
theorem k233 : Callable Tryz.prog 233 := kC Tryz.func233 J
theorem k236 : Callable Tryz.prog 236 := kC Tryz.func236 J
theorem k239 : Callable Tryz.prog 239 := kC Tryz.func239 J
theorem k241 : Callable Tryz.prog 241 := kC Tryz.func241 J
theorem k242 : Callable Tryz.prog 242 := kC Tryz.func242 J
theorem k253 : Callable Tryz.prog 253 := kC Tryz.func253 J
theorem k254 : Callable Tryz.prog 254 := kC Tryz.func254 J
theorem k255 : Callable Tryz.prog 255 := kC Tryz.func255 J
theorem k256 : Callable Tryz.prog 256 := kC Tryz.func256 J
theorem k257 : Callable Tryz.prog 257 := kC Tryz.func257 J
theorem k258 : Callable Tryz.prog 258 := kC Tryz.func258 J
theorem k259 : Callable Tryz.prog 259 := kC Tryz.func259 J
theorem k260 : Callable Tryz.prog 260 := kC Tryz.func260 J
theorem k261 : Callable Tryz.prog 261 := kC Tryz.func261 J
theorem k262 : Callable Tryz.prog 262 := kC Tryz.func262 J
theorem k264 : Callable Tryz.prog 264 := kC Tryz.func264 J
theorem k265 : Callable Tryz.prog 265 := kC Tryz.func265 J
theorem k266 : Callable Tryz.prog 266 := kC Tryz.func266 J
theorem k267 : Callable Tryz.prog 267 := kC Tryz.func267 J
theorem k268 : Callable Tryz.prog 268 := kC Tryz.func268 J
theorem k275 : Callable Tryz.prog 275 := kC Tryz.func275 J
theorem k276 : Callable Tryz.prog 276 := kC Tryz.func276 J
theorem k277 : Callable Tryz.prog 277 := kC Tryz.func277 J
theorem k278 : Callable Tryz.prog 278 := kC Tryz.func278 J
theorem k279 : Callable Tryz.prog 279 := kC Tryz.func279 J
theorem k280 : Callable Tryz.prog 280 := kC Tryz.func280 J
theorem k281 : Callable Tryz.prog 281 := kC Tryz.func281 J
theorem k282 : Callable Tryz.prog 282 := kC Tryz.func282 J
theorem k283 : Callable Tryz.prog 283 := kC Tryz.func283 J
theorem k285 : Callable Tryz.prog 285 := kC Tryz.func285 J
theorem k286 : Callable Tryz.prog 286 := kC Tryz.func286 J
theorem k287 : Callable Tryz.prog 287 := kC Tryz.func287 J
theorem k288 : Callable Tryz.prog 288 := kC Tryz.func288 J
theorem mm175 : tmap Tryz.prog 175 = some (3, 3) := by kernel_rfl
theorem mm222 : tmap Tryz.prog 222 = some (3, 4) := by kernel_rfl
theorem mm242 : tmap Tryz.prog 242 = some (82, 4) := by kernel_rfl
theorem p24 : bplaces Tryz.prog 24 = some (fun i => (#[(0, 1), (1, 1)] : Array (Nat × Nat))[i]?) := by kernel_rfl
theorem p26 : bplaces Tryz.prog 26 = some (fun i => (#[(0, 2), (2, 1)] : Array (Nat × Nat))[i]?) := by kernel_rfl
theorem p32 : bplaces Tryz.prog 32 = some (fun i => (#[(0, 1), (1, 1)] : Array (Nat × Nat))[i]?) := by kernel_rfl
theorem p34 : bplaces Tryz.prog 34 = some (fun i => (#[(0, 3), (3, 1), (4, 1), (5, 1), (6, 2)] : Array (Nat × Nat))[i]?) := by kernel_rfl
theorem p42 : bplaces Tryz.prog 42 = some (fun i => (#[(0, 1), (1, 1), (2, 1)] : Array (Nat × Nat))[i]?) := by kernel_rfl
theorem p47 : bplaces Tryz.prog 47 = some (fun i => (#[(0, 1), (1, 1)] : Array (Nat × Nat))[i]?) := by kernel_rfl
theorem p49 : bplaces Tryz.prog 49 = some (fun i => (#[(0, 3), (3, 1), (4, 1), (5, 1), (6, 2)] : Array (Nat × Nat))[i]?) := by kernel_rfl
theorem p63 : bplaces Tryz.prog 63 = some (fun i => (#[(0, 1), (1, 1), (2, 1), (3, 1), (4, 1), (5, 1)] : Array (Nat × Nat))[i]?) := by kernel_rfl
theorem p82 : bplaces Tryz.prog 82 = some (fun i => (#[(0, 1), (1, 1), (2, 1)] : Array (Nat × Nat))[i]?) := by kernel_rfl
theorem p84 : bplaces Tryz.prog 84 = some (fun i => (#[(0, 1), (1, 1), (2, 1)] : Array (Nat × Nat))[i]?) := by kernel_rfl
theorem p91 : bplaces Tryz.prog 91 = some (fun i => (#[(0, 1), (1, 1), (2, 1), (3, 1), (4, 1), (5, 1)] : Array (Nat × Nat))[i]?) := by kernel_rfl
theorem p96 : bplaces Tryz.prog 96 = some (fun i => (#[(0, 1), (1, 1)] : Array (Nat × Nat))[i]?) := by kernel_rfl
theorem p103 : bplaces Tryz.prog 103 = some (fun i => (#[(0, 1), (1, 1), (2, 1)] : Array (Nat × Nat))[i]?) := by kernel_rfl
theorem p123 : bplaces Tryz.prog 123 = some (fun i => (#[(0, 1)] : Array (Nat × Nat))[i]?) := by kernel_rfl
theorem p136 : bplaces Tryz.prog 136 = some (fun i => (#[(0, 1), (1, 1)] : Array (Nat × Nat))[i]?) := by kernel_rfl
theorem p139 : bplaces Tryz.prog 139 = some (fun i => (#[(0, 1), (1, 1), (2, 6)] : Array (Nat × Nat))[i]?) := by kernel_rfl
theorem p141 : bplaces Tryz.prog 141 = some (fun i => (#[(0, 1), (1, 1), (2, 6)] : Array (Nat × Nat))[i]?) := by kernel_rfl
theorem p183 : bplaces Tryz.prog 183 = some (fun i => (#[(0, 1), (1, 1), (2, 1)] : Array (Nat × Nat))[i]?) := by kernel_rfl
theorem p215 : bplaces Tryz.prog 215 = some (fun i => (#[(0, 1), (1, 1)] : Array (Nat × Nat))[i]?) := by kernel_rfl
theorem p220 : bplaces Tryz.prog 220 = some (fun i => (#[(0, 1), (1, 1), (2, 1)] : Array (Nat × Nat))[i]?) := by kernel_rfl
theorem p238 : bplaces Tryz.prog 238 = some (fun i => (#[(0, 1), (1, 1)] : Array (Nat × Nat))[i]?) := by kernel_rfl
theorem p252 : bplaces Tryz.prog 252 = some (fun i => (#[(0, 1)] : Array (Nat × Nat))[i]?) := by kernel_rfl
theorem p281 : bplaces Tryz.prog 281 = some (fun i => (#[(0, 1)] : Array (Nat × Nat))[i]?) := by kernel_rfl
theorem p303 : bplaces Tryz.prog 303 = some (fun i => some (i * 1, 1)) := by kernel_rfl
theorem q82 : fkinds Tryz.prog 82 = some [1, 1, 1] := by kernel_rfl
theorem q183 : fkinds Tryz.prog 183 = some [1, 1, 1] := by kernel_rfl
theorem q303 : fkinds Tryz.prog 303 = some [1, 1, 1, 1] := by kernel_rfl
theorem s3 : tsize Tryz.prog 3 = some 1 := by kernel_rfl
theorem s4 : tsize Tryz.prog 4 = some 1 := by kernel_rfl
theorem s22 : tsize Tryz.prog 22 = some 1 := by kernel_rfl
theorem s24 : tsize Tryz.prog 24 = some 2 := by kernel_rfl
theorem s26 : tsize Tryz.prog 26 = some 3 := by kernel_rfl
theorem s27 : tsize Tryz.prog 27 = some 1 := by kernel_rfl
theorem s28 : tsize Tryz.prog 28 = some 1 := by kernel_rfl
theorem s29 : tsize Tryz.prog 29 = some 1 := by kernel_rfl
theorem s32 : tsize Tryz.prog 32 = some 2 := by kernel_rfl
theorem s34 : tsize Tryz.prog 34 = some 8 := by kernel_rfl
theorem s35 : tsize Tryz.prog 35 = some 1 := by kernel_rfl
theorem s37 : tsize Tryz.prog 37 = some 1 := by kernel_rfl
theorem s42 : tsize Tryz.prog 42 = some 3 := by kernel_rfl
theorem s47 : tsize Tryz.prog 47 = some 2 := by kernel_rfl
theorem s49 : tsize Tryz.prog 49 = some 8 := by kernel_rfl
theorem s63 : tsize Tryz.prog 63 = some 6 := by kernel_rfl
theorem s82 : tsize Tryz.prog 82 = some 3 := by kernel_rfl
theorem s84 : tsize Tryz.prog 84 = some 3 := by kernel_rfl
theorem s91 : tsize Tryz.prog 91 = some 6 := by kernel_rfl
theorem s134 : tsize Tryz.prog 134 = some 1 := by kernel_rfl
theorem s136 : tsize Tryz.prog 136 = some 2 := by kernel_rfl
theorem s139 : tsize Tryz.prog 139 = some 8 := by kernel_rfl
theorem s141 : tsize Tryz.prog 141 = some 8 := by kernel_rfl
theorem s151 : tsize Tryz.prog 151 = some 3 := by kernel_rfl
theorem s160 : tsize Tryz.prog 160 = some 3 := by kernel_rfl
theorem s175 : tsize Tryz.prog 175 = some 1 := by kernel_rfl
theorem s182 : tsize Tryz.prog 182 = some 3 := by kernel_rfl
theorem s183 : tsize Tryz.prog 183 = some 3 := by kernel_rfl
theorem s215 : tsize Tryz.prog 215 = some 2 := by kernel_rfl
theorem s220 : tsize Tryz.prog 220 = some 3 := by kernel_rfl
theorem s238 : tsize Tryz.prog 238 = some 2 := by kernel_rfl
theorem s239 : tsize Tryz.prog 239 = some 1 := by kernel_rfl
theorem s242 : tsize Tryz.prog 242 = some 1 := by kernel_rfl
theorem s252 : tsize Tryz.prog 252 = some 1 := by kernel_rfl
theorem s281 : tsize Tryz.prog 281 = some 1 := by kernel_rfl
theorem s303 : tsize Tryz.prog 303 = some 4 := by kernel_rfl
theorem u3 : Tryz.prog.underlying 3 = some (.int .i64) := by kernel_rfl
theorem z3 : tzero Tryz.prog 3 = some ((.I 0)) := by kernel_rfl
theorem z4 : tzero Tryz.prog 4 = some ((.bool false)) := by kernel_rfl
theorem z24 : tzero Tryz.prog 24 = some ((.agg #[(.slice none 0 0), (.I 0)])) := by kernel_rfl
theorem z26 : tzero Tryz.prog 26 = some ((.agg #[(.slice none 0 0), (.I 0), (.I 0)])) := by kernel_rfl
theorem z27 : tzero Tryz.prog 27 = some ((.slice none 0 0)) := by kernel_rfl
theorem z29 : tzero Tryz.prog 29 = some ((.slice none 0 0)) := by kernel_rfl
theorem z32 : tzero Tryz.prog 32 = some ((.agg #[(.slice none 0 0), (.I 0)])) := by kernel_rfl
theorem z34 : tzero Tryz.prog 34 = some ((.agg #[(.slice none 0 0), (.I 0), (.I 0), (.slice none 0 0), (.slice none 0 0), (.slice none 0 0), (.slice none 0 0), (.I 0)])) := by kernel_rfl
theorem z35 : tzero Tryz.prog 35 = some (.nilFunc) := by kernel_rfl
theorem z37 : tzero Tryz.prog 37 = some ((.I 0)) := by kernel_rfl
theorem z42 : tzero Tryz.prog 42 = some ((.agg #[(.slice none 0 0), (.I 0), (.I 0)])) := by kernel_rfl
theorem z47 : tzero Tryz.prog 47 = some ((.agg #[(.slice none 0 0), (.I 0)])) := by kernel_rfl
theorem z49 : tzero Tryz.prog 49 = some ((.agg #[(.slice none 0 0), (.I 0), (.I 0), (.slice none 0 0), (.slice none 0 0), (.slice none 0 0), (.slice none 0 0), (.I 0)])) := by kernel_rfl
theorem z63 : tzero Tryz.prog 63 = some ((.agg #[(.I 0), (.I 0), (.I 0), (.I 0), (.bool false), (.slice none 0 0)])) := by kernel_rfl
theorem z82 : tzero Tryz.prog 82 = some ((.agg #[(.I 0), (.I 0), (.I 0)])) := by kernel_rfl
theorem z84 : tzero Tryz.prog 84 = some ((.agg #[(.I 0), (.bool false), (.I 0)])) := by kernel_rfl
theorem z91 : tzero Tryz.prog 91 = some ((.agg #[(.I 0), (.I 0), (.I 0), (.I 0), (.bool false), (.slice none 0 0)])) := by kernel_rfl
theorem z96 : tzero Tryz.prog 96 = some ((.agg #[(.I 0), (.I 0)])) := by kernel_rfl
theorem z103 : tzero Tryz.prog 103 = some ((.agg #[(.I 0), (.I 0), (.I 0)])) := by kernel_rfl
theorem z123 : tzero Tryz.prog 123 = some ((.agg #[(.slice none 0 0)])) := by kernel_rfl
theorem z136 : tzero Tryz.prog 136 = some ((.agg #[(.slice none 0 0), (.I 0)])) := by kernel_rfl
theorem z139 : tzero Tryz.prog 139 = some ((.agg #[(.I 0), (.I 0), (.I 0), (.I 0), (.I 0), (.I 0), (.bool false), (.slice none 0 0)])) := by kernel_rfl
theorem z141 : tzero Tryz.prog 141 = some ((.agg #[(.I 0), (.I 0), (.I 0), (.I 0), (.I 0), (.I 0), (.bool false), (.slice none 0 0)])) := by kernel_rfl
theorem z151 : tzero Tryz.prog 151 = some ((.agg #[(.I 0), (.I 0), (.I 0)])) := by kernel_rfl
theorem z160 : tzero Tryz.prog 160 = some ((.agg #[(.I 0), (.bool false), (.I 0)])) := by kernel_rfl
theorem z175 : tzero Tryz.prog 175 = some ((.map none)) := by kernel_rfl
theorem z182 : tzero Tryz.prog 182 = some ((.agg #[(.I 0), (.I 0), (.I 0)])) := by kernel_rfl
theorem z183 : tzero Tryz.prog 183 = some ((.agg #[(.I 0), (.I 0), (.I 0)])) := by kernel_rfl
theorem z215 : tzero Tryz.prog 215 = some ((.agg #[(.I 0), (.I 0)])) := by kernel_rfl
theorem z220 : tzero Tryz.prog 220 = some ((.agg #[(.I 0), (.I 0), (.I 0)])) := by kernel_rfl
theorem z238 : tzero Tryz.prog 238 = some ((.agg #[(.I 0), (.I 0)])) := by kernel_rfl
theorem z239 : tzero Tryz.prog 239 = some ((.slice none 0 0)) := by kernel_rfl
theorem z242 : tzero Tryz.prog 242 = some ((.map none)) := by kernel_rfl
theorem z252 : tzero Tryz.prog 252 = some ((.agg #[.nilFunc])) := by kernel_rfl
theorem z281 : tzero Tryz.prog 281 = some ((.agg #[.nilFunc])) := by kernel_rfl
theorem z303 : tzero Tryz.prog 303 = some ((.agg #[(.I 0), (.I 0), (.I 0), (.I 0)])) := by kernel_rfl
theorem mix : Tryz.prog.follows .mixedOrders = true := by kernel_rfl
end Ty
theorem sortAt : SortAt Tryz.prog (Tryz.sortF_ren.f 6) := sortAt_of Tryz.sortF
theorem w15_small_ok {a0 : store_Store} {r : Bool} (h : w15_small a0 = some r) : PCalls Tryz.prog 75 [store_Store.Pv a0] (.bool r) := by
 unfold w15_small at h
 refine pc_intro (N := 31) Tryz.func75 J J nl fun w0 imm0 => sR <| y1 J (o_box (d := store_Store.Pv a0) J J J J J) J <| yb J J <| yN ?_
 obtain ⟨κ5, hκ5, h⟩ := jnE h
 refine pw_jn0 (κ := κ5) (r := r) (fun (_ : Unit) => St.of [(1, .ptr 1 0 0)] [(1, ⟨[store_Store.Pv a0], 0, false, 3, true⟩)]) (fun q6 h => ?_) ?_
 ·subst hκ5
  refine sR <| yF J J Ty.f26_0 J <| yF J J Ty.f24_0 J <| yS J J J J Ty.a22 J <| y0 J (o_lnL (f := slab_Cell_store_Obj.Pv) J Ty.e22) <| y0 J (o_cmp J J J) <| yb J J <| yN <| pw_ret ?_
  obtain rfl := oj h
  exact ⟨J, [_], ⟨J, tr⟩, J, io⟩
 ·skip
  refine sR <| yi J J <| yN <| pw_block ?_
  obtain ⟨e7, hl6, hk7⟩ := bindE h
  refine pw_lp0 (fun (s8 : Int) => St.of [(1, .ptr 1 0 0), (3, .I s8)] [(1, ⟨[store_Store.Pv a0], 0, false, 3, true⟩)]) hl6 (wk_st _ _ ⟨J, J, J, J, J, J, tr⟩ ⟨rS, tr⟩) (fun s8 x9 h hx8 => ?_)
  refine pw_seq <| sR <| yI J J <| yF J J Ty.f26_0 J <| yF J J Ty.f24_0 J <| yS J J J J Ty.a22 J <| y0 J (o_lnL (f := slab_Cell_store_Obj.Pv) J Ty.e22) <| y0 J (o_cmp J J J) <| yB J J <| y_if J (fun hg => mI J) <| y_if J (fun hg => o_cmp (ct hg) J J) <| y0 J (pk_and J J J (fun q => eqT q)) <| yN ?_
  refine pw_cond ((decide (s8 < (a0.S.Cells.length : Int))) && (decide (s8 < 30))) J (fun hc => ?_) (fun hc => ?_)
  ·have h := ifT h hc
   refine pw_skip <| pw_seq <| pw_block <| sR <| yF J J Ty.f26_0 J <| yF J J Ty.f24_0 J <| yS J J J J Ty.a22 J <| yI J J <| bnE h fun v10 hv9 h => y0 J (o_ixL (f := slab_Cell_store_Obj.Pv) (cs := slab_Cell_store_Obj.Pc v10) hv9 J J Ty.e22 Ty.s141 J J) <| y0 J (o_fieldAddrR J Ty.f141_2 J) <| y0 J (o_fieldAddrR J Ty.f91_5 J) <| y0 J (o_loadRS J Ty.a27 J) <| y0 J (o_lnL (f := iF) J Ty.e27) <| y0 J (o_cmp J J J) <| yN ?_
   refine pw_cond (decide ((v10.Val.Fields.length : Int) > 10)) J (fun hc => ?_) (fun hc => ?_)
   ·have h := ifT h hc
    refine sR <| yb J J <| yN <| pw_ret ?_
    have he := hx8 _ (oj h).symm
    have h := hk7
    rw [← he] at h
    obtain rfl := oj h
    exact ⟨J, [_], ⟨J, tr⟩, J, io⟩
   ·have h := ifF h hc
    refine pw_skip <| s1 <| yI J J <| y0 J (o_ari J J J) <| yi J J <| yN ?_
    exact ⟨J, w64 (s8 + 1), (oj h).symm, (wk_st _ _ ⟨J, J, J, J, J, J, tr⟩ ⟨rS, tr⟩)⟩
  ·have h := ifF h hc
   refine pw_exit <| thenQ_exit <| thenQ_exit <| blockQ_exit ?_
   have he := hx8 _ (oj h).symm
   have h := hk7
   rw [← he] at h
   exact ⟨J, (), h, (wk_st _ _ ⟨J, J, J, tr⟩ ⟨rS, tr⟩)⟩

theorem w15_few_ok {a0 : hold_Heap} {r : Bool} (h : w15_few a0 = some r) : PCalls Tryz.prog 22 [hold_Heap.Pv a0] (.bool r) := by
 unfold w15_few at h
 refine pc_intro (N := 31) Tryz.func22 J J nl fun w0 imm0 => sR <| y1 J (o_box (d := hold_Heap.Pv a0) J J J J J) J <| yb J J <| yN <| sR <| yF J J Ty.f34_0 J <| yL J J J J Ty.a26 Ty.s26 nl J <| bnE h fun v1 hv1 h => y0 J (o_call J Ty.k75 J (w15_small_ok hv1)) <| yB J J <| y_if J (fun hg => oF J Ty.f34_1 J) <| y_if J (fun hg => oS (ct hg) J J Ty.a27 J) <| y_if J (fun hg => o_lnL (f := iF) (ct hg) Ty.e27) <| y_if J (fun hg => o_cmp (ct hg) J J) <| y0 J (pk_and J J J (fun q => eqT q)) <| yB J J <| y_if J (fun hg => oF J Ty.f34_2 J) <| y_if J (fun hg => oS (ct hg) J J Ty.a28 J) <| y_if J (fun hg => o_lnL (f := weak_Cell.Pv) (ct hg) Ty.e28) <| y_if J (fun hg => o_cmp (ct hg) J J) <| y0 J (pk_and J J J (fun q => eqT q)) <| yB J J <| y_if J (fun hg => oF J Ty.f34_3 J) <| y_if J (fun hg => oS (ct hg) J J Ty.a29 J) <| y_if J (fun hg => o_lnL (f := hash_Place.Pv) (ct hg) Ty.e29) <| y_if J (fun hg => o_cmp (ct hg) J J) <| y0 J (pk_and J J J (fun q => eqT q)) <| yB J J <| y_if J (fun hg => oF J Ty.f34_4 J) <| y_if J (fun hg => oF (ct hg) Ty.f32_0 J) <| y_if J (fun hg => oS (ct hg) J J Ty.a30 J) <| y_if J (fun hg => o_lnL (f := task_Task.Pv) (ct hg) Ty.e30) <| y_if J (fun hg => o_cmp (ct hg) J J) <| y0 J (pk_and J J J (fun q => eqT q)) <| yb J J <| yN <| pw_ret ?_
 obtain rfl := oj h
 exact ⟨J, [_], ⟨J, tr⟩, J, io⟩

theorem w15_obj_ok {a0 : store_Obj} {r : r06_Obj} (h : w15_obj a0 = some r) : PCalls Tryz.prog 108 [store_Obj.Pv a0] (r06_Obj.Pv r) := by
 unfold w15_obj at h
 refine pc_intro (N := 16) Tryz.func108 J J nl fun w0 imm0 => sR <| y1 J (o_box (d := store_Obj.Pv a0) J J J J J) J <| y1 J (o_alloc J Ty.z63 J J J) J <| yN <| sR <| yF J J Ty.f91_0 J <| yS J J J J Ty.a3 J <| yF J J Ty.f91_1 J <| yS J J J J Ty.a3 J <| yF J J Ty.f91_2 J <| yS J J J J Ty.a3 J <| yF J J Ty.f91_3 J <| yS J J J J Ty.a3 J <| yF J J Ty.f91_4 J <| yS J J J J Ty.a4 J <| yF J J Ty.f91_5 J <| yS J J J J Ty.a27 J <| y0 J (o_build (cs := [.I a0.Serial, .I a0.Strong, .I a0.Weak, .I a0.Prog, .bool a0.Started, .L iF a0.Fields]) J Ty.p63 Ty.z63 J J J) <| y_sto (x' := .agg [.I a0.Serial, .I a0.Strong, .I a0.Weak, .I a0.Prog, .bool a0.Started, .L iF a0.Fields]) (cl' := true) J J (.inr J) Ty.s63 <| yN <| pw_ret ?_
 obtain rfl := oj h
 exact ⟨J, [_], ⟨oL J J J Ty.a63 Ty.s63 nl J, tr⟩, J, io⟩

theorem w15_its_ok {a0 : store_Store} {r : r06_Store} (h : w15_its a0 = some r) : PCalls Tryz.prog 34 [store_Store.Pv a0] (r06_Store.Pv r) := by
 unfold w15_its at h
 refine pc_intro (N := 39) Tryz.func34 J J nl fun w0 imm0 => sR <| y1 J (o_box (d := store_Store.Pv a0) J J J J J) J <| y1 J (o_alloc J Ty.z42 J J J) J <| yN <| sR <| y0 J (o_nslice J Ty.e40 Ty.s139) <| yA (d := .lst true (List.map r06_Cell.Pv [])) J J <| yN ?_
 obtain ⟨κ9, hκ7, h⟩ := jnE h
 refine pw_jn0 (κ := κ9) (r := r) (fun (j10 : List r06_Cell) => St.of [(1, .ptr 1 0 0), (2, .ptr 2 0 0), (3, .sl 910003)] [(910003, ⟨List.map r06_Cell.Pv j10, (List.map r06_Cell.Pv j10).length, true, 8, true⟩), (2, ⟨[.agg [.lst true (List.map r06_Cell.Pv []), .I 0, .I 0]], 0, false, 3, true⟩), (1, ⟨[store_Store.Pv a0], 0, false, 3, true⟩)]) (fun j10 h => ?_) ?_
 ·subst hκ7
  refine sR <| yM (d := .sl 910003) J J <| yF J J Ty.f26_0 J <| yF J J Ty.f24_1 J <| yS J J J J Ty.a3 J <| yF J J Ty.f26_1 J <| yS J J J J Ty.a3 J <| y0 J (o_build (cs := [.sl 910003, .I a0.S.Last, .I a0.Serial]) J Ty.p42 Ty.z42 J J J) <| y_sto (x' := .agg [.sl 910003, .I a0.S.Last, .I a0.Serial]) (cl' := false) J J (.inl J) Ty.s42 <| yN <| pw_ret ?_
  obtain rfl := oj h
  exact ⟨J, [_], ⟨oL J J J Ty.a42 Ty.s42 nl J, tr⟩, J, io⟩
 ·skip
  refine sR <| yi J J <| yN <| pw_block ?_
  obtain ⟨e11, hl8, hk9⟩ := bindE h
  refine pw_lp0 (fun (q : Int × (List r06_Cell)) => St.of [(1, .ptr 1 0 0), (2, .ptr 2 0 0), (3, .sl 910003), (4, .I q.1)] [(2, ⟨[.agg [.lst true (List.map r06_Cell.Pv []), .I 0, .I 0]], 0, false, 3, true⟩), (1, ⟨[store_Store.Pv a0], 0, false, 3, true⟩), (910003, ⟨List.map r06_Cell.Pv q.2, (List.map r06_Cell.Pv q.2).length, true, 8, true⟩)]) hl8 (Wk.trans (wk_nil (t := 3) (l := 920003) (z := 8) J J) (wk_stP (fun l => if l = 910003 then 920003 else l) _ _ ⟨J, J, J, J, J, J, J, J, J, J, J, J, tr⟩ ⟨rN, rN, rN, tr⟩ J)) (fun q15 x14 h hx10 => ?_)
  obtain ⟨s12, s13⟩ := q15
  refine pw_seq <| sR <| yI J J <| yF J J Ty.f26_0 J <| yF J J Ty.f24_0 J <| yS J J J J Ty.a22 J <| y0 J (o_lnL (f := slab_Cell_store_Obj.Pv) J Ty.e22) <| y0 J (o_cmp J J J) <| yN ?_
  refine pw_cond (decide (s12 < (a0.S.Cells.length : Int))) J (fun hc => ?_) (fun hc => ?_)
  ·have h := ifT h hc
   refine pw_skip <| pw_seq <| pw_block <| sR <| yF J J Ty.f26_0 J <| yF J J Ty.f24_0 J <| yS J J J J Ty.a22 J <| yI J J <| bnE h fun v16 hv11 h => y0 J (o_ixL (f := slab_Cell_store_Obj.Pv) (cs := slab_Cell_store_Obj.Pc v16) hv11 J J Ty.e22 Ty.s141 J J) <| y0 J (o_loadRA J Ty.a141 Ty.s141 nl J) <| y1 J (o_alloc J Ty.z141 J J J) J <| y_sto (x' := slab_Cell_store_Obj.Pv v16) (cl' := true) J J (.inr J) Ty.s141 <| yN <| pw_drw [] Ty.mix (by kernel_rfl) (by kernel_rfl) <| d7 J (fun _ hN => om (d := .sl 910003) J) J <| d7 J (fun _ hN => oF J Ty.f141_0 J) J <| d0 J (oS J J J Ty.a3 J) J <| d7 J (fun _ hN => oF J Ty.f141_1 J) J <| d0 J (oS J J J Ty.a3 J) J <| d7 J (fun _ hN => oF J Ty.f141_2 J) J <| d0 J (oL J J J Ty.a91 Ty.s91 nl J) J <| bnE h fun v17 hv12 h => d2f J (o_callF J Ty.k108 J (w15_obj_ok hv12)) J <| d7 J (fun _ hN => o_build (cs := [.I v16.State, .I v16.Gen, .I v17.Serial, .I v17.Strong, .I v17.Weak, .I v17.Prog, .bool v17.Started, .L iF v17.Fields]) J Ty.p139 Ty.z139 J J J) J <| d1n J (o_bI (f := r06_Cell.Pv) (l := [(⟨v16.State, v16.Gen, v17⟩ : r06_Cell)]) J Ty.e40 Ty.s139 Ty.z139 J J nl J J) J <| bnE h fun v18 hv13 h => d3a J (o_apR (f := r06_Cell.Pv) hv13 J J J J J J (.inl ⟨_, J, J⟩) Ty.e40 Ty.s139 Ty.b139 Ty.z139 J (fun _ => J)) J J J J J <| d7 J (fun _ hN => oa (d := .sl 31) J) J <| d_nil <| s1 <| yI J J <| y0 J (o_ari J J J) <| yi J J <| yN ?_
   exact ⟨J, (w64 (s12 + 1), v18), (oj h).symm, (Wk.trans (wk_frz _ [31]) (wk_stP (fun l => if l = 910003 then 31 else l) _ _ ⟨J, J, J, J, J, J, J, J, J, J, J, J, tr⟩ ⟨rN, rN, rN, tr⟩ J))⟩
  ·have h := ifF h hc
   refine pw_exit <| thenQ_exit <| thenQ_exit <| blockQ_exit ?_
   have he := hx10 _ (oj h).symm
   have h := hk9
   rw [← he] at h
   exact ⟨J, s13, h, (Wk.trans (wk_frz _ [910003]) (wk_st _ _ ⟨J, J, J, J, J, J, J, J, J, tr⟩ ⟨rS, rS, rS, tr⟩))⟩

theorem w15_cells_ok {a0 : List weak_Cell} {r : List r09_Cell} (h : w15_cells a0 = some r) : PCalls Tryz.prog 68 [.L weak_Cell.Pv a0] (.L r09_Cell.Pv r) := by
 unfold w15_cells at h
 refine pc_intro (N := 20) Tryz.func68 J J nl fun w0 imm0 => sR <| yA (d := .lst true (List.map r09_Cell.Pv [])) J J <| yN <| sR <| y0 J (o_nslice J Ty.e43 Ty.s160) <| yA (d := .lst true (List.map r09_Cell.Pv [])) J J <| yN ?_
 obtain ⟨κ8, hκ6, h⟩ := jnE h
 refine pw_jn0 (κ := κ8) (r := r) (fun (j9 : List r09_Cell) => St.of [(3, .sl 910003)] [(910003, ⟨List.map r09_Cell.Pv j9, (List.map r09_Cell.Pv j9).length, true, 3, true⟩)]) (fun j9 h => ?_) ?_
 ·subst hκ6
  refine sR <| yM (d := .sl 910003) J J <| yA (d := .sl 910003) J J <| yN <| pw_ret ?_
  obtain rfl := oj h
  exact ⟨J, [_], ⟨J, tr⟩, J, io⟩
 ·skip
  refine sR <| yi J J <| yN <| pw_block ?_
  obtain ⟨e10, hl7, hk8⟩ := bindE h
  refine pw_lp0 (fun (q : Int × (List r09_Cell)) => St.of [(0, .L weak_Cell.Pv a0), (3, .sl 910003), (4, .I q.1)] [(910003, ⟨List.map r09_Cell.Pv q.2, (List.map r09_Cell.Pv q.2).length, true, 3, true⟩)]) hl7 (Wk.trans (wk_nil (t := 3) (l := 920003) (z := 3) J J) (wk_stP (fun l => if l = 910003 then 920003 else l) _ _ ⟨J, J, J, J, J, J, J, J, J, tr⟩ ⟨rN, tr⟩ J)) (fun q14 x13 h hx9 => ?_)
  obtain ⟨s11, s12⟩ := q14
  refine pw_seq <| sR <| yI J J <| yM (d := .L weak_Cell.Pv a0) J J <| y0 J (o_lnL (f := weak_Cell.Pv) J Ty.e28) <| y0 J (o_cmp J J J) <| yN ?_
  refine pw_cond (decide (s11 < (a0.length : Int))) J (fun hc => ?_) (fun hc => ?_)
  ·have h := ifT h hc
   refine pw_skip <| pw_seq <| pw_block <| s1 <| yM (d := .sl 910003) J J <| yM (d := .L weak_Cell.Pv a0) J J <| yI J J <| bnE h fun v15 hv10 h => y0 J (o_ixL (f := weak_Cell.Pv) (cs := weak_Cell.Pc v15) hv10 J J Ty.e28 Ty.s84 J J) <| y0 J (o_loadRA J Ty.a84 Ty.s84 nl J) <| y0 J (o_bI (f := r09_Cell.Pv) (l := [(⟨v15.Target, v15.Intact, v15.Call⟩ : r09_Cell)]) J Ty.e43 Ty.s160 Ty.z160 J J nl J J) <| bnE h fun v16 hv11 h => y_app J (o_apR (f := r09_Cell.Pv) hv11 J J J J J J (.inl ⟨_, J, J⟩) Ty.e43 Ty.s160 Ty.b160 Ty.z160 J (fun _ => J)) J J J <| yA (d := .sl 18) J J <| yN <| s1 <| yI J J <| y0 J (o_ari J J J) <| yi J J <| yN ?_
   exact ⟨J, (w64 (s11 + 1), v16), (oj h).symm, (Wk.trans (wk_frz _ [18]) (wk_stP (fun l => if l = 910003 then 18 else l) _ _ ⟨J, J, J, J, J, J, J, J, J, tr⟩ ⟨rN, tr⟩ J))⟩
  ·have h := ifF h hc
   refine pw_exit <| thenQ_exit <| thenQ_exit <| blockQ_exit ?_
   have he := hx9 _ (oj h).symm
   have h := hk8
   rw [← he] at h
   exact ⟨J, s12, h, (Wk.trans (wk_frz _ [910003]) (wk_st _ _ ⟨J, J, J, tr⟩ ⟨rS, tr⟩))⟩

theorem w15_tab_ok {a0 : List hash_Place} {r : List r10_Place} (h : w15_tab a0 = some r) : PCalls Tryz.prog 69 [.L hash_Place.Pv a0] (.L r10_Place.Pv r) := by
 unfold w15_tab at h
 refine pc_intro (N := 20) Tryz.func69 J J nl fun w0 imm0 => sR <| yA (d := .lst true (List.map r10_Place.Pv [])) J J <| yN <| sR <| y0 J (o_nslice J Ty.e44 Ty.s182) <| yA (d := .lst true (List.map r10_Place.Pv [])) J J <| yN ?_
 obtain ⟨κ8, hκ6, h⟩ := jnE h
 refine pw_jn0 (κ := κ8) (r := r) (fun (j9 : List r10_Place) => St.of [(3, .sl 910003)] [(910003, ⟨List.map r10_Place.Pv j9, (List.map r10_Place.Pv j9).length, true, 3, true⟩)]) (fun j9 h => ?_) ?_
 ·subst hκ6
  refine sR <| yM (d := .sl 910003) J J <| yA (d := .sl 910003) J J <| yN <| pw_ret ?_
  obtain rfl := oj h
  exact ⟨J, [_], ⟨J, tr⟩, J, io⟩
 ·skip
  refine sR <| yi J J <| yN <| pw_block ?_
  obtain ⟨e10, hl7, hk8⟩ := bindE h
  refine pw_lp0 (fun (q : Int × (List r10_Place)) => St.of [(0, .L hash_Place.Pv a0), (3, .sl 910003), (4, .I q.1)] [(910003, ⟨List.map r10_Place.Pv q.2, (List.map r10_Place.Pv q.2).length, true, 3, true⟩)]) hl7 (Wk.trans (wk_nil (t := 3) (l := 920003) (z := 3) J J) (wk_stP (fun l => if l = 910003 then 920003 else l) _ _ ⟨J, J, J, J, J, J, J, J, J, tr⟩ ⟨rN, tr⟩ J)) (fun q14 x13 h hx9 => ?_)
  obtain ⟨s11, s12⟩ := q14
  refine pw_seq <| sR <| yI J J <| yM (d := .L hash_Place.Pv a0) J J <| y0 J (o_lnL (f := hash_Place.Pv) J Ty.e29) <| y0 J (o_cmp J J J) <| yN ?_
  refine pw_cond (decide (s11 < (a0.length : Int))) J (fun hc => ?_) (fun hc => ?_)
  ·have h := ifT h hc
   refine pw_skip <| pw_seq <| pw_block <| s1 <| yM (d := .sl 910003) J J <| yM (d := .L hash_Place.Pv a0) J J <| yI J J <| bnE h fun v15 hv10 h => y0 J (o_ixL (f := hash_Place.Pv) (cs := hash_Place.Pc v15) hv10 J J Ty.e29 Ty.s183 J J) <| y0 J (o_loadRA J Ty.a183 Ty.s183 nl J) <| y0 J (o_bI (f := r10_Place.Pv) (l := [(⟨v15.State, v15.Key, v15.Val⟩ : r10_Place)]) J Ty.e44 Ty.s182 Ty.z182 J J nl J J) <| bnE h fun v16 hv11 h => y_app J (o_apR (f := r10_Place.Pv) hv11 J J J J J J (.inl ⟨_, J, J⟩) Ty.e44 Ty.s182 Ty.b182 Ty.z182 J (fun _ => J)) J J J <| yA (d := .sl 18) J J <| yN <| s1 <| yI J J <| y0 J (o_ari J J J) <| yi J J <| yN ?_
   exact ⟨J, (w64 (s11 + 1), v16), (oj h).symm, (Wk.trans (wk_frz _ [18]) (wk_stP (fun l => if l = 910003 then 18 else l) _ _ ⟨J, J, J, J, J, J, J, J, J, tr⟩ ⟨rN, tr⟩ J))⟩
  ·have h := ifF h hc
   refine pw_exit <| thenQ_exit <| thenQ_exit <| blockQ_exit ?_
   have he := hx9 _ (oj h).symm
   have h := hk8
   rw [← he] at h
   exact ⟨J, s12, h, (Wk.trans (wk_frz _ [910003]) (wk_st _ _ ⟨J, J, J, tr⟩ ⟨rS, tr⟩))⟩

theorem w15_tasks_ok {a0 : queue_Queue_task_Task} {r : r14_Queue} (h : w15_tasks a0 = some r) : PCalls Tryz.prog 70 [queue_Queue_task_Task.Pv a0] (r14_Queue.Pv r) := by
 unfold w15_tasks at h
 refine pc_intro (N := 25) Tryz.func70 J J nl fun w0 imm0 => sR <| y1 J (o_box (d := queue_Queue_task_Task.Pv a0) J J J J J) J <| y1 J (o_alloc J Ty.z47 J J J) J <| yN <| sR <| y0 J (o_nslice J Ty.e45 Ty.s151) <| yA (d := .lst true (List.map r14_Task.Pv [])) J J <| yN ?_
 obtain ⟨κ8, hκ6, h⟩ := jnE h
 refine pw_jn0 (κ := κ8) (r := r) (fun (j9 : List r14_Task) => St.of [(1, .ptr 1 0 0), (2, .ptr 2 0 0), (3, .sl 910003)] [(910003, ⟨List.map r14_Task.Pv j9, (List.map r14_Task.Pv j9).length, true, 3, true⟩), (2, ⟨[.agg [.lst true (List.map r14_Task.Pv []), .I 0]], 0, false, 2, true⟩), (1, ⟨[queue_Queue_task_Task.Pv a0], 0, false, 2, true⟩)]) (fun j9 h => ?_) ?_
 ·subst hκ6
  refine sR <| yM (d := .sl 910003) J J <| yF J J Ty.f32_1 J <| yS J J J J Ty.a3 J <| y0 J (o_build (cs := [.sl 910003, .I a0.Cap]) J Ty.p47 Ty.z47 J J J) <| y_sto (x' := .agg [.sl 910003, .I a0.Cap]) (cl' := false) J J (.inl J) Ty.s47 <| yN <| pw_ret ?_
  obtain rfl := oj h
  exact ⟨J, [_], ⟨oL J J J Ty.a47 Ty.s47 nl J, tr⟩, J, io⟩
 ·skip
  refine sR <| yi J J <| yN <| pw_block ?_
  obtain ⟨e10, hl7, hk8⟩ := bindE h
  refine pw_lp0 (fun (q : Int × (List r14_Task)) => St.of [(1, .ptr 1 0 0), (2, .ptr 2 0 0), (3, .sl 910003), (4, .I q.1)] [(2, ⟨[.agg [.lst true (List.map r14_Task.Pv []), .I 0]], 0, false, 2, true⟩), (1, ⟨[queue_Queue_task_Task.Pv a0], 0, false, 2, true⟩), (910003, ⟨List.map r14_Task.Pv q.2, (List.map r14_Task.Pv q.2).length, true, 3, true⟩)]) hl7 (Wk.trans (wk_nil (t := 3) (l := 920003) (z := 3) J J) (wk_stP (fun l => if l = 910003 then 920003 else l) _ _ ⟨J, J, J, J, J, J, J, J, J, J, J, J, tr⟩ ⟨rN, rN, rN, tr⟩ J)) (fun q14 x13 h hx9 => ?_)
  obtain ⟨s11, s12⟩ := q14
  refine pw_seq <| sR <| yI J J <| yF J J Ty.f32_0 J <| yS J J J J Ty.a30 J <| y0 J (o_lnL (f := task_Task.Pv) J Ty.e30) <| y0 J (o_cmp J J J) <| yN ?_
  refine pw_cond (decide (s11 < (a0.L.length : Int))) J (fun hc => ?_) (fun hc => ?_)
  ·have h := ifT h hc
   refine pw_skip <| pw_seq <| pw_block <| s1 <| yM (d := .sl 910003) J J <| yF J J Ty.f32_0 J <| yS J J J J Ty.a30 J <| yI J J <| bnE h fun v15 hv10 h => y0 J (o_ixL (f := task_Task.Pv) (cs := task_Task.Pc v15) hv10 J J Ty.e30 Ty.s82 J J) <| y0 J (o_loadRA J Ty.a82 Ty.s82 nl J) <| y0 J (o_bI (f := r14_Task.Pv) (l := [(⟨v15.Kind, v15.At, v15.Prog⟩ : r14_Task)]) J Ty.e45 Ty.s151 Ty.z151 J J nl J J) <| bnE h fun v16 hv11 h => y_app J (o_apR (f := r14_Task.Pv) hv11 J J J J J J (.inl ⟨_, J, J⟩) Ty.e45 Ty.s151 Ty.b151 Ty.z151 J (fun _ => J)) J J J <| yA (d := .sl 20) J J <| yN <| s1 <| yI J J <| y0 J (o_ari J J J) <| yi J J <| yN ?_
   exact ⟨J, (w64 (s11 + 1), v16), (oj h).symm, (Wk.trans (wk_frz _ [20]) (wk_stP (fun l => if l = 910003 then 20 else l) _ _ ⟨J, J, J, J, J, J, J, J, J, J, J, J, tr⟩ ⟨rN, rN, rN, tr⟩ J))⟩
  ·have h := ifF h hc
   refine pw_exit <| thenQ_exit <| thenQ_exit <| blockQ_exit ?_
   have he := hx9 _ (oj h).symm
   have h := hk8
   rw [← he] at h
   exact ⟨J, s12, h, (Wk.trans (wk_frz _ [910003]) (wk_st _ _ ⟨J, J, J, J, J, J, J, J, J, tr⟩ ⟨rS, rS, rS, tr⟩))⟩

theorem w15_heap_ok {a0 : hold_Heap} {r : r15_Heap} (h : w15_heap a0 = some r) : PCalls Tryz.prog 19 [hold_Heap.Pv a0] (r15_Heap.Pv r) := by
 unfold w15_heap at h
 refine pc_intro (N := 18) Tryz.func19 J J nl fun w0 imm0 => sR <| y1 J (o_box (d := hold_Heap.Pv a0) J J J J J) J <| y1 J (o_alloc J Ty.z49 J J J) J <| yN <| dr [] Ty.mix (by kernel_rfl) (by kernel_rfl) <| d7 J (fun _ hN => oF J Ty.f34_0 J) J <| d0 J (oL J J J Ty.a26 Ty.s26 nl J) J <| bnE h fun v1 hv1 h => d2f J (o_callF J Ty.k34 J (w15_its_ok hv1)) J <| d7 J (fun _ hN => oF J Ty.f34_1 J) J <| d0 J (oS J J J Ty.a27 J) J <| d7 J (fun _ hN => oF J Ty.f34_2 J) J <| d0 J (oS J J J Ty.a28 J) J <| bnE h fun v2 hv2 h => d2f J (o_callF J Ty.k68 J (w15_cells_ok hv2)) J <| d7 J (fun _ hN => oF J Ty.f34_3 J) J <| d0 J (oS J J J Ty.a29 J) J <| bnE h fun v3 hv3 h => d2f J (o_callF J Ty.k69 J (w15_tab_ok hv3)) J <| d7 J (fun _ hN => oF J Ty.f34_4 J) J <| d0 J (oL J J J Ty.a32 Ty.s32 nl J) J <| bnE h fun v4 hv4 h => d2f J (o_callF J Ty.k70 J (w15_tasks_ok hv4)) J <| d7 J (fun _ hN => o_build (cs := [.L r06_Cell.Pv v1.Cells, .I v1.Last, .I v1.Serial, .L iF a0.Roots, .L r09_Cell.Pv v2, .L r10_Place.Pv v3, .L r14_Task.Pv v4.L, .I v4.Cap]) J Ty.p49 Ty.z49 J J J) J <| d_sto (x' := .agg [.L r06_Cell.Pv v1.Cells, .I v1.Last, .I v1.Serial, .L iF a0.Roots, .L r09_Cell.Pv v2, .L r10_Place.Pv v3, .L r14_Task.Pv v4.L, .I v4.Cap]) (cl' := true) J J (.inr J) Ty.s49 <| d_nil <| pw_ret ?_
 obtain rfl := oj h
 exact ⟨J, [_], ⟨oL J J J Ty.a49 Ty.s49 nl J, tr⟩, J, io⟩

theorem r06_Plain_ok {a0 : r06_Store} {r : r03_Slab} (h : r06_Plain a0 = some r) : PCalls Tryz.prog 107 [r06_Store.Pv a0] (r03_Slab.Pv r) := by
 unfold r06_Plain at h
 refine pc_intro (N := 35) Tryz.func107 J J nl fun w0 imm0 => sR <| y1 J (o_box (d := r06_Store.Pv a0) J J J J J) J <| y1 J (o_alloc J Ty.z136 J J J) J <| yN <| sR <| yF J J Ty.f42_1 J <| yS J J J J Ty.a3 J <| y0 J (o_build (cs := [.lst true (List.map r03_Cell.Pv []), .I a0.Last]) J Ty.p136 Ty.z136 J J J) <| y1 J (o_alloc J Ty.z136 J J J) J <| y_sto (x' := .agg [.lst true (List.map r03_Cell.Pv []), .I a0.Last]) (cl' := true) J J (.inl J) Ty.s136 <| yN ?_
 obtain ⟨κ8, hκ6, h⟩ := jnE h
 refine pw_jn0 (κ := κ8) (r := r) (fun (j9 : List r03_Cell) => St.of [(2, .ptr 2 0 0), (3, .ptr 3 0 0)] [(3, ⟨[.agg [.sl 910503, .I a0.Last]], 0, false, 2, false⟩), (910503, ⟨List.map r03_Cell.Pv j9, (List.map r03_Cell.Pv j9).length, true, 3, true⟩), (2, ⟨[.agg [.lst true (List.map r03_Cell.Pv []), .I 0]], 0, false, 2, true⟩)]) (fun j9 h => ?_) ?_
 ·subst hκ6
  refine sR <| yL J J J J Ty.a136 Ty.s136 nl J <| y_sto (x' := .agg [.sl 910503, .I a0.Last]) (cl' := false) J J (.inl J) Ty.s136 <| yN <| pw_ret ?_
  obtain rfl := oj h
  exact ⟨J, [_], ⟨oL J J J Ty.a136 Ty.s136 nl J, tr⟩, J, io⟩
 ·skip
  refine sR <| yi J J <| yN <| pw_block ?_
  obtain ⟨e10, hl7, hk8⟩ := bindE h
  refine pw_lp0 (fun (q : Int × (List r03_Cell)) => St.of [(1, .ptr 1 0 0), (2, .ptr 2 0 0), (3, .ptr 3 0 0), (4, .I q.1)] [(3, ⟨[.agg [.sl 910503, .I a0.Last]], 0, false, 2, false⟩), (2, ⟨[.agg [.lst true (List.map r03_Cell.Pv []), .I 0]], 0, false, 2, true⟩), (1, ⟨[r06_Store.Pv a0], 0, false, 3, true⟩), (910503, ⟨List.map r03_Cell.Pv q.2, (List.map r03_Cell.Pv q.2).length, true, 3, true⟩)]) hl7 (Wk.trans (wk_nilC (l0 := 3) (j := 0) (l := 920503) (z := 3) J J J J J) (wk_stP (fun l => if l = 910503 then 920503 else l) _ _ ⟨J, J, J, J, J, J, J, J, J, J, J, J, tr⟩ ⟨rowLe_open J J J (fun q => nomatch q) J J J J, rN, rN, rN, tr⟩ J)) (fun q14 x13 h hx9 => ?_)
  obtain ⟨s11, s12⟩ := q14
  refine pw_seq <| sR <| yI J J <| yF J J Ty.f42_0 J <| yS J J J J Ty.a40 J <| y0 J (o_lnL (f := r06_Cell.Pv) J Ty.e40) <| y0 J (o_cmp J J J) <| yN ?_
  refine pw_cond (decide (s11 < (a0.Cells.length : Int))) J (fun hc => ?_) (fun hc => ?_)
  ·have h := ifT h hc
   refine pw_skip <| pw_seq <| pw_block <| pw_drw [] Ty.mix (by kernel_rfl) (by kernel_rfl) <| d7 J (fun _ hN => oF J Ty.f136_0 J) J <| d0 J (oS J J J Ty.a134 J) J <| d7 J (fun _ hN => oF J Ty.f42_0 J) J <| d0 J (oS J J J Ty.a40 J) J <| d7 J (fun _ hN => mI J) J <| bnE h fun v15 hv10 h => d0 J (o_ixL (f := r06_Cell.Pv) (cs := r06_Cell.Pc v15) hv10 J J Ty.e40 Ty.s139 J J) J <| d7 J (fun _ hN => o_fieldAddrR J Ty.f139_0 J) J <| d0 J (o_loadRS J Ty.a3 J) J <| d7 J (fun _ hN => oF J Ty.f42_0 J) J <| d0 J (oS J J J Ty.a40 J) J <| d7 J (fun _ hN => mI J) J <| d0 J (o_ixL (f := r06_Cell.Pv) (cs := r06_Cell.Pc v15) hv10 J J Ty.e40 Ty.s139 J J) J <| d7 J (fun _ hN => o_fieldAddrR J Ty.f139_1 J) J <| d0 J (o_loadRS J Ty.a3 J) J <| d7 J (fun _ hN => mI J) J <| d7 J (fun _ hN => o_build (cs := [.I v15.State, .I v15.Gen, .I s11]) J Ty.p220 Ty.z220 J J J) J <| d1n J (o_bI (f := r03_Cell.Pv) (l := [(⟨v15.State, v15.Gen, s11⟩ : r03_Cell)]) J Ty.e134 Ty.s220 Ty.z220 J J nl J J) J <| bnE h fun v16 hv11 h => d3a J (o_apR (f := r03_Cell.Pv) hv11 J J J J J J (.inl ⟨_, J, J⟩) Ty.e134 Ty.s220 Ty.b220 Ty.z220 J (fun _ => J)) J J J J J <| d7 J (fun _ hN => oF J Ty.f136_0 J) J <| d_sto (x' := .agg [.sl 32, .I a0.Last]) (cl' := false) J J (.inl J) Ty.s134 <| d_nil <| s1 <| yI J J <| y0 J (o_ari J J J) <| yi J J <| yN ?_
   exact ⟨J, (w64 (s11 + 1), v16), (oj h).symm, (Wk.trans (wk_frz _ [32]) (wk_stP (fun l => if l = 910503 then 32 else l) _ _ ⟨J, J, J, J, J, J, J, J, J, J, J, J, tr⟩ ⟨rowLe_open J J J (fun q => nomatch q) J J J J, rN, rN, rN, tr⟩ J))⟩
  ·have h := ifF h hc
   refine pw_exit <| thenQ_exit <| thenQ_exit <| blockQ_exit ?_
   have he := hx9 _ (oj h).symm
   have h := hk8
   rw [← he] at h
   exact ⟨J, s12, h, (Wk.trans (wk_frz _ [910503]) (wk_st _ _ ⟨J, J, J, J, J, J, tr⟩ ⟨rowLe_open J J J (fun q => nomatch q) J J J J, rS, rS, tr⟩))⟩

theorem r03_Right_ok {a0 : r03_Slab} {r : Bool} (h : r03_Right a0 = some r) : PCalls Tryz.prog 178 [r03_Slab.Pv a0] (.bool r) := by
 unfold r03_Right at h
 refine pc_intro (N := 51) Tryz.func178 J J nl fun w0 imm0 => sR <| y1 J (o_box (d := r03_Slab.Pv a0) J J J J J) J <| yb J J <| yN <| pw_seq <| sR <| yF J J Ty.f136_0 J <| yS J J J J Ty.a134 J <| y0 J (o_lnL (f := r03_Cell.Pv) J Ty.e134) <| y0 J (o_cmp J J J) <| yB J J <| y_if J (fun hg => oF J Ty.f136_1 J) <| y_if J (fun hg => oS (ct hg) J J Ty.a3 J) <| y_if J (fun hg => o_cmp (ct hg) J J) <| y0 J (pk_or J J J (fun q => eqF q)) <| yB J J <| y_if J (fun hg => oF J Ty.f136_1 J) <| y_if J (fun hg => oS (ct hg) J J Ty.a3 J) <| y_if J (fun hg => o_cmp (ct hg) J J) <| y0 J (pk_or J J J (fun q => eqF q)) <| yN ?_
 refine pw_cond (((decide ((a0.Cells.length : Int) > 24)) || (decide (a0.Last < 0))) || (decide (a0.Last > 9))) J (fun hc => ?_) (fun hc => ?_)
 ·have h := ifT h hc
  refine sR <| yb J J <| yN <| pw_ret ?_
  obtain rfl := oj h
  exact ⟨J, [_], ⟨J, tr⟩, J, io⟩
 ·have h := ifF h hc
  refine pw_skip ?_
  obtain ⟨κ5, hκ5, h⟩ := jnE h
  refine pw_jn0 (κ := κ5) (r := r) (fun (_ : Unit) => St.of [] []) (fun q6 h => ?_) ?_
  ·subst hκ5
   refine sR <| yb J J <| yN <| pw_ret ?_
   obtain rfl := oj h
   exact ⟨J, [_], ⟨J, tr⟩, J, io⟩
  ·skip
   refine sR <| yi J J <| yN <| pw_block ?_
   obtain ⟨e7, hl6, hk7⟩ := bindE h
   refine pw_lp0 (fun (s8 : Int) => St.of [(1, .ptr 1 0 0), (3, .I s8)] [(1, ⟨[r03_Slab.Pv a0], 0, false, 2, true⟩)]) hl6 (wk_st _ _ ⟨J, J, J, J, J, J, tr⟩ ⟨rS, tr⟩) (fun s8 x9 h hx8 => ?_)
   refine pw_seq <| sR <| yI J J <| yF J J Ty.f136_0 J <| yS J J J J Ty.a134 J <| y0 J (o_lnL (f := r03_Cell.Pv) J Ty.e134) <| y0 J (o_cmp J J J) <| yN ?_
   refine pw_cond (decide (s8 < (a0.Cells.length : Int))) J (fun hc => ?_) (fun hc => ?_)
   ·have h := ifT h hc
    refine pw_skip <| pw_seq <| pw_block <| sR <| yF J J Ty.f136_0 J <| yS J J J J Ty.a134 J <| yI J J <| bnE h fun v10 hv9 h => y0 J (o_ixL (f := r03_Cell.Pv) (cs := r03_Cell.Pc v10) hv9 J J Ty.e134 Ty.s220 J J) <| y0 J (o_loadRA J Ty.a220 Ty.s220 nl J) <| y1 J (o_alloc J Ty.z220 J J J) J <| y_sto (x' := r03_Cell.Pv v10) (cl' := true) J J (.inl J) Ty.s220 <| yN <| sR <| yF J J Ty.f220_0 J <| yS J J J J Ty.a3 J <| y0 J (o_cmp J J J) <| yB J J <| y_if J (fun hg => oF J Ty.f220_0 J) <| y_if J (fun hg => oS (ct hg) J J Ty.a3 J) <| y_if J (fun hg => o_cmp (ct hg) J J) <| y0 J (pk_or J J J (fun q => eqF q)) <| yB J J <| y_if J (fun hg => oF J Ty.f220_1 J) <| y_if J (fun hg => oS (ct hg) J J Ty.a3 J) <| y_if J (fun hg => o_cmp (ct hg) J J) <| y0 J (pk_or J J J (fun q => eqF q)) <| yB J J <| y_if J (fun hg => oF J Ty.f220_1 J) <| y_if J (fun hg => oS (ct hg) J J Ty.a3 J) <| y_if J (fun hg => oF J Ty.f136_1 J) <| y_if J (fun hg => oS (ct hg) J J Ty.a3 J) <| y_if J (fun hg => o_cmp (ct hg) (ct hg) J) <| y0 J (pk_or J J J (fun q => eqF q)) <| yN ?_
    refine pw_cond ((((decide (v10.State < 0)) || (decide (v10.State > 3))) || (decide (v10.Gen < 0))) || (decide (v10.Gen > a0.Last))) J (fun hc => ?_) (fun hc => ?_)
    ·have h := ifT h hc
     refine sR <| yb J J <| yN <| pw_ret ?_
     have he := hx8 _ (oj h).symm
     have h := hk7
     rw [← he] at h
     obtain rfl := oj h
     exact ⟨J, [_], ⟨J, tr⟩, J, io⟩
    ·have h := ifF h hc
     refine pw_skip <| s1 <| yI J J <| y0 J (o_ari J J J) <| yi J J <| yN ?_
     exact ⟨J, w64 (s8 + 1), (oj h).symm, (wk_st _ _ ⟨J, J, J, J, J, J, tr⟩ ⟨rS, tr⟩)⟩
   ·have h := ifF h hc
    refine pw_exit <| thenQ_exit <| thenQ_exit <| blockQ_exit ?_
    have he := hx8 _ (oj h).symm
    have h := hk7
    rw [← he] at h
    exact ⟨J, (), h, (wk_st _ _ tr tr)⟩

theorem r06_there_ok {a0 : r06_Cell} {r : Bool} (h : r06_there a0 = some r) : PCalls Tryz.prog 179 [r06_Cell.Pv a0] (.bool r) := by
 unfold r06_there at h
 refine pc_intro (N := 11) Tryz.func179 J J nl fun w0 imm0 => sR <| y1 J (o_box (d := r06_Cell.Pv a0) J J J J J) J <| yb J J <| yN <| sR <| yF J J Ty.f139_0 J <| yS J J J J Ty.a3 J <| y0 J (o_cmp J J J) <| yB J J <| y_if J (fun hg => oF J Ty.f139_0 J) <| y_if J (fun hg => oS (ct hg) J J Ty.a3 J) <| y_if J (fun hg => o_cmp (ct hg) J J) <| y0 J (pk_or J J J (fun q => eqF q)) <| yb J J <| yN <| pw_ret ?_
 obtain rfl := oj h
 exact ⟨J, [_], ⟨J, tr⟩, J, io⟩

theorem r06_Right_ok {a0 : r06_Store} {r : Bool} (h : r06_Right a0 = some r) : PCalls Tryz.prog 99 [r06_Store.Pv a0] (.bool r) := by
 unfold r06_Right at h
 refine pc_intro (N := 120) Tryz.func99 J J nl fun w0 imm0 => sR <| y1 J (o_box (d := r06_Store.Pv a0) J J J J J) J <| yb J J <| yN <| pw_seq <| sR <| yL J J J J Ty.a42 Ty.s42 nl J <| bnE h fun v1 hv1 h => yc J (o_callF J Ty.k107 J (r06_Plain_ok hv1)) <| bnE h fun v2 hv2 h => y0 J (o_call J Ty.k178 J (r03_Right_ok hv2)) <| y0 J (o_not J J) <| yB J J <| y_if J (fun hg => oF J Ty.f42_2 J) <| y_if J (fun hg => oS (ct hg) J J Ty.a3 J) <| y_if J (fun hg => o_cmp (ct hg) J J) <| y0 J (pk_or J J J (fun q => eqF q)) <| yN ?_
 refine pw_cond ((!v2) || (decide (a0.Serial < 0))) J (fun hc => ?_) (fun hc => ?_)
 ·have h := ifT h hc
  refine sR <| yb J J <| yN <| pw_ret ?_
  obtain rfl := oj h
  exact ⟨J, [_], ⟨J, tr⟩, J, io⟩
 ·have h := ifF h hc
  refine pw_skip ?_
  obtain ⟨κ22, hκ21, h⟩ := jnE h
  refine pw_jn0 (κ := κ22) (r := r) (fun (_ : Unit) => St.of [] []) (fun q23 h => ?_) ?_
  ·subst hκ21
   refine sR <| yb J J <| yN <| pw_ret ?_
   obtain rfl := oj h
   exact ⟨J, [_], ⟨J, tr⟩, J, io⟩
  ·skip
   refine sR <| yi J J <| yN <| pw_block ?_
   obtain ⟨e24, hl22, hk23⟩ := bindE h
   refine pw_lp0 (fun (s25 : Int) => St.of [(1, .ptr 1 0 0), (3, .I s25)] [(1, ⟨[r06_Store.Pv a0], 0, false, 3, true⟩)]) hl22 (wk_st _ _ ⟨J, J, J, J, J, J, tr⟩ ⟨rS, tr⟩) (fun s25 x26 h hx24 => ?_)
   refine pw_seq <| sR <| yI J J <| yF J J Ty.f42_0 J <| yS J J J J Ty.a40 J <| y0 J (o_lnL (f := r06_Cell.Pv) J Ty.e40) <| y0 J (o_cmp J J J) <| yN ?_
   refine pw_cond (decide (s25 < (a0.Cells.length : Int))) J (fun hc => ?_) (fun hc => ?_)
   ·have h := ifT h hc
    refine pw_skip ?_
    obtain ⟨κ34, hκ32, h⟩ := jnE h
    refine pw_jn0 (κ := κ34) (r := x26) (fun (_ : Unit) => St.of [(1, .ptr 1 0 0), (3, .I s25)] [(1, ⟨[r06_Store.Pv a0], 0, false, 3, true⟩)]) (fun q35 h => ?_) ?_
    ·subst hκ32
     refine s1 <| yI J J <| y0 J (o_ari J J J) <| yi J J <| yN ?_
     exact ⟨J, w64 (s25 + 1), (oj h).symm, (wk_st _ _ ⟨J, J, J, J, J, J, tr⟩ ⟨rS, tr⟩)⟩
    ·skip
     refine pw_block <| sR <| yF J J Ty.f42_0 J <| yS J J J J Ty.a40 J <| yI J J <| bnE h fun v36 hv33 h => y0 J (o_ixL (f := r06_Cell.Pv) (cs := r06_Cell.Pc v36) hv33 J J Ty.e40 Ty.s139 J J) <| y0 J (o_loadRA J Ty.a139 Ty.s139 nl J) <| y1 J (o_alloc J Ty.z139 J J J) J <| y_sto (x' := r06_Cell.Pv v36) (cl' := true) J J (.inr J) Ty.s139 <| yN <| sR <| yF J J Ty.f139_2 J <| yL J J J J Ty.a63 Ty.s63 nl J <| y1 J (o_alloc J Ty.z63 J J J) J <| y_sto (x' := r06_Obj.Pv v36.Val) (cl' := true) J J (.inr J) Ty.s63 <| yN <| pw_seq <| sR <| yL J J J J Ty.a139 Ty.s139 nl J <| bnE h fun v37 hv34 h => y0 J (o_call J Ty.k179 J (r06_there_ok hv34)) <| y0 J (o_not J J) <| yN ?_
     refine pw_cond (!v37) J (fun hc => ?_) (fun hc => ?_)
     ·have h := ifT h hc
      refine pw_seq <| sR <| yF J J Ty.f63_0 J <| yS J J J J Ty.a3 J <| y0 J (o_cmp J J J) <| yB J J <| y_if J (fun hg => oF J Ty.f63_1 J) <| y_if J (fun hg => oS (ct hg) J J Ty.a3 J) <| y_if J (fun hg => o_cmp (ct hg) J J) <| y0 J (pk_or J J J (fun q => eqF q)) <| yB J J <| y_if J (fun hg => oF J Ty.f63_2 J) <| y_if J (fun hg => oS (ct hg) J J Ty.a3 J) <| y_if J (fun hg => o_cmp (ct hg) J J) <| y0 J (pk_or J J J (fun q => eqF q)) <| yB J J <| y_if J (fun hg => oF J Ty.f63_3 J) <| y_if J (fun hg => oS (ct hg) J J Ty.a3 J) <| y_if J (fun hg => o_cmp (ct hg) J J) <| y0 J (pk_or J J J (fun q => eqF q)) <| yB J J <| y_if J (fun hg => oF J Ty.f63_4 J) <| y_if J (fun hg => oS (ct hg) J J Ty.a4 J) <| y0 J (pk_or J J J (fun q => eqF q)) <| yB J J <| y_if J (fun hg => oF J Ty.f63_5 J) <| y_if J (fun hg => oS (ct hg) J J Ty.a27 J) <| y_if J (fun hg => o_lnL (f := iF) (ct hg) Ty.e27) <| y_if J (fun hg => o_cmp (ct hg) J J) <| y0 J (pk_or J J J (fun q => eqF q)) ?_
      refine yN ?_
      refine pw_cond ((((((v36.Val.Serial != 0) || (v36.Val.Strong != 0)) || (v36.Val.Weak != 0)) || (v36.Val.Prog != 0)) || v36.Val.Started) || ((v36.Val.Fields.length : Int) != 0)) J (fun hc => ?_) (fun hc => ?_)
      ·have h := ifT h hc
       refine sR <| yb J J <| yN <| pw_ret ?_
       have he := hx24 _ (oj h).symm
       have h := hk23
       rw [← he] at h
       obtain rfl := oj h
       exact ⟨J, [_], ⟨J, tr⟩, J, io⟩
      ·have h := ifF h hc
       refine pw_skip <| pw_exit <| thenQ_exit <| blockQ_exit ?_
       exact ⟨J, (), h, (wk_st _ _ ⟨J, J, J, J, J, J, tr⟩ ⟨rS, tr⟩)⟩
     ·have h := ifF h hc
      refine pw_skip <| pw_seq <| sR <| yF J J Ty.f63_0 J <| yS J J J J Ty.a3 J <| y0 J (o_cmp J J J) <| yB J J <| y_if J (fun hg => oF J Ty.f63_0 J) <| y_if J (fun hg => oS (ct hg) J J Ty.a3 J) <| y_if J (fun hg => oF J Ty.f42_2 J) <| y_if J (fun hg => oS (ct hg) J J Ty.a3 J) <| y_if J (fun hg => o_cmp (ct hg) (ct hg) J) <| y0 J (pk_or J J J (fun q => eqF q)) <| yB J J <| y_if J (fun hg => oF J Ty.f63_1 J) <| y_if J (fun hg => oS (ct hg) J J Ty.a3 J) <| y_if J (fun hg => o_cmp (ct hg) J J) <| y0 J (pk_or J J J (fun q => eqF q)) <| yB J J <| y_if J (fun hg => oF J Ty.f63_2 J) <| y_if J (fun hg => oS (ct hg) J J Ty.a3 J) <| y_if J (fun hg => o_cmp (ct hg) J J) <| y0 J (pk_or J J J (fun q => eqF q)) <| yB J J <| y_if J (fun hg => oF J Ty.f63_3 J) <| y_if J (fun hg => oS (ct hg) J J Ty.a3 J) <| y_if J (fun hg => o_cmp (ct hg) J J) <| y0 J (pk_or J J J (fun q => eqF q)) <| yB J J <| y_if J (fun hg => oF J Ty.f63_3 J) ?_
      refine y_if J (fun hg => oS (ct hg) J J Ty.a3 J) <| y_if J (fun hg => o_cmp (ct hg) J J) <| y0 J (pk_or J J J (fun q => eqF q)) <| yB J J <| y_if J (fun hg => oF J Ty.f63_5 J) <| y_if J (fun hg => oS (ct hg) J J Ty.a27 J) <| y_if J (fun hg => o_lnL (f := iF) (ct hg) Ty.e27) <| y_if J (fun hg => o_cmp (ct hg) J J) <| y0 J (pk_or J J J (fun q => eqF q)) <| yN ?_
      refine pw_cond (((((((decide (v36.Val.Serial < 1)) || (decide (v36.Val.Serial > a0.Serial))) || (decide (v36.Val.Strong < 0))) || (decide (v36.Val.Weak < 0))) || (decide (v36.Val.Prog < (-1)))) || (decide (v36.Val.Prog > 5))) || (decide ((v36.Val.Fields.length : Int) > 4))) J (fun hc => ?_) (fun hc => ?_)
      ·have h := ifT h hc
       refine sR <| yb J J <| yN <| pw_ret ?_
       have he := hx24 _ (oj h).symm
       have h := hk23
       rw [← he] at h
       obtain rfl := oj h
       exact ⟨J, [_], ⟨J, tr⟩, J, io⟩
      ·have h := ifF h hc
       refine pw_skip <| sR <| yi J J <| yN <| pw_block ?_
       obtain ⟨e38, hl35, hk36⟩ := bindE h
       refine pw_lp0 (fun (s39 : Int) => St.of [(1, .ptr 1 0 0), (3, .I s25), (5, .ptr 5 0 0), (6, .I s39)] [(5, ⟨[r06_Obj.Pv v36.Val], 0, false, 6, true⟩), (1, ⟨[r06_Store.Pv a0], 0, false, 3, true⟩)]) hl35 (wk_st _ _ ⟨J, J, J, J, J, J, J, J, J, J, J, J, tr⟩ ⟨rS, rS, tr⟩) (fun s39 x40 h hx37 => ?_)
       refine pw_seq <| sR <| yI J J <| yI J J <| y0 J (o_cmp J J J) <| yN ?_
       refine pw_cond (decide (s39 < s25)) J (fun hc => ?_) (fun hc => ?_)
       ·have h := ifT h hc
        refine pw_skip <| pw_seq <| pw_block <| dr [] Ty.mix (by kernel_rfl) (by kernel_rfl) <| d7 J (fun _ hN => oF J Ty.f42_0 J) J <| d0 J (oS J J J Ty.a40 J) J <| d7 J (fun _ hN => mI J) J <| bnE h fun v41 hv38 h => d0 J (o_ixL (f := r06_Cell.Pv) (cs := r06_Cell.Pc v41) hv38 J J Ty.e40 Ty.s139 J J) J <| d0 J (o_loadRA J Ty.a139 Ty.s139 nl J) J <| bnE h fun v42 hv39 h => d2 J (o_call J Ty.k179 J (r06_there_ok hv39)) J <| d7 J (fun _ hN => mB J) J <| d_if7 J (fun hg _ hN => oF J Ty.f42_0 J) J <| d_if0 J (fun hg => oS (ct hg) J J Ty.a40 J) J <| d_if7 J (fun hg _ hN => mI J) J <| d_if0 J (fun hg => o_ixL (f := r06_Cell.Pv) (cs := r06_Cell.Pc v41) hv38 (ct hg) (ct hg) Ty.e40 Ty.s139 J J) J <| d_if7 J (fun hg _ hN => o_fieldAddrR (ct hg) Ty.f139_2 J) J <| d_if7 J (fun hg _ hN => o_fieldAddrR (ct hg) Ty.f63_0 J) J <| d_if0 J (fun hg => o_loadRS (ct hg) Ty.a3 J) J <| d_if7 J (fun hg _ hN => oF J Ty.f63_0 J) J <| d_if0 J (fun hg => oS (ct hg) J J Ty.a3 J) J <| d_if7 J (fun hg _ hN => o_cmp (ct hg) (ct hg) J) J <| d7 J (fun _ hN => pk_and J J J (fun q => eqT q)) J <| d_nil ?_
        refine pw_cond (v42 && (v41.Val.Serial == v36.Val.Serial)) J (fun hc => ?_) (fun hc => ?_)
        ·have h := ifT h hc
         refine sR <| yb J J <| yN <| pw_ret ?_
         have he := hx37 _ (oj h).symm
         have h := hk36
         rw [← he] at h
         have he := hx24 _ (oj h).symm
         have h := hk23
         rw [← he] at h
         obtain rfl := oj h
         exact ⟨J, [_], ⟨J, tr⟩, J, io⟩
        ·have h := ifF h hc
         refine pw_skip <| s1 <| yI J J <| y0 J (o_ari J J J) <| yi J J <| yN ?_
         exact ⟨J, w64 (s39 + 1), (oj h).symm, (wk_st _ _ ⟨J, J, J, J, J, J, J, J, J, J, J, J, tr⟩ ⟨rS, rS, tr⟩)⟩
       ·have h := ifF h hc
        refine pw_exit <| thenQ_exit <| thenQ_exit <| blockQ_exit ?_
        have he := hx37 _ (oj h).symm
        have h := hk36
        rw [← he] at h
        exact ⟨J, (), h, (wk_st _ _ ⟨J, J, J, J, J, J, tr⟩ ⟨rS, tr⟩)⟩
   ·have h := ifF h hc
    refine pw_exit <| thenQ_exit <| thenQ_exit <| blockQ_exit ?_
    have he := hx24 _ (oj h).symm
    have h := hk23
    rw [← he] at h
    exact ⟨J, (), h, (wk_st _ _ tr tr)⟩

theorem r10_Find_ok {a0 : List r10_Place} {a1 : Int} {r : Int} (h : r10_Find a0 a1 = some r) : PCalls Tryz.prog 180 [.L r10_Place.Pv a0, .I a1] (.I r) := by
 unfold r10_Find at h
 refine pc_intro (N := 28) Tryz.func180 J J nl fun w0 imm0 => sR <| yi J J <| yN ?_
 obtain ⟨κ5, hκ5, h⟩ := jnE h
 refine pw_jn0 (κ := κ5) (r := r) (fun (_ : Unit) => St.of [] []) (fun q6 h => ?_) ?_
 ·subst hκ5
  refine sR <| yi J J <| yN <| pw_ret ?_
  obtain rfl := oj h
  exact ⟨J, [_], ⟨J, tr⟩, J, io⟩
 ·skip
  refine sR <| yi J J <| yN <| pw_block ?_
  obtain ⟨e7, hl6, hk7⟩ := bindE h
  refine pw_lp0 (fun (s8 : Int) => St.of [(0, .L r10_Place.Pv a0), (1, .I a1), (5, .I s8)] []) hl6 (wk_st _ _ ⟨J, J, J, J, J, J, J, J, J, tr⟩ tr) (fun s8 x9 h hx8 => ?_)
  refine pw_seq <| sR <| yI J J <| yM (d := .L r10_Place.Pv a0) J J <| y0 J (o_lnL (f := r10_Place.Pv) J Ty.e44) <| y0 J (o_cmp J J J) <| yN ?_
  refine pw_cond (decide (s8 < (a0.length : Int))) J (fun hc => ?_) (fun hc => ?_)
  ·have h := ifT h hc
   refine pw_skip <| pw_seq <| pw_block <| sR <| yM (d := .L r10_Place.Pv a0) J J <| yI J J <| bnE h fun v10 hv9 h => y0 J (o_ixL (f := r10_Place.Pv) (cs := r10_Place.Pc v10) hv9 J J Ty.e44 Ty.s182 J J) <| y0 J (o_fieldAddrR J Ty.f182_0 J) <| y0 J (o_loadRS J Ty.a3 J) <| y0 J (o_cmp J J J) <| yB J J <| y_if J (fun hg => om (d := .L r10_Place.Pv a0) J) <| y_if J (fun hg => mI J) <| y_if J (fun hg => o_ixL (f := r10_Place.Pv) (cs := r10_Place.Pc v10) hv9 (ct hg) (ct hg) Ty.e44 Ty.s182 J J) <| y_if J (fun hg => o_fieldAddrR (ct hg) Ty.f182_1 J) <| y_if J (fun hg => o_loadRS (ct hg) Ty.a3 J) <| y_if J (fun hg => mI J) <| y_if J (fun hg => o_cmp (ct hg) (ct hg) J) <| y0 J (pk_and J J J (fun q => eqT q)) <| yN ?_
   refine pw_cond ((v10.State == 1) && (v10.Key == a1)) J (fun hc => ?_) (fun hc => ?_)
   ·have h := ifT h hc
    refine sR <| yI J J <| yi J J <| yN <| pw_ret ?_
    have he := hx8 _ (oj h).symm
    have h := hk7
    rw [← he] at h
    obtain rfl := oj h
    exact ⟨J, [_], ⟨J, tr⟩, J, io⟩
   ·have h := ifF h hc
    refine pw_skip <| s1 <| yI J J <| y0 J (o_ari J J J) <| yi J J <| yN ?_
    exact ⟨J, w64 (s8 + 1), (oj h).symm, (wk_st _ _ ⟨J, J, J, J, J, J, J, J, J, tr⟩ tr)⟩
  ·have h := ifF h hc
   refine pw_exit <| thenQ_exit <| thenQ_exit <| blockQ_exit ?_
   have he := hx8 _ (oj h).symm
   have h := hk7
   rw [← he] at h
   exact ⟨J, (), h, (wk_st _ _ tr tr)⟩

theorem r10_Home_ok {a0 : Int} {a1 : Int} {r : Int} (h : r10_Home a0 a1 = some r) : PCalls Tryz.prog 181 [.I a0, .I a1] (.I r) := by
 unfold r10_Home at h
 refine pc_intro (N := 19) Tryz.func181 J J nl fun w0 imm0 => sR <| yi J J <| yN <| pw_seq <| sR <| yI J J <| y0 J (o_cmp J J J) <| yN ?_
 refine pw_cond (decide (a0 < 1)) J (fun hc => ?_) (fun hc => ?_)
 ·have h := ifT h hc
  refine sR <| yi J J <| yN <| pw_ret ?_
  obtain rfl := oj h
  exact ⟨J, [_], ⟨J, tr⟩, J, io⟩
 ·have h := ifF h hc
  refine pw_skip <| sR <| yI J J <| y0 J (o_ari J J J) <| y0 J (o_ari J J J) <| yI J J <| bnE h fun v1 hv1 h => y0 J (o_ari J J hv1) <| yi J J <| yN <| pw_seq <| sR <| yI J J <| y0 J (o_cmp J J J) <| yN ?_
  refine pw_cond (decide (v1 < 0)) J (fun hc => ?_) (fun hc => ?_)
  ·have h := ifT h hc
   refine s1 <| yI J J <| yI J J <| y0 J (o_ari J J J) <| yi J J <| yN <| sR <| yI J J <| yi J J <| yN <| pw_ret ?_
   obtain rfl := oj h
   exact ⟨J, [_], ⟨J, tr⟩, J, io⟩
  ·have h := ifF h hc
   refine pw_skip <| sR <| yI J J <| yi J J <| yN <| pw_ret ?_
   obtain rfl := oj h
   exact ⟨J, [_], ⟨J, tr⟩, J, io⟩

theorem r10_Right_ok {a0 : List r10_Place} {r : Bool} (h : r10_Right a0 = some r) : PCalls Tryz.prog 100 [.L r10_Place.Pv a0] (.bool r) := by
 unfold r10_Right at h
 refine pc_intro (N := 73) Tryz.func100 J J nl fun w0 imm0 => sR <| yb J J <| yN <| sR <| yM (d := .L r10_Place.Pv a0) J J <| y0 J (o_lnL (f := r10_Place.Pv) J Ty.e44) <| yi J J <| yN <| pw_seq <| sR <| yI J J <| y0 J (o_cmp J J J) <| yB J J <| y_if J (fun hg => mI J) <| y_if J (fun hg => o_cmp (ct hg) J J) <| y0 J (pk_or J J J (fun q => eqF q)) <| yN ?_
 refine pw_cond ((decide ((a0.length : Int) < 1)) || (decide ((a0.length : Int) > 8))) J (fun hc => ?_) (fun hc => ?_)
 ·have h := ifT h hc
  refine sR <| yb J J <| yN <| pw_ret ?_
  obtain rfl := oj h
  exact ⟨J, [_], ⟨J, tr⟩, J, io⟩
 ·have h := ifF h hc
  refine pw_skip ?_
  obtain ⟨κ22, hκ21, h⟩ := jnE h
  refine pw_jn0 (κ := κ22) (r := r) (fun (_ : Unit) => St.of [] []) (fun q23 h => ?_) ?_
  ·subst hκ21
   refine sR <| yb J J <| yN <| pw_ret ?_
   obtain rfl := oj h
   exact ⟨J, [_], ⟨J, tr⟩, J, io⟩
  ·skip
   refine sR <| yi J J <| yN <| pw_block ?_
   obtain ⟨e24, hl22, hk23⟩ := bindE h
   refine pw_lp0 (fun (s25 : Int) => St.of [(0, .L r10_Place.Pv a0), (3, .I (a0.length : Int)), (4, .I s25)] []) hl22 (wk_st _ _ ⟨J, J, J, J, J, J, J, J, J, tr⟩ tr) (fun s25 x26 h hx24 => ?_)
   refine pw_seq <| sR <| yI J J <| yI J J <| y0 J (o_cmp J J J) <| yN ?_
   refine pw_cond (decide (s25 < (a0.length : Int))) J (fun hc => ?_) (fun hc => ?_)
   ·have h := ifT h hc
    refine pw_skip ?_
    obtain ⟨κ35, hκ33, h⟩ := jnE h
    refine pw_jn0 (κ := κ35) (r := x26) (fun (_ : Unit) => St.of [(0, .L r10_Place.Pv a0), (3, .I (a0.length : Int)), (4, .I s25)] []) (fun q36 h => ?_) ?_
    ·subst hκ33
     refine s1 <| yI J J <| y0 J (o_ari J J J) <| yi J J <| yN ?_
     exact ⟨J, w64 (s25 + 1), (oj h).symm, (wk_st _ _ ⟨J, J, J, J, J, J, J, J, J, tr⟩ tr)⟩
    ·skip
     refine pw_block <| sR <| yM (d := .L r10_Place.Pv a0) J J <| yI J J <| bnE h fun v37 hv34 h => y0 J (o_ixL (f := r10_Place.Pv) (cs := r10_Place.Pc v37) hv34 J J Ty.e44 Ty.s182 J J) <| y0 J (o_loadRA J Ty.a182 Ty.s182 nl J) <| y1 J (o_alloc J Ty.z182 J J J) J <| y_sto (x' := r10_Place.Pv v37) (cl' := true) J J (.inl J) Ty.s182 <| yN <| pw_seq <| sR <| yF J J Ty.f182_0 J <| yS J J J J Ty.a3 J <| y0 J (o_cmp J J J) <| yB J J <| y_if J (fun hg => oF J Ty.f182_0 J) <| y_if J (fun hg => oS (ct hg) J J Ty.a3 J) <| y_if J (fun hg => o_cmp (ct hg) J J) <| y0 J (pk_or J J J (fun q => eqF q)) <| yB J J <| y_if J (fun hg => oF J Ty.f182_0 J) <| y_if J (fun hg => oS (ct hg) J J Ty.a3 J) <| y_if J (fun hg => o_cmp (ct hg) J J) <| y_if J (fun hg => om (d := .bool (v37.State != 1)) (ct hg)) <| y_if (want2 J J J) (fun hg => oF J Ty.f182_1 J) <| y_if (want2 J J J) (fun hg => oS (ct hg) J J Ty.a3 J) <| y_if (want2 J J J) (fun hg => o_cmp (ct hg) J J) <| y_if (want2 J J J) (fun hg => om (d := .bool (v37.Key != 0)) (ct hg)) <| y_if (want2 J J J) (fun hg => oF J Ty.f182_2 J) <| y_if (want2 J J J) (fun hg => oS (ct hg) J J Ty.a3 J) <| y_if (want2 J J J) (fun hg => o_cmp (ct hg) J J) <| y_if (want2 J J J) (fun hg => pk_or (ct hg) J J (fun q => andI hg (eqF q))) <| y_if J (fun hg => pk_and (ct hg) J J (fun q => andI hg (eqT q))) <| y0 J (pk_or J J J (fun q => eqF q)) ?_
     refine yN ?_
     refine pw_cond (((decide (v37.State < 0)) || (decide (v37.State > 2))) || ((v37.State != 1) && ((v37.Key != 0) || (v37.Val != 0)))) J (fun hc => ?_) (fun hc => ?_)
     ·have h := ifT h hc
      refine sR <| yb J J <| yN <| pw_ret ?_
      have he := hx24 _ (oj h).symm
      have h := hk23
      rw [← he] at h
      obtain rfl := oj h
      exact ⟨J, [_], ⟨J, tr⟩, J, io⟩
     ·have h := ifF h hc
      refine pw_skip <| pw_seq <| sR <| yF J J Ty.f182_0 J <| yS J J J J Ty.a3 J <| y0 J (o_cmp J J J) <| yN ?_
      refine pw_cond (v37.State != 1) J (fun hc => ?_) (fun hc => ?_)
      ·have h := ifT h hc
       refine pw_exit <| thenQ_exit <| blockQ_exit ?_
       exact ⟨J, (), h, (wk_st _ _ ⟨J, J, J, J, J, J, J, J, J, tr⟩ tr)⟩
      ·have h := ifF h hc
       refine pw_skip <| pw_seq <| sR <| yM (d := .L r10_Place.Pv a0) J J <| yF J J Ty.f182_1 J <| yS J J J J Ty.a3 J <| bnE h fun v38 hv35 h => y0 J (o_call J Ty.k180 J (r10_Find_ok hv35)) <| yI J J <| y0 J (o_cmp J J J) <| yN ?_
       refine pw_cond (v38 != s25) J (fun hc => ?_) (fun hc => ?_)
       ·have h := ifT h hc
        refine sR <| yb J J <| yN <| pw_ret ?_
        have he := hx24 _ (oj h).symm
        have h := hk23
        rw [← he] at h
        obtain rfl := oj h
        exact ⟨J, [_], ⟨J, tr⟩, J, io⟩
       ·have h := ifF h hc
        refine pw_skip <| sR <| yI J J <| yF J J Ty.f182_1 J <| yS J J J J Ty.a3 J <| bnE h fun v39 hv36 h => y0 J (o_call J Ty.k181 J (r10_Home_ok hv36)) <| yi J J <| yN <| pw_block ?_
        obtain ⟨e40, hl37, hk38⟩ := bindE h
        refine pw_lp0 (fun (s41 : Int) => St.of [(0, .L r10_Place.Pv a0), (3, .I (a0.length : Int)), (4, .I s25), (6, .I s41)] []) hl37 (wk_st _ _ ⟨J, J, J, J, J, J, J, J, J, J, J, J, tr⟩ tr) (fun s41 x42 h hx39 => ?_)
        refine pw_seq <| sR <| yI J J <| yI J J <| y0 J (o_cmp J J J) <| yN ?_
        refine pw_cond (s41 != s25) J (fun hc => ?_) (fun hc => ?_)
        ·have h := ifT h hc
         refine pw_skip <| pw_seq <| pw_block <| sR <| yM (d := .L r10_Place.Pv a0) J J <| yI J J <| bnE h fun v43 hv40 h => y0 J (o_ixL (f := r10_Place.Pv) (cs := r10_Place.Pc v43) hv40 J J Ty.e44 Ty.s182 J J) <| y0 J (o_fieldAddrR J Ty.f182_0 J) <| y0 J (o_loadRS J Ty.a3 J) <| y0 J (o_cmp J J J) <| yN ?_
         refine pw_cond (v43.State == 0) J (fun hc => ?_) (fun hc => ?_)
         ·have h := ifT h hc
          refine sR <| yb J J <| yN <| pw_ret ?_
          have he := hx39 _ (oj h).symm
          have h := hk38
          rw [← he] at h
          have he := hx24 _ (oj h).symm
          have h := hk23
          rw [← he] at h
          obtain rfl := oj h
          exact ⟨J, [_], ⟨J, tr⟩, J, io⟩
         ·have h := ifF h hc
          refine pw_skip <| s1 <| yI J J <| y0 J (o_ari J J J) <| yI J J <| bnE h fun v44 hv41 h => y0 J (o_ari J J hv41) <| yi J J <| yN ?_
          exact ⟨J, v44, (oj h).symm, (wk_st _ _ ⟨J, J, J, J, J, J, J, J, J, J, J, J, tr⟩ tr)⟩
        ·have h := ifF h hc
         refine pw_exit <| thenQ_exit <| thenQ_exit <| blockQ_exit ?_
         have he := hx39 _ (oj h).symm
         have h := hk38
         rw [← he] at h
         exact ⟨J, (), h, (wk_st _ _ ⟨J, J, J, J, J, J, J, J, J, tr⟩ tr)⟩
   ·have h := ifF h hc
    refine pw_exit <| thenQ_exit <| thenQ_exit <| blockQ_exit ?_
    have he := hx24 _ (oj h).symm
    have h := hk23
    rw [← he] at h
    exact ⟨J, (), h, (wk_st _ _ tr tr)⟩

theorem r01_Pack_ok {a0 : Int} {a1 : Int} {r : Int} (h : r01_Pack a0 a1 = some r) : PCalls Tryz.prog 132 [.I a0, .I a1] (.I r) := by
 unfold r01_Pack at h
 refine pc_intro (N := 24) Tryz.func132 J J nl fun w0 imm0 => sR <| yi J J <| yN <| pw_seq <| sR <| yI J J <| y0 J (o_cmp J J J) <| yB J J <| y_if J (fun hg => mI J) <| y_if J (fun hg => o_cmp (ct hg) J J) <| y0 J (pk_or J J J (fun q => eqF q)) <| yB J J <| y_if J (fun hg => mI J) <| y_if J (fun hg => o_cmp (ct hg) J J) <| y0 J (pk_or J J J (fun q => eqF q)) <| yB J J <| y_if J (fun hg => mI J) <| y_if J (fun hg => o_cmp (ct hg) J J) <| y0 J (pk_or J J J (fun q => eqF q)) <| yN ?_
 refine pw_cond ((((decide (a0 < 0)) || (decide (a0 > 23))) || (decide (a1 < 0))) || (decide (a1 > 9))) J (fun hc => ?_) (fun hc => ?_)
 ·have h := ifT h hc
  refine sR <| yi J J <| yN <| pw_ret ?_
  obtain rfl := oj h
  exact ⟨J, [_], ⟨J, tr⟩, J, io⟩
 ·have h := ifF h hc
  refine pw_skip <| sR <| yI J J <| y0 J (o_ari J J J) <| yI J J <| y0 J (o_ari J J J) <| y0 J (o_ari J J J) <| yi J J <| yN <| pw_ret ?_
  obtain rfl := oj h
  exact ⟨J, [_], ⟨J, tr⟩, J, io⟩

theorem r01_Valid_ok {a0 : Int} {r : Bool} (h : r01_Valid a0 = some r) : PCalls Tryz.prog 262 [.I a0] (.bool r) := by
 unfold r01_Valid at h
 refine pc_intro (N := 18) Tryz.func262 J J nl fun w0 imm0 => sR <| yb J J <| yN <| pw_seq <| sR <| yI J J <| y0 J (o_cmp J J J) <| yB J J <| y_if J (fun hg => mI J) <| y_if J (fun hg => o_cmp (ct hg) J J) <| y0 J (pk_or J J J (fun q => eqF q)) <| yN ?_
 refine pw_cond ((decide (a0 < 1)) || (decide (a0 > 400))) J (fun hc => ?_) (fun hc => ?_)
 ·have h := ifT h hc
  refine sR <| yb J J <| yN <| pw_ret ?_
  obtain rfl := oj h
  exact ⟨J, [_], ⟨J, tr⟩, J, io⟩
 ·have h := ifF h hc
  refine pw_skip <| sR <| yI J J <| y0 J (o_ari J J J) <| bnE h fun v1 hv1 h => y0 J (o_ari J J hv1) <| yI J J <| y0 J (o_ari J J J) <| bnE h fun v2 hv2 h => y0 J (o_ari J J hv2) <| bnE h fun v3 hv3 h => y0 J (o_call J Ty.k132 J (r01_Pack_ok hv3)) <| yI J J <| y0 J (o_cmp J J J) <| yb J J <| yN <| pw_ret ?_
  obtain rfl := oj h
  exact ⟨J, [_], ⟨J, tr⟩, J, io⟩

theorem r01_Slot_ok {a0 : Int} {r : Int} (h : r01_Slot a0 = some r) : PCalls Tryz.prog 223 [.I a0] (.I r) := by
 unfold r01_Slot at h
 refine pc_intro (N := 9) Tryz.func223 J J nl fun w0 imm0 => sR <| yi J J <| yN <| pw_seq <| sR <| yI J J <| bnE h fun v1 hv1 h => y0 J (o_call J Ty.k262 J (r01_Valid_ok hv1)) <| y0 J (o_not J J) <| yN ?_
 refine pw_cond (!v1) J (fun hc => ?_) (fun hc => ?_)
 ·have h := ifT h hc
  refine sR <| yi J J <| yN <| pw_ret ?_
  obtain rfl := oj h
  exact ⟨J, [_], ⟨J, tr⟩, J, io⟩
 ·have h := ifF h hc
  refine pw_skip <| sR <| yI J J <| y0 J (o_ari J J J) <| bnE h fun v2 hv2 h => y0 J (o_ari J J hv2) <| yi J J <| yN <| pw_ret ?_
  obtain rfl := oj h
  exact ⟨J, [_], ⟨J, tr⟩, J, io⟩

theorem r01_Gen_ok {a0 : Int} {r : Int} (h : r01_Gen a0 = some r) : PCalls Tryz.prog 224 [.I a0] (.I r) := by
 unfold r01_Gen at h
 refine pc_intro (N := 9) Tryz.func224 J J nl fun w0 imm0 => sR <| yi J J <| yN <| pw_seq <| sR <| yI J J <| bnE h fun v1 hv1 h => y0 J (o_call J Ty.k262 J (r01_Valid_ok hv1)) <| y0 J (o_not J J) <| yN ?_
 refine pw_cond (!v1) J (fun hc => ?_) (fun hc => ?_)
 ·have h := ifT h hc
  refine sR <| yi J J <| yN <| pw_ret ?_
  obtain rfl := oj h
  exact ⟨J, [_], ⟨J, tr⟩, J, io⟩
 ·have h := ifF h hc
  refine pw_skip <| sR <| yI J J <| y0 J (o_ari J J J) <| bnE h fun v2 hv2 h => y0 J (o_ari J J hv2) <| yi J J <| yN <| pw_ret ?_
  obtain rfl := oj h
  exact ⟨J, [_], ⟨J, tr⟩, J, io⟩

theorem r03_Find_ok {a0 : r03_Slab} {a1 : Int} {r : Int × Int} (h : r03_Find a0 a1 = some r) : PCalls Tryz.prog 166 [r03_Slab.Pv a0, .I a1] (.tup [.I r.1, .I r.2]) := by
 unfold r03_Find at h
 refine pc_intro (N := 42) Tryz.func166 J J nl fun w0 imm0 => sR <| y1 J (o_box (d := r03_Slab.Pv a0) J J J J J) J <| yi J J <| yi J J <| yN <| pw_seq <| sR <| yI J J <| y0 J (o_cmp J J J) <| yN ?_
 refine pw_cond (a1 == 0) J (fun hc => ?_) (fun hc => ?_)
 ·have h := ifT h hc
  refine sR <| yi J J <| yi J J <| yN <| pw_ret ?_
  obtain rfl := oj h
  exact ⟨J, [_, _], ⟨J, ⟨J, tr⟩⟩, J, io⟩
 ·have h := ifF h hc
  refine pw_skip <| sR <| yI J J <| bnE h fun v1 hv1 h => y0 J (o_call J Ty.k223 J (r01_Slot_ok hv1)) <| yi J J <| yN <| pw_seq <| sR <| yI J J <| y0 J (o_cmp J J J) <| yB J J <| y_if J (fun hg => mI J) <| y_if J (fun hg => oF J Ty.f136_0 J) <| y_if J (fun hg => oS (ct hg) J J Ty.a134 J) <| y_if J (fun hg => o_lnL (f := r03_Cell.Pv) (ct hg) Ty.e134) <| y_if J (fun hg => o_cmp (ct hg) (ct hg) J) <| y0 J (pk_or J J J (fun q => eqF q)) <| yN ?_
  refine pw_cond ((decide (v1 < 0)) || (decide (v1 ≥ (a0.Cells.length : Int)))) J (fun hc => ?_) (fun hc => ?_)
  ·have h := ifT h hc
   refine sR <| yi J J <| yi J J <| yN <| pw_ret ?_
   obtain rfl := oj h
   exact ⟨J, [_, _], ⟨J, ⟨J, tr⟩⟩, J, io⟩
  ·have h := ifF h hc
   refine pw_skip <| sR <| yF J J Ty.f136_0 J <| yS J J J J Ty.a134 J <| yI J J <| bnE h fun v2 hv2 h => y0 J (o_ixL (f := r03_Cell.Pv) (cs := r03_Cell.Pc v2) hv2 J J Ty.e134 Ty.s220 J J) <| y0 J (o_loadRA J Ty.a220 Ty.s220 nl J) <| y1 J (o_alloc J Ty.z220 J J J) J <| y_sto (x' := r03_Cell.Pv v2) (cl' := true) J J (.inl J) Ty.s220 <| yN <| pw_seq <| dr [] Ty.mix (by kernel_rfl) (by kernel_rfl) <| d7 J (fun _ hN => oF J Ty.f220_1 J) J <| d0 J (oS J J J Ty.a3 J) J <| d7 J (fun _ hN => mI J) J <| bnE h fun v3 hv3 h => d2 J (o_call J Ty.k224 J (r01_Gen_ok hv3)) J <| d7 J (fun _ hN => o_cmp J J J) J <| d7 J (fun _ hN => mB J) J <| d_if7 J (fun hg _ hN => oF J Ty.f220_0 J) J <| d_if0 J (fun hg => oS (ct hg) J J Ty.a3 J) J <| d_if7 J (fun hg _ hN => o_cmp (ct hg) J J) J <| d_if7 J (fun hg _ hN => om (d := .bool (v2.State != 1)) (ct hg)) J <| d_if7 (want2 J J J) (fun hg _ hN => oF J Ty.f220_0 J) J <| d_if0 (want2 J J J) (fun hg => oS (ct hg) J J Ty.a3 J) J <| d_if7 (want2 J J J) (fun hg _ hN => o_cmp (ct hg) J J) J <| d_if7 J (fun hg _ hN => pk_and (ct hg) J J (fun q => andI hg (eqT q))) J <| d7 J (fun _ hN => pk_or J J J (fun q => eqF q)) J <| d_nil ?_
   refine pw_cond ((v2.Gen != v3) || ((v2.State != 1) && (v2.State != 2))) J (fun hc => ?_) (fun hc => ?_)
   ·have h := ifT h hc
    refine sR <| yi J J <| yi J J <| yN <| pw_ret ?_
    obtain rfl := oj h
    exact ⟨J, [_, _], ⟨J, ⟨J, tr⟩⟩, J, io⟩
   ·have h := ifF h hc
    refine pw_skip <| sR <| yI J J <| yi J J <| yi J J <| yN <| pw_ret ?_
    obtain rfl := oj h
    exact ⟨J, [_, _], ⟨J, ⟨J, tr⟩⟩, J, io⟩

theorem r03_Get_ok {a0 : r03_Slab} {a1 : Int} {r : Int × Int} (h : r03_Get a0 a1 = some r) : PCalls Tryz.prog 106 [r03_Slab.Pv a0, .I a1] (.tup [.I r.1, .I r.2]) := by
 unfold r03_Get at h
 refine pc_intro (N := 30) Tryz.func106 J J nl fun w0 imm0 => sR <| y1 J (o_box (d := r03_Slab.Pv a0) J J J J J) J <| yi J J <| yi J J <| yN <| sR <| yL J J J J Ty.a136 Ty.s136 nl J <| yI J J <| bnE h fun v1 hv1 h => y0 J (o_call J Ty.k166 J (r03_Find_ok hv1)) <| yM (d := .tup [.I v1.1, .I v1.2]) J J <| yX J J J <| yX J J J <| yi J J <| yi J J <| yN <| pw_seq <| sR <| yI J J <| y0 J (o_cmp J J J) <| yN ?_
 refine pw_cond (v1.2 != 0) J (fun hc => ?_) (fun hc => ?_)
 ·have h := ifT h hc
  refine sR <| yI J J <| yi J J <| yi J J <| yN <| pw_ret ?_
  obtain rfl := oj h
  exact ⟨J, [_, _], ⟨J, ⟨J, tr⟩⟩, J, io⟩
 ·have h := ifF h hc
  refine pw_skip <| pw_seq <| sR <| yF J J Ty.f136_0 J <| yS J J J J Ty.a134 J <| yI J J <| bnE h fun v2 hv2 h => y0 J (o_ixL (f := r03_Cell.Pv) (cs := r03_Cell.Pc v2) hv2 J J Ty.e134 Ty.s220 J J) <| y0 J (o_fieldAddrR J Ty.f220_0 J) <| y0 J (o_loadRS J Ty.a3 J) <| y0 J (o_cmp J J J) <| yN ?_
  refine pw_cond (v2.State == 2) J (fun hc => ?_) (fun hc => ?_)
  ·have h := ifT h hc
   refine sR <| yi J J <| yi J J <| yN <| pw_ret ?_
   obtain rfl := oj h
   exact ⟨J, [_, _], ⟨J, ⟨J, tr⟩⟩, J, io⟩
  ·have h := ifF h hc
   refine pw_skip <| sR <| yF J J Ty.f136_0 J <| yS J J J J Ty.a134 J <| yI J J <| y0 J (o_ixL (f := r03_Cell.Pv) (cs := r03_Cell.Pc v2) hv2 J J Ty.e134 Ty.s220 J J) <| y0 J (o_fieldAddrR J Ty.f220_2 J) <| y0 J (o_loadRS J Ty.a3 J) <| yi J J <| yi J J <| yN <| pw_ret ?_
   obtain rfl := oj h
   exact ⟨J, [_, _], ⟨J, ⟨J, tr⟩⟩, J, io⟩

theorem r06_Get_ok {a0 : r06_Store} {a1 : Int} {r : r06_Obj × Int} (h : r06_Get a0 a1 = some r) : PCalls Tryz.prog 33 [r06_Store.Pv a0, .I a1] (.tup [r06_Obj.Pv r.1, .I r.2]) := by
 unfold r06_Get at h
 refine pc_intro (N := 25) Tryz.func33 J J nl fun w0 imm0 => sR <| y1 J (o_box (d := r06_Store.Pv a0) J J J J J) J <| y1 J (o_alloc J Ty.z63 J J J) J <| yi J J <| yN <| sR <| yL J J J J Ty.a42 Ty.s42 nl J <| bnE h fun v1 hv1 h => yc J (o_callF J Ty.k107 J (r06_Plain_ok hv1)) <| yI J J <| bnE h fun v2 hv2 h => y0 J (o_call J Ty.k106 J (r03_Get_ok hv2)) <| yM (d := .tup [.I v2.1, .I v2.2]) J J <| yX J J J <| yX J J J <| yi J J <| yi J J <| yN <| pw_seq <| sR <| yI J J <| y0 J (o_cmp J J J) <| yN ?_
 refine pw_cond (v2.2 != 0) J (fun hc => ?_) (fun hc => ?_)
 ·have h := ifT h hc
  refine sR <| y0 J (o_build (cs := [.I 0, .I 0, .I 0, .I 0, .bool false, .lst true (List.map iF [])]) J Ty.p63 Ty.z63 J J J) <| yI J J <| y_sto (x' := .agg [.I 0, .I 0, .I 0, .I 0, .bool false, .lst true (List.map iF [])]) (cl' := true) J J (.inl J) Ty.s63 <| yi J J <| yN <| pw_ret ?_
  obtain rfl := oj h
  exact ⟨J, [_, _], ⟨oL J J J Ty.a63 Ty.s63 nl J, ⟨J, tr⟩⟩, J, io⟩
 ·have h := ifF h hc
  refine pw_skip <| sR <| yF J J Ty.f42_0 J <| yS J J J J Ty.a40 J <| yI J J <| bnE h fun v3 hv3 h => y0 J (o_ixL (f := r06_Cell.Pv) (cs := r06_Cell.Pc v3) hv3 J J Ty.e40 Ty.s139 J J) <| y0 J (o_fieldAddrR J Ty.f139_2 J) <| y0 J (o_loadRA J Ty.a63 Ty.s63 nl J) <| y_sto (x' := r06_Obj.Pv v3.Val) (cl' := true) J J (.inr J) Ty.s63 <| yi J J <| yN <| pw_ret ?_
  obtain rfl := oj h
  exact ⟨J, [_, _], ⟨oL J J J Ty.a63 Ty.s63 nl J, ⟨J, tr⟩⟩, J, io⟩

theorem r15_tasks_ok {a0 : r15_Heap} {r : Bool} (h : r15_tasks a0 = some r) : PCalls Tryz.prog 101 [r15_Heap.Pv a0] (.bool r) := by
 unfold r15_tasks at h
 refine pc_intro (N := 113) Tryz.func101 J J nl fun w0 imm0 => sR <| y1 J (o_box (d := r15_Heap.Pv a0) J J J J J) J <| yb J J <| yN ?_
 obtain ⟨κ30, hκ27, h⟩ := jnE h
 refine pw_jn0 (κ := κ30) (r := r) (fun (_ : Unit) => St.of [(1, .ptr 1 0 0)] [(1, ⟨[r15_Heap.Pv a0], 0, false, 8, true⟩)]) (fun q31 h => ?_) ?_
 ·subst hκ27
  refine sR <| yF J J Ty.f49_4 J <| yF J J Ty.f47_1 J <| yS J J J J Ty.a3 J <| y0 J (o_cmp J J J) <| yB J J <| y_if J (fun hg => oF J Ty.f49_4 J) <| y_if J (fun hg => oF (ct hg) Ty.f47_0 J) <| y_if J (fun hg => oS (ct hg) J J Ty.a45 J) <| y_if J (fun hg => o_lnL (f := r14_Task.Pv) (ct hg) Ty.e45) <| y_if J (fun hg => o_cmp (ct hg) J J) <| y0 J (pk_and J J J (fun q => eqT q)) <| yb J J <| yN <| pw_ret ?_
  obtain rfl := oj h
  exact ⟨J, [_], ⟨J, tr⟩, J, io⟩
 ·skip
  refine sR <| yi J J <| yN <| pw_block ?_
  obtain ⟨e32, hl28, hk29⟩ := bindE h
  refine pw_lp0 (fun (s33 : Int) => St.of [(1, .ptr 1 0 0), (3, .I s33)] [(1, ⟨[r15_Heap.Pv a0], 0, false, 8, true⟩)]) hl28 (wk_st _ _ ⟨J, J, J, J, J, J, tr⟩ ⟨rS, tr⟩) (fun s33 x34 h hx30 => ?_)
  refine pw_seq <| sR <| yI J J <| yF J J Ty.f49_4 J <| yF J J Ty.f47_0 J <| yS J J J J Ty.a45 J <| y0 J (o_lnL (f := r14_Task.Pv) J Ty.e45) <| y0 J (o_cmp J J J) <| yN ?_
  refine pw_cond (decide (s33 < (a0.Q.L.length : Int))) J (fun hc => ?_) (fun hc => ?_)
  ·have h := ifT h hc
   refine pw_skip ?_
   obtain ⟨κ47, hκ42, h⟩ := jnE h
   refine pw_jn0 (κ := κ47) (r := x34) (fun (_ : Unit) => St.of [(1, .ptr 1 0 0), (3, .I s33)] [(1, ⟨[r15_Heap.Pv a0], 0, false, 8, true⟩)]) (fun q48 h => ?_) ?_
   ·subst hκ42
    refine s1 <| yI J J <| y0 J (o_ari J J J) <| yi J J <| yN ?_
    exact ⟨J, w64 (s33 + 1), (oj h).symm, (wk_st _ _ ⟨J, J, J, J, J, J, tr⟩ ⟨rS, tr⟩)⟩
   ·skip
    refine pw_block <| sR <| yF J J Ty.f49_4 J <| yF J J Ty.f47_0 J <| yS J J J J Ty.a45 J <| yI J J <| bnE h fun v49 hv43 h => y0 J (o_ixL (f := r14_Task.Pv) (cs := r14_Task.Pc v49) hv43 J J Ty.e45 Ty.s151 J J) <| y0 J (o_loadRA J Ty.a151 Ty.s151 nl J) <| y1 J (o_alloc J Ty.z151 J J J) J <| y_sto (x' := r14_Task.Pv v49) (cl' := true) J J (.inl J) Ty.s151 <| yN <| pw_seq <| sR <| yF J J Ty.f151_0 J <| yS J J J J Ty.a3 J <| y0 J (o_cmp J J J) <| yB J J <| y_if J (fun hg => oF J Ty.f151_0 J) <| y_if J (fun hg => oS (ct hg) J J Ty.a3 J) <| y_if J (fun hg => o_cmp (ct hg) J J) <| y0 J (pk_and J J J (fun q => eqT q)) <| yB J J <| y_if J (fun hg => oF J Ty.f151_2 J) <| y_if J (fun hg => oS (ct hg) J J Ty.a3 J) <| y_if J (fun hg => o_cmp (ct hg) J J) <| y0 J (pk_or J J J (fun q => eqF q)) <| yB J J <| y_if J (fun hg => oF J Ty.f151_2 J) <| y_if J (fun hg => oS (ct hg) J J Ty.a3 J) <| y_if J (fun hg => o_cmp (ct hg) J J) <| y0 J (pk_or J J J (fun q => eqF q)) <| yN ?_
    refine pw_cond ((((v49.Kind != 1) && (v49.Kind != 2)) || (decide (v49.Prog < 0))) || (decide (v49.Prog > 5))) J (fun hc => ?_) (fun hc => ?_)
    ·have h := ifT h hc
     refine sR <| yb J J <| yN <| pw_ret ?_
     have he := hx30 _ (oj h).symm
     have h := hk29
     rw [← he] at h
     obtain rfl := oj h
     exact ⟨J, [_], ⟨J, tr⟩, J, io⟩
    ·have h := ifF h hc
     refine pw_skip ?_
     obtain ⟨κ54, hκ48, h⟩ := jnE h
     refine pw_jn0 (κ := κ54) (r := x34) (fun (_ : Unit) => St.of [(1, .ptr 1 0 0), (3, .I s33), (4, .ptr 4 0 0)] [(4, ⟨[r14_Task.Pv v49], 0, false, 3, true⟩), (1, ⟨[r15_Heap.Pv a0], 0, false, 8, true⟩)]) (fun q55 h => ?_) ?_
     ·subst hκ48
      refine sR <| yF J J Ty.f49_0 J <| yL J J J J Ty.a42 Ty.s42 nl J <| yF J J Ty.f151_1 J <| yS J J J J Ty.a3 J <| bnE h fun v56 hv49 h => yc J (o_callF J Ty.k33 J (r06_Get_ok hv49)) <| yM (d := .tup [r06_Obj.Pv v56.1, .I v56.2]) J J <| yX J J J <| yX J J J <| y1 J (o_alloc J Ty.z63 J J J) J <| y_sto (x' := r06_Obj.Pv v56.1) (cl' := true) J J (.inr J) Ty.s63 <| yi J J <| yN <| sR <| yF J J Ty.f151_0 J <| yS J J J J Ty.a3 J <| y0 J (o_cmp J J J) <| yB J J <| y_if J (fun hg => mI J) <| y_if J (fun hg => o_cmp (ct hg) J J) <| y_if J (fun hg => om (d := .bool (v56.2 != 0)) (ct hg)) <| y_if (want2 J J J) (fun hg => oF J Ty.f63_4 J) <| y_if (want2 J J J) (fun hg => oS (ct hg) J J Ty.a4 J) <| y_if (want2 J J J) (fun hg => o_not (ct hg) J) <| y_if J (fun hg => pk_or (ct hg) J J (fun q => andI hg (eqF q))) <| y0 J (pk_and J J J (fun q => eqT q)) <| yB J J <| y_if J (fun hg => oF J Ty.f151_0 J) <| y_if J (fun hg => oS (ct hg) J J Ty.a3 J) <| y_if J (fun hg => o_cmp (ct hg) J J) <| y_if J (fun hg => om (d := .bool (v49.Kind == 2)) (ct hg)) <| y_if (want2 J J J) (fun hg => oF J Ty.f151_1 J) <| y_if (want2 J J J) (fun hg => oS (ct hg) J J Ty.a3 J) <| y_if (want2 J J J) (fun hg => o_cmp (ct hg) J J) <| y_if (want2 J J J) (fun hg => om (d := .bool (decide (v49.At < 0))) (ct hg)) ?_
      refine y_if (want2 J J J) (fun hg => oF J Ty.f151_1 J) <| y_if (want2 J J J) (fun hg => oS (ct hg) J J Ty.a3 J) <| y_if (want2 J J J) (fun hg => o_cmp (ct hg) J J) <| y_if (want2 J J J) (fun hg => pk_or (ct hg) J J (fun q => andI hg (eqF q))) <| y_if J (fun hg => pk_and (ct hg) J J (fun q => andI hg (eqT q))) <| y0 J (pk_or J J J (fun q => eqF q)) <| yN ?_
      refine pw_cond (((v49.Kind == 1) && ((v56.2 != 0) || (!v56.1.Started))) || ((v49.Kind == 2) && ((decide (v49.At < 0)) || (decide (v49.At > 5))))) J (fun hc => ?_) (fun hc => ?_)
      ·have h := ifT h hc
       refine sR <| yb J J <| yN <| pw_ret ?_
       have he := hx30 _ (oj h).symm
       have h := hk29
       rw [← he] at h
       obtain rfl := oj h
       exact ⟨J, [_], ⟨J, tr⟩, J, io⟩
      ·have h := ifF h hc
       refine pw_skip ?_
       exact ⟨J, (), h, (wk_st _ _ ⟨J, J, J, J, J, J, tr⟩ ⟨rS, tr⟩)⟩
     ·skip
      refine sR <| yi J J <| yN <| pw_block ?_
      obtain ⟨e57, hl50, hk51⟩ := bindE h
      refine pw_lp0 (fun (s58 : Int) => St.of [(1, .ptr 1 0 0), (3, .I s33), (4, .ptr 4 0 0), (5, .I s58)] [(4, ⟨[r14_Task.Pv v49], 0, false, 3, true⟩), (1, ⟨[r15_Heap.Pv a0], 0, false, 8, true⟩)]) hl50 (wk_st _ _ ⟨J, J, J, J, J, J, J, J, J, J, J, J, tr⟩ ⟨rS, rS, tr⟩) (fun s58 x59 h hx52 => ?_)
      refine pw_seq <| sR <| yI J J <| yI J J <| y0 J (o_cmp J J J) <| yN ?_
      refine pw_cond (decide (s58 < s33)) J (fun hc => ?_) (fun hc => ?_)
      ·have h := ifT h hc
       refine pw_skip <| pw_seq <| pw_block <| dr [] Ty.mix (by kernel_rfl) (by kernel_rfl) <| d7 J (fun _ hN => oF J Ty.f49_4 J) J <| d7 J (fun _ hN => oF J Ty.f47_0 J) J <| d0 J (oS J J J Ty.a45 J) J <| d7 J (fun _ hN => mI J) J <| bnE h fun v60 hv53 h => d0 J (o_ixL (f := r14_Task.Pv) (cs := r14_Task.Pc v60) hv53 J J Ty.e45 Ty.s151 J J) J <| d7 J (fun _ hN => o_fieldAddrR J Ty.f151_0 J) J <| d0 J (o_loadRS J Ty.a3 J) J <| d7 J (fun _ hN => oF J Ty.f151_0 J) J <| d0 J (oS J J J Ty.a3 J) J <| d7 J (fun _ hN => o_cmp J J J) J <| d7 J (fun _ hN => mB J) J <| d_if7 J (fun hg _ hN => oF J Ty.f49_4 J) J <| d_if7 J (fun hg _ hN => oF (ct hg) Ty.f47_0 J) J <| d_if0 J (fun hg => oS (ct hg) J J Ty.a45 J) J <| d_if7 J (fun hg _ hN => mI J) J <| d_if0 J (fun hg => o_ixL (f := r14_Task.Pv) (cs := r14_Task.Pc v60) hv53 (ct hg) (ct hg) Ty.e45 Ty.s151 J J) J <| d_if7 J (fun hg _ hN => o_fieldAddrR (ct hg) Ty.f151_1 J) J <| d_if0 J (fun hg => o_loadRS (ct hg) Ty.a3 J) J <| d_if7 J (fun hg _ hN => oF J Ty.f151_1 J) J <| d_if0 J (fun hg => oS (ct hg) J J Ty.a3 J) J <| d_if7 J (fun hg _ hN => o_cmp (ct hg) (ct hg) J) J <| d7 J (fun _ hN => pk_and J J J (fun q => eqT q)) J <| d_nil ?_
       refine pw_cond ((v60.Kind == v49.Kind) && (v60.At == v49.At)) J (fun hc => ?_) (fun hc => ?_)
       ·have h := ifT h hc
        refine sR <| yb J J <| yN <| pw_ret ?_
        have he := hx52 _ (oj h).symm
        have h := hk51
        rw [← he] at h
        have he := hx30 _ (oj h).symm
        have h := hk29
        rw [← he] at h
        obtain rfl := oj h
        exact ⟨J, [_], ⟨J, tr⟩, J, io⟩
       ·have h := ifF h hc
        refine pw_skip <| s1 <| yI J J <| y0 J (o_ari J J J) <| yi J J <| yN ?_
        exact ⟨J, w64 (s58 + 1), (oj h).symm, (wk_st _ _ ⟨J, J, J, J, J, J, J, J, J, J, J, J, tr⟩ ⟨rS, rS, tr⟩)⟩
      ·have h := ifF h hc
       refine pw_exit <| thenQ_exit <| thenQ_exit <| blockQ_exit ?_
       have he := hx52 _ (oj h).symm
       have h := hk51
       rw [← he] at h
       exact ⟨J, (), h, (wk_st _ _ ⟨J, J, J, J, J, J, J, J, J, tr⟩ ⟨rS, rS, tr⟩)⟩
  ·have h := ifF h hc
   refine pw_exit <| thenQ_exit <| thenQ_exit <| blockQ_exit ?_
   have he := hx30 _ (oj h).symm
   have h := hk29
   rw [← he] at h
   exact ⟨J, (), h, (wk_st _ _ ⟨J, J, J, tr⟩ ⟨rS, tr⟩)⟩

theorem r15_Lives_ok {a0 : r15_Heap} {a1 : Int} {r : Bool} (h : r15_Lives a0 a1 = some r) : PCalls Tryz.prog 90 [r15_Heap.Pv a0, .I a1] (.bool r) := by
 unfold r15_Lives at h
 refine pc_intro (N := 16) Tryz.func90 J J nl fun w0 imm0 => sR <| y1 J (o_box (d := r15_Heap.Pv a0) J J J J J) J <| yb J J <| yN <| sR <| yF J J Ty.f49_0 J <| yL J J J J Ty.a42 Ty.s42 nl J <| yI J J <| bnE h fun v1 hv1 h => yc J (o_callF J Ty.k33 J (r06_Get_ok hv1)) <| yM (d := .tup [r06_Obj.Pv v1.1, .I v1.2]) J J <| yX J J J <| yX J J J <| y1 J (o_alloc J Ty.z63 J J J) J <| y_sto (x' := r06_Obj.Pv v1.1) (cl' := true) J J (.inr J) Ty.s63 <| yi J J <| yN <| sR <| yI J J <| y0 J (o_cmp J J J) <| yb J J <| yN <| pw_ret ?_
 obtain rfl := oj h
 exact ⟨J, [_], ⟨J, tr⟩, J, io⟩

theorem r15_maybe_ok {a0 : r15_Heap} {a1 : Int} {r : Bool} (h : r15_maybe a0 a1 = some r) : PCalls Tryz.prog 67 [r15_Heap.Pv a0, .I a1] (.bool r) := by
 unfold r15_maybe at h
 refine pc_intro (N := 12) Tryz.func67 J J nl fun w0 imm0 => sR <| y1 J (o_box (d := r15_Heap.Pv a0) J J J J J) J <| yb J J <| yN <| sR <| yI J J <| y0 J (o_cmp J J J) <| yB J J <| y_if J (fun hg => oL J J J Ty.a49 Ty.s49 nl J) <| y_if J (fun hg => mI J) <| bnE h fun v1 hv1 h => y_if J (fun hg => o_call J Ty.k90 (consE (ct hg) (consE (ct hg) J)) (r15_Lives_ok (onlyE hv1 hg))) <| y0 J (pk_or J J J (fun q => eqF q)) <| yb J J <| yN <| pw_ret ?_
 obtain rfl := oj h
 exact ⟨J, [_], ⟨J, tr⟩, J, io⟩

theorem r06_Sorted_ok {a0 : r06_Store} {a1 : List Int} {r : List Int} (h : r06_Sorted a0 a1 = some r) : PCalls Tryz.prog 133 [r06_Store.Pv a0, .L iF a1] (.L iF r) := by
 unfold r06_Sorted at h
 refine pc_intro (N := 89) Tryz.func133 J J nl fun w0 imm0 => sR <| y1 J (o_box (d := r06_Store.Pv a0) J J J J J) J <| yA (d := .lst true (List.map iF [])) J J <| yN <| sR <| y0 J (o_nslice J Ty.e27 Ty.s3) <| yM (d := .L iF a1) J J <| bnE h fun v1 hv1 h => y1 J (o_apT (f := iF) hv1 J J (.inl ⟨_, J, J⟩) Ty.e27 Ty.s3 Ty.b3 Ty.z3 J (fun _ => J)) J <| yA (d := .sl 15) J J <| yN ?_
 obtain ⟨κ35, hκ28, h⟩ := jnE h
 refine pw_jn0 (κ := κ35) (r := r) (fun (j36 : List Int) => St.of [(5, .sl 15)] [(15, ⟨List.map iF j36, 0, true, 1, true⟩)]) (fun j36 h => ?_) ?_
 ·subst hκ28
  refine sR <| yM (d := .sl 15) J J <| yA (d := .sl 15) J J <| yN <| pw_ret ?_
  obtain rfl := oj h
  exact ⟨J, [_], ⟨J, tr⟩, J, io⟩
 ·skip
  refine sR <| yi J J <| yN <| pw_block ?_
  obtain ⟨e37, hl29, hk30⟩ := bindE h
  refine pw_lp0 (fun (q : Int × (List Int)) => St.of [(2, .ptr 2 0 0), (5, .sl 15), (6, .I q.1)] [(15, ⟨List.map iF q.2, 0, true, 1, true⟩), (2, ⟨[r06_Store.Pv a0], 0, false, 3, true⟩)]) hl29 (wk_st _ _ ⟨J, J, J, J, J, J, J, J, J, tr⟩ ⟨rS, rS, tr⟩) (fun q41 x40 h hx31 => ?_)
  obtain ⟨s38, s39⟩ := q41
  refine pw_seq <| sR <| yI J J <| yM (d := .sl 15) J J <| y0 J (o_lnR (f := iF) J J J Ty.e27) <| y0 J (o_cmp J J J) <| yN ?_
  refine pw_cond (decide (s38 < (s39.length : Int))) J (fun hc => ?_) (fun hc => ?_)
  ·have h := ifT h hc
   refine pw_skip ?_
   obtain ⟨κ55, hκ43, h⟩ := jnE h
   refine pw_jn0 (κ := κ55) (r := x40) (fun (j56 : List Int) => St.of [(2, .ptr 2 0 0), (5, .sl 15), (6, .I s38)] [(15, ⟨List.map iF j56, 0, true, 1, true⟩), (2, ⟨[r06_Store.Pv a0], 0, false, 3, true⟩)]) (fun j56 h => ?_) ?_
   ·subst hκ43
    refine s1 <| yI J J <| y0 J (o_ari J J J) <| yi J J <| yN ?_
    exact ⟨J, (w64 (s38 + 1), j56), (oj h).symm, (wk_st _ _ ⟨J, J, J, J, J, J, J, J, J, tr⟩ ⟨rS, rS, tr⟩)⟩
   ·skip
    refine pw_block <| sR <| yI J J <| yi J J <| yN <| pw_block ?_
    obtain ⟨e57, hl44, hk45⟩ := bindE h
    refine pw_lp0 (fun (q : Int × (List Int)) => St.of [(2, .ptr 2 0 0), (5, .sl 15), (6, .I s38), (7, .I q.1)] [(15, ⟨List.map iF q.2, 0, true, 1, true⟩), (2, ⟨[r06_Store.Pv a0], 0, false, 3, true⟩)]) hl44 (wk_st _ _ ⟨J, J, J, J, J, J, J, J, J, J, J, J, tr⟩ ⟨rS, rS, tr⟩) (fun q61 x60 h hx46 => ?_)
    obtain ⟨s58, s59⟩ := q61
    refine pw_seq <| sR <| yI J J <| y0 J (o_cmp J J J) <| yN ?_
    refine pw_cond (decide (s58 > 0)) J (fun hc => ?_) (fun hc => ?_)
    ·have h := ifT h hc
     refine pw_skip <| pw_seq <| pw_block <| dr [] Ty.mix (by kernel_rfl) (by kernel_rfl) <| d0 J (oL J J J Ty.a42 Ty.s42 nl J) J <| bnE h fun v62 hv47 h => d2f J (o_callF J Ty.k107 J (r06_Plain_ok hv47)) J <| d7 J (fun _ hN => om (d := .sl 15) J) J <| d7 J (fun _ hN => mI J) J <| d7 J (fun _ hN => o_ari J J J) J <| bnE h fun v63 hv48 h => d0 J (o_ixR (f := iF) hv48 J J J J Ty.e27 Ty.s3 J) J <| d0 J (o_ldS (f := iF) hv48 J J J Ty.a3 J) J <| bnE h fun v64 hv49 h => d2 J (o_call J Ty.k166 J (r03_Find_ok hv49)) J <| d7 J (fun _ hN => om (d := .tup [.I v64.1, .I v64.2]) J) J <| d7 J (fun _ hN => oX J J) J <| d7 J (fun _ hN => oX J J) J <| d7 J (fun _ hN => aI J) J <| d7 J (fun _ hN => aI J) J <| d_nil <| dr [] Ty.mix (by kernel_rfl) (by kernel_rfl) <| d0 J (oL J J J Ty.a42 Ty.s42 nl J) J <| d2f J (o_callF J Ty.k107 J (r06_Plain_ok hv47)) J <| d7 J (fun _ hN => om (d := .sl 15) J) J <| d7 J (fun _ hN => mI J) J <| bnE h fun v65 hv50 h => d0 J (o_ixR (f := iF) hv50 J J J J Ty.e27 Ty.s3 J) J <| d0 J (o_ldS (f := iF) hv50 J J J Ty.a3 J) J <| bnE h fun v66 hv51 h => d2 J (o_call J Ty.k166 J (r03_Find_ok hv51)) J <| d7 J (fun _ hN => om (d := .tup [.I v66.1, .I v66.2]) J) J <| d7 J (fun _ hN => oX J J) J <| d7 J (fun _ hN => oX J J) J <| d7 J (fun _ hN => aI J) J <| d7 J (fun _ hN => aI J) J <| d_nil <| pw_seq <| dr [] Ty.mix (by kernel_rfl) (by kernel_rfl) <| d7 J (fun _ hN => mI J) J <| d7 J (fun _ hN => o_cmp J J J) J <| d7 J (fun _ hN => mB J) J <| d_if7 J (fun hg _ hN => mI J) J <| d_if7 J (fun hg _ hN => o_cmp (ct hg) J J) J <| d7 J (fun _ hN => pk_or J J J (fun q => eqF q)) J <| d7 J (fun _ hN => mB J) J <| d_if7 J (fun hg _ hN => oF J Ty.f42_0 J) J <| d_if0 J (fun hg => oS (ct hg) J J Ty.a40 J) J <| d_if7 J (fun hg _ hN => mI J) J <| bnE h fun v67 hv52 h => d_if0 J (fun hg => o_ixL (f := r06_Cell.Pv) (cs := r06_Cell.Pc v67) (onlyE hv52 hg) (ct hg) (ct hg) Ty.e40 Ty.s139 J J) J <| d_if7 J (fun hg _ hN => o_fieldAddrR (ct hg) Ty.f139_2 J) J <| d_if7 J (fun hg _ hN => o_fieldAddrR (ct hg) Ty.f63_0 J) J <| d_if0 J (fun hg => o_loadRS (ct hg) Ty.a3 J) J <| d_if7 J (fun hg _ hN => oF J Ty.f42_0 J) J <| d_if0 J (fun hg => oS (ct hg) J J Ty.a40 J) J <| d_if7 J (fun hg _ hN => mI J) J <| bnE h fun v68 hv53 h => d_if0 J (fun hg => o_ixL (f := r06_Cell.Pv) (cs := r06_Cell.Pc v68) (onlyE hv53 hg) (ct hg) (ct hg) Ty.e40 Ty.s139 J J) J <| d_if7 J (fun hg _ hN => o_fieldAddrR (ct hg) Ty.f139_2 J) J <| d_if7 J (fun hg _ hN => o_fieldAddrR (ct hg) Ty.f63_0 J) J <| d_if0 J (fun hg => o_loadRS (ct hg) Ty.a3 J) J <| d_if7 J (fun hg _ hN => o_cmp (ct hg) (ct hg) J) J <| d7 J (fun _ hN => pk_or J J J (fun q => eqF q)) J <| d_nil ?_
     refine pw_cond (((decide (v64.1 < 0)) || (decide (v66.1 < 0))) || (decide (v67.Val.Serial ≤ v68.Val.Serial))) J (fun hc => ?_) (fun hc => ?_)
     ·have h := ifT h hc
      refine pw_exit <| thenQ_exit <| blockQ_other (by decide) <| thenQ_exit <| thenQ_exit <| blockQ_exit ?_
      have he := hx46 _ (oj h).symm
      have h := hk45
      rw [← he] at h
      exact ⟨J, s59, h, (wk_st _ _ ⟨J, J, J, J, J, J, J, J, J, tr⟩ ⟨rS, rS, tr⟩)⟩
     ·have h := ifF h hc
      refine pw_skip <| sR <| yM (d := .sl 15) J J <| yI J J <| y0 J (o_ixR (f := iF) hv50 J J J J Ty.e27 Ty.s3 J) <| y0 J (o_ldS (f := iF) hv50 J J J Ty.a3 J) <| yi J J <| yN <| sR <| yM (d := .sl 15) J J <| yI J J <| yM (d := .sl 15) J J <| yI J J <| y0 J (o_ari J J J) <| y0 J (o_ixR (f := iF) hv48 J J J J Ty.e27 Ty.s3 J) <| y0 J (o_ldS (f := iF) hv48 J J J Ty.a3 J) <| y0 J (o_ixR (f := iF) hv50 J J J J Ty.e27 Ty.s3 J) <| y_stE (f := iF) (v := v63) hv50 J J (.inl J) Ty.s3 <| yN <| s1 <| yM (d := .sl 15) J J <| yI J J <| y0 J (o_ari J J J) <| yI J J <| bnE h fun v69 hv54 h => y0 J (o_ixR (f := iF) hv54 J J J J Ty.e27 Ty.s3 J) <| y_stE (f := iF) (v := v65) hv54 J J (.inl J) Ty.s3 <| yN <| s1 <| yI J J <| y0 J (o_ari J J J) <| yi J J <| yN ?_
      exact ⟨J, (w64 (s58 - 1), ((s59.set (s58).toNat v63).set (w64 (s58 - 1)).toNat v65)), (oj h).symm, (wk_st _ _ ⟨J, J, J, J, J, J, J, J, J, J, J, J, tr⟩ ⟨rS, rS, tr⟩)⟩
    ·have h := ifF h hc
     refine pw_exit <| thenQ_exit <| thenQ_exit <| blockQ_exit ?_
     have he := hx46 _ (oj h).symm
     have h := hk45
     rw [← he] at h
     exact ⟨J, s59, h, (wk_st _ _ ⟨J, J, J, J, J, J, J, J, J, tr⟩ ⟨rS, rS, tr⟩)⟩
  ·have h := ifF h hc
   refine pw_exit <| thenQ_exit <| thenQ_exit <| blockQ_exit ?_
   have he := hx31 _ (oj h).symm
   have h := hk30
   rw [← he] at h
   exact ⟨J, s39, h, (wk_st _ _ ⟨J, J, J, tr⟩ ⟨rS, tr⟩)⟩

theorem r06_Live_ok {a0 : r06_Store} {r : List Int} (h : r06_Live a0 = some r) : PCalls Tryz.prog 56 [r06_Store.Pv a0] (.L iF r) := by
 unfold r06_Live at h
 refine pc_intro (N := 34) Tryz.func56 J J nl fun w0 imm0 => sR <| y1 J (o_box (d := r06_Store.Pv a0) J J J J J) J <| yA (d := .lst true (List.map iF [])) J J <| yN <| sR <| y0 J (o_nslice J Ty.e27 Ty.s3) <| yA (d := .lst true (List.map iF [])) J J <| yN ?_
 obtain ⟨κ14, hκ11, h⟩ := jnE h
 refine pw_jn0 (κ := κ14) (r := r) (fun (j15 : List Int) => St.of [(1, .ptr 1 0 0), (3, .sl 910003)] [(910003, ⟨List.map iF j15, (List.map iF j15).length, true, 1, true⟩), (1, ⟨[r06_Store.Pv a0], 0, false, 3, true⟩)]) (fun j15 h => ?_) ?_
 ·subst hκ11
  refine sR <| yL J J J J Ty.a42 Ty.s42 nl J <| yM (d := .sl 910003) J J <| bnE h fun v16 hv12 h => ycL J (o_callF J Ty.k133 J (r06_Sorted_ok hv12)) J <| yA (d := .L iF v16) J J <| yN <| pw_ret ?_
  obtain rfl := oj h
  exact ⟨J, [_], ⟨J, tr⟩, J, io⟩
 ·skip
  refine sR <| yi J J <| yN <| pw_block ?_
  obtain ⟨e17, hl13, hk14⟩ := bindE h
  refine pw_lp0 (fun (q : Int × (List Int)) => St.of [(1, .ptr 1 0 0), (3, .sl 910003), (4, .I q.1)] [(1, ⟨[r06_Store.Pv a0], 0, false, 3, true⟩), (910003, ⟨List.map iF q.2, (List.map iF q.2).length, true, 1, true⟩)]) hl13 (Wk.trans (wk_nil (t := 3) (l := 920003) (z := 1) J J) (wk_stP (fun l => if l = 910003 then 920003 else l) _ _ ⟨J, J, J, J, J, J, J, J, J, tr⟩ ⟨rN, rN, tr⟩ J)) (fun q21 x20 h hx15 => ?_)
  obtain ⟨s18, s19⟩ := q21
  refine pw_seq <| sR <| yI J J <| yF J J Ty.f42_0 J <| yS J J J J Ty.a40 J <| y0 J (o_lnL (f := r06_Cell.Pv) J Ty.e40) <| y0 J (o_cmp J J J) <| yN ?_
  refine pw_cond (decide (s18 < (a0.Cells.length : Int))) J (fun hc => ?_) (fun hc => ?_)
  ·have h := ifT h hc
   refine pw_skip ?_
   obtain ⟨κ25, hκ19, h⟩ := jnE h
   refine pw_jn0 (κ := κ25) (r := x20) (fun (j26 : List Int) => St.of [(1, .ptr 1 0 0), (3, .sl 30), (4, .I s18)] [(30, ⟨List.map iF j26, (List.map iF j26).length, true, 1, true⟩), (1, ⟨[r06_Store.Pv a0], 0, false, 3, true⟩)]) (fun j26 h => ?_) ?_
   ·subst hκ19
    refine s1 <| yI J J <| y0 J (o_ari J J J) <| yi J J <| yN ?_
    exact ⟨J, (w64 (s18 + 1), j26), (oj h).symm, (Wk.trans (wk_frz _ [30]) (wk_stP (fun l => if l = 910003 then 30 else l) _ _ ⟨J, J, J, J, J, J, J, J, J, tr⟩ ⟨rN, rN, tr⟩ J))⟩
   ·skip
    refine pw_block <| sR <| yF J J Ty.f42_0 J <| yS J J J J Ty.a40 J <| yI J J <| bnE h fun v27 hv20 h => y0 J (o_ixL (f := r06_Cell.Pv) (cs := r06_Cell.Pc v27) hv20 J J Ty.e40 Ty.s139 J J) <| y0 J (o_fieldAddrR J Ty.f139_0 J) <| y0 J (o_loadRS J Ty.a3 J) <| y0 J (o_cmp J J J) <| yN ?_
    refine pw_cond (v27.State == 1) J (fun hc => ?_) (fun hc => ?_)
    ·have h := ifT h hc
     refine s1 <| yM (d := .sl 910003) J J <| yI J J <| yF J J Ty.f42_0 J <| yS J J J J Ty.a40 J <| yI J J <| y0 J (o_ixL (f := r06_Cell.Pv) (cs := r06_Cell.Pc v27) hv20 J J Ty.e40 Ty.s139 J J) <| y0 J (o_fieldAddrR J Ty.f139_1 J) <| y0 J (o_loadRS J Ty.a3 J) <| bnE h fun v28 hv21 h => y0 J (o_call J Ty.k132 J (r01_Pack_ok hv21)) <| y0 J (o_bI (f := iF) (l := [v28]) J Ty.e27 Ty.s3 Ty.z3 J J nl J J) <| bnE h fun v29 hv22 h => y_app J (o_apR (f := iF) hv22 J J J J J J (.inl ⟨_, J, J⟩) Ty.e27 Ty.s3 Ty.b3 Ty.z3 J (fun _ => J)) J J J <| yA (d := .sl 30) J J <| yN ?_
     exact ⟨J, v29, h, (Wk.trans (wk_frz _ [30]) (wk_st _ _ ⟨J, J, J, J, J, J, J, J, J, tr⟩ ⟨rS, rS, tr⟩))⟩
    ·have h := ifF h hc
     refine pw_skip ?_
     exact ⟨J, s19, h, (Wk.trans (wk_frz _ [910003]) (wk_stP (fun l => if l = 30 then 910003 else l) _ _ ⟨J, J, J, J, J, J, J, J, J, tr⟩ ⟨rN, rN, tr⟩ J))⟩
  ·have h := ifF h hc
   refine pw_exit <| thenQ_exit <| thenQ_exit <| blockQ_exit ?_
   have he := hx15 _ (oj h).symm
   have h := hk14
   rw [← he] at h
   exact ⟨J, s19, h, (Wk.trans (wk_frz _ [910003]) (wk_st _ _ ⟨J, J, J, J, J, J, tr⟩ ⟨rS, rS, tr⟩))⟩

theorem r10_Keys_ok {a0 : List r10_Place} {r : List Int} (h : r10_Keys a0 = some r) : PCalls Tryz.prog 232 [.L r10_Place.Pv a0] (.L iF r) := by
 unfold r10_Keys at h
 refine pc_intro (N := 27) Tryz.func232 J J nl fun w0 imm0 => sR <| yA (d := .lst true (List.map iF [])) J J <| yN <| sR <| y0 J (o_nslice J Ty.e27 Ty.s3) <| yA (d := .lst true (List.map iF [])) J J <| yN ?_
 obtain ⟨κ12, hκ9, h⟩ := jnE h
 refine pw_jn0 (κ := κ12) (r := r) (fun (j13 : List Int) => St.of [(3, .sl 910003)] [(910003, ⟨List.map iF j13, (List.map iF j13).length, true, 1, true⟩)]) (fun j13 h => ?_) ?_
 ·subst hκ9
  refine sR <| yM (d := .sl 910003) J J <| yA (d := .sl 910003) J J <| yN <| pw_ret ?_
  obtain rfl := oj h
  exact ⟨J, [_], ⟨J, tr⟩, J, io⟩
 ·skip
  refine sR <| yi J J <| yN <| pw_block ?_
  obtain ⟨e14, hl10, hk11⟩ := bindE h
  refine pw_lp0 (fun (q : Int × (List Int)) => St.of [(0, .L r10_Place.Pv a0), (3, .sl 910003), (4, .I q.1)] [(910003, ⟨List.map iF q.2, (List.map iF q.2).length, true, 1, true⟩)]) hl10 (Wk.trans (wk_nil (t := 3) (l := 920003) (z := 1) J J) (wk_stP (fun l => if l = 910003 then 920003 else l) _ _ ⟨J, J, J, J, J, J, J, J, J, tr⟩ ⟨rN, tr⟩ J)) (fun q18 x17 h hx12 => ?_)
  obtain ⟨s15, s16⟩ := q18
  refine pw_seq <| sR <| yI J J <| yM (d := .L r10_Place.Pv a0) J J <| y0 J (o_lnL (f := r10_Place.Pv) J Ty.e44) <| y0 J (o_cmp J J J) <| yN ?_
  refine pw_cond (decide (s15 < (a0.length : Int))) J (fun hc => ?_) (fun hc => ?_)
  ·have h := ifT h hc
   refine pw_skip ?_
   obtain ⟨κ21, hκ15, h⟩ := jnE h
   refine pw_jn0 (κ := κ21) (r := x17) (fun (j22 : List Int) => St.of [(0, .L r10_Place.Pv a0), (3, .sl 25), (4, .I s15)] [(25, ⟨List.map iF j22, (List.map iF j22).length, true, 1, true⟩)]) (fun j22 h => ?_) ?_
   ·subst hκ15
    refine s1 <| yI J J <| y0 J (o_ari J J J) <| yi J J <| yN ?_
    exact ⟨J, (w64 (s15 + 1), j22), (oj h).symm, (Wk.trans (wk_frz _ [25]) (wk_stP (fun l => if l = 910003 then 25 else l) _ _ ⟨J, J, J, J, J, J, J, J, J, tr⟩ ⟨rN, tr⟩ J))⟩
   ·skip
    refine pw_block <| sR <| yM (d := .L r10_Place.Pv a0) J J <| yI J J <| bnE h fun v23 hv16 h => y0 J (o_ixL (f := r10_Place.Pv) (cs := r10_Place.Pc v23) hv16 J J Ty.e44 Ty.s182 J J) <| y0 J (o_fieldAddrR J Ty.f182_0 J) <| y0 J (o_loadRS J Ty.a3 J) <| y0 J (o_cmp J J J) <| yN ?_
    refine pw_cond (v23.State == 1) J (fun hc => ?_) (fun hc => ?_)
    ·have h := ifT h hc
     refine s1 <| yM (d := .sl 910003) J J <| yM (d := .L r10_Place.Pv a0) J J <| yI J J <| y0 J (o_ixL (f := r10_Place.Pv) (cs := r10_Place.Pc v23) hv16 J J Ty.e44 Ty.s182 J J) <| y0 J (o_fieldAddrR J Ty.f182_1 J) <| y0 J (o_loadRS J Ty.a3 J) <| y0 J (o_bI (f := iF) (l := [v23.Key]) J Ty.e27 Ty.s3 Ty.z3 J J nl J J) <| bnE h fun v24 hv17 h => y_app J (o_apR (f := iF) hv17 J J J J J J (.inl ⟨_, J, J⟩) Ty.e27 Ty.s3 Ty.b3 Ty.z3 J (fun _ => J)) J J J <| yA (d := .sl 25) J J <| yN ?_
     exact ⟨J, v24, h, (Wk.trans (wk_frz _ [25]) (wk_st _ _ ⟨J, J, J, J, J, J, J, J, J, tr⟩ ⟨rS, tr⟩))⟩
    ·have h := ifF h hc
     refine pw_skip ?_
     exact ⟨J, s16, h, (Wk.trans (wk_frz _ [910003]) (wk_stP (fun l => if l = 25 then 910003 else l) _ _ ⟨J, J, J, J, J, J, J, J, J, tr⟩ ⟨rN, tr⟩ J))⟩
  ·have h := ifF h hc
   refine pw_exit <| thenQ_exit <| thenQ_exit <| blockQ_exit ?_
   have he := hx12 _ (oj h).symm
   have h := hk11
   rw [← he] at h
   exact ⟨J, s16, h, (Wk.trans (wk_frz _ [910003]) (wk_st _ _ ⟨J, J, J, tr⟩ ⟨rS, tr⟩))⟩

theorem r10_Get_ok {a0 : List r10_Place} {a1 : Int} {r : Int × Int} (h : r10_Get a0 a1 = some r) : PCalls Tryz.prog 172 [.L r10_Place.Pv a0, .I a1] (.tup [.I r.1, .I r.2]) := by
 unfold r10_Get at h
 refine pc_intro (N := 17) Tryz.func172 J J nl fun w0 imm0 => sR <| yi J J <| yi J J <| yN <| sR <| yM (d := .L r10_Place.Pv a0) J J <| yI J J <| bnE h fun v1 hv1 h => y0 J (o_call J Ty.k180 J (r10_Find_ok hv1)) <| yi J J <| yN <| pw_seq <| sR <| yI J J <| y0 J (o_cmp J J J) <| yN ?_
 refine pw_cond (decide (v1 < 0)) J (fun hc => ?_) (fun hc => ?_)
 ·have h := ifT h hc
  refine sR <| yi J J <| yi J J <| yN <| pw_ret ?_
  obtain rfl := oj h
  exact ⟨J, [_, _], ⟨J, ⟨J, tr⟩⟩, J, io⟩
 ·have h := ifF h hc
  refine pw_skip <| sR <| yM (d := .L r10_Place.Pv a0) J J <| yI J J <| bnE h fun v2 hv2 h => y0 J (o_ixL (f := r10_Place.Pv) (cs := r10_Place.Pc v2) hv2 J J Ty.e44 Ty.s182 J J) <| y0 J (o_fieldAddrR J Ty.f182_2 J) <| y0 J (o_loadRS J Ty.a3 J) <| yi J J <| yi J J <| yN <| pw_ret ?_
  obtain rfl := oj h
  exact ⟨J, [_, _], ⟨J, ⟨J, tr⟩⟩, J, io⟩

theorem r11_Pairs_ok {a0 : List r10_Place} {r : List r11_Pair} (h : r11_Pairs a0 = some r) : PCalls Tryz.prog 182 [.L r10_Place.Pv a0] (.L r11_Pair.Pv r) := by
 unfold r11_Pairs at h
 refine pc_intro (N := 36) Tryz.func182 J J nl fun w0 imm0 => sR <| yA (d := .lst true (List.map r11_Pair.Pv [])) J J <| yN <| sR <| y0 J (o_nslice J Ty.e212 Ty.s215) <| yA (d := .lst true (List.map r11_Pair.Pv [])) J J <| yN <| sR <| yM (d := .L r10_Place.Pv a0) J J <| bnE h fun v1 hv1 h => yc J (o_callF J Ty.k232 J (r10_Keys_ok hv1)) <| yA (d := .L iF v1) J J <| yN ?_
 obtain ⟨κ10, hκ8, h⟩ := jnE h
 refine pw_jn0 (κ := κ10) (r := r) (fun (j11 : List r11_Pair) => St.of [(3, .sl 910003)] [(910003, ⟨List.map r11_Pair.Pv j11, (List.map r11_Pair.Pv j11).length, true, 2, true⟩)]) (fun j11 h => ?_) ?_
 ·subst hκ8
  refine sR <| yM (d := .sl 910003) J J <| yA (d := .sl 910003) J J <| yN <| pw_ret ?_
  obtain rfl := oj h
  exact ⟨J, [_], ⟨J, tr⟩, J, io⟩
 ·skip
  refine sR <| yi J J <| yN <| pw_block ?_
  obtain ⟨e12, hl9, hk10⟩ := bindE h
  refine pw_lp0 (fun (q : Int × (List r11_Pair)) => St.of [(0, .L r10_Place.Pv a0), (3, .sl 910003), (4, .L iF v1), (5, .I q.1)] [(910003, ⟨List.map r11_Pair.Pv q.2, (List.map r11_Pair.Pv q.2).length, true, 2, true⟩)]) hl9 (Wk.trans (wk_nil (t := 3) (l := 920003) (z := 2) J J) (wk_stP (fun l => if l = 910003 then 920003 else l) _ _ ⟨J, J, J, J, J, J, J, J, J, J, J, J, tr⟩ ⟨rN, tr⟩ J)) (fun q16 x15 h hx11 => ?_)
  obtain ⟨s13, s14⟩ := q16
  refine pw_seq <| sR <| yI J J <| yM (d := .L iF v1) J J <| y0 J (o_lnL (f := iF) J Ty.e27) <| y0 J (o_cmp J J J) <| yN ?_
  refine pw_cond (decide (s13 < (v1.length : Int))) J (fun hc => ?_) (fun hc => ?_)
  ·have h := ifT h hc
   refine pw_skip <| pw_seq <| pw_block <| sR <| yM (d := .L r10_Place.Pv a0) J J <| yM (d := .L iF v1) J J <| yI J J <| bnE h fun v17 hv12 h => y0 J (o_ixL (f := iF) (cs := [.I v17]) hv12 J J Ty.e27 Ty.s3 J J) <| y0 J (o_loadRS J Ty.a3 J) <| bnE h fun v18 hv13 h => y0 J (o_call J Ty.k172 J (r10_Get_ok hv13)) <| yM (d := .tup [.I v18.1, .I v18.2]) J J <| yX J J J <| yX J J J <| yi J J <| yi J J <| yN <| s1 <| yM (d := .sl 910003) J J <| yM (d := .L iF v1) J J <| yI J J <| y0 J (o_ixL (f := iF) (cs := [.I v17]) hv12 J J Ty.e27 Ty.s3 J J) <| y0 J (o_loadRS J Ty.a3 J) <| yI J J <| y0 J (o_build (cs := [.I v17, .I v18.1]) J Ty.p215 Ty.z215 J J J) <| y0 J (o_bI (f := r11_Pair.Pv) (l := [(⟨v17, v18.1⟩ : r11_Pair)]) J Ty.e212 Ty.s215 Ty.z215 J J nl J J) <| bnE h fun v19 hv14 h => y_app J (o_apR (f := r11_Pair.Pv) hv14 J J J J J J (.inl ⟨_, J, J⟩) Ty.e212 Ty.s215 Ty.b215 Ty.z215 J (fun _ => J)) J J J <| yA (d := .sl 34) J J <| yN <| s1 <| yI J J <| y0 J (o_ari J J J) <| yi J J <| yN ?_
   exact ⟨J, (w64 (s13 + 1), v19), (oj h).symm, (Wk.trans (wk_frz _ [34]) (wk_stP (fun l => if l = 910003 then 34 else l) _ _ ⟨J, J, J, J, J, J, J, J, J, J, J, J, tr⟩ ⟨rN, tr⟩ J))⟩
  ·have h := ifF h hc
   refine pw_exit <| thenQ_exit <| thenQ_exit <| blockQ_exit ?_
   have he := hx11 _ (oj h).symm
   have h := hk10
   rw [← he] at h
   exact ⟨J, s14, h, (Wk.trans (wk_frz _ [910003]) (wk_st _ _ ⟨J, J, J, tr⟩ ⟨rS, tr⟩))⟩

theorem r15_names_ok {a0 : r15_Heap} {r : Bool} (h : r15_names a0 = some r) : PCalls Tryz.prog 102 [r15_Heap.Pv a0] (.bool r) := by
 unfold r15_names at h
 refine pc_intro (N := 87) Tryz.func102 J J nl fun w0 imm0 => sR <| y1 J (o_box (d := r15_Heap.Pv a0) J J J J J) J <| yb J J <| yN ?_
 obtain ⟨κ6, hκ6, h⟩ := jnE h
 refine pw_jn0 (κ := κ6) (r := r) (fun (_ : Unit) => St.of [(1, .ptr 1 0 0)] [(1, ⟨[r15_Heap.Pv a0], 0, false, 8, true⟩)]) (fun q7 h => ?_) ?_
 ·subst hκ6
  refine sR <| yF J J Ty.f49_0 J <| yL J J J J Ty.a42 Ty.s42 nl J <| bnE h fun v8 hv7 h => yc J (o_callF J Ty.k56 J (r06_Live_ok hv7)) <| yA (d := .L iF v8) J J <| yN ?_
  obtain ⟨κ28, hκ26, h⟩ := jnE h
  refine pw_jn0 (κ := κ28) (r := r) (fun (_ : Unit) => St.of [(1, .ptr 1 0 0)] [(1, ⟨[r15_Heap.Pv a0], 0, false, 8, true⟩)]) (fun q29 h => ?_) ?_
  ·subst hκ26
   refine sR <| yF J J Ty.f49_3 J <| yS J J J J Ty.a44 J <| bnE h fun v30 hv27 h => yc J (o_callF J Ty.k182 J (r11_Pairs_ok hv27)) <| yA (d := .L r11_Pair.Pv v30) J J <| yN ?_
   obtain ⟨κ37, hκ34, h⟩ := jnE h
   refine pw_jn0 (κ := κ37) (r := r) (fun (_ : Unit) => St.of [] []) (fun q38 h => ?_) ?_
   ·subst hκ34
    refine sR <| yb J J <| yN <| pw_ret ?_
    obtain rfl := oj h
    exact ⟨J, [_], ⟨J, tr⟩, J, io⟩
   ·skip
    refine sR <| yi J J <| yN <| pw_block ?_
    obtain ⟨e39, hl35, hk36⟩ := bindE h
    refine pw_lp0 (fun (s40 : Int) => St.of [(1, .ptr 1 0 0), (9, .L r11_Pair.Pv v30), (10, .I s40)] [(1, ⟨[r15_Heap.Pv a0], 0, false, 8, true⟩)]) hl35 (wk_st _ _ ⟨J, J, J, J, J, J, J, J, J, tr⟩ ⟨rS, tr⟩) (fun s40 x41 h hx37 => ?_)
    refine pw_seq <| sR <| yI J J <| yM (d := .L r11_Pair.Pv v30) J J <| y0 J (o_lnL (f := r11_Pair.Pv) J Ty.e212) <| y0 J (o_cmp J J J) <| yN ?_
    refine pw_cond (decide (s40 < (v30.length : Int))) J (fun hc => ?_) (fun hc => ?_)
    ·have h := ifT h hc
     refine pw_skip <| pw_seq <| pw_block <| dr [] Ty.mix (by kernel_rfl) (by kernel_rfl) <| d0 J (oL J J J Ty.a49 Ty.s49 nl J) J <| d7 J (fun _ hN => om (d := .L r11_Pair.Pv v30) J) J <| d7 J (fun _ hN => mI J) J <| bnE h fun v42 hv38 h => d0 J (o_ixL (f := r11_Pair.Pv) (cs := r11_Pair.Pc v42) hv38 J J Ty.e212 Ty.s215 J J) J <| d7 J (fun _ hN => o_fieldAddrR J Ty.f215_0 J) J <| d0 J (o_loadRS J Ty.a3 J) J <| bnE h fun v43 hv39 h => d2 J (o_call J Ty.k90 J (r15_Lives_ok hv39)) J <| d7 J (fun _ hN => o_not J J) J <| d7 J (fun _ hN => mB J) J <| d_if0 J (fun hg => oL J J J Ty.a49 Ty.s49 nl J) J <| d_if7 J (fun hg _ hN => om (d := .L r11_Pair.Pv v30) J) J <| d_if7 J (fun hg _ hN => mI J) J <| d_if0 J (fun hg => o_ixL (f := r11_Pair.Pv) (cs := r11_Pair.Pc v42) hv38 (ct hg) (ct hg) Ty.e212 Ty.s215 J J) J <| d_if7 J (fun hg _ hN => o_fieldAddrR (ct hg) Ty.f215_1 J) J <| d_if0 J (fun hg => o_loadRS (ct hg) Ty.a3 J) J <| bnE h fun v44 hv40 h => d_if2 J (fun hg => o_call J Ty.k90 (consE (ct hg) (consE (ct hg) J)) (r15_Lives_ok (onlyE hv40 hg))) J <| d_if7 J (fun hg _ hN => o_not (ct hg) J) J <| d7 J (fun _ hN => pk_or J J J (fun q => eqF q)) J <| d_nil ?_
     refine pw_cond ((!v43) || (!v44)) J (fun hc => ?_) (fun hc => ?_)
     ·have h := ifT h hc
      refine sR <| yb J J <| yN <| pw_ret ?_
      have he := hx37 _ (oj h).symm
      have h := hk36
      rw [← he] at h
      obtain rfl := oj h
      exact ⟨J, [_], ⟨J, tr⟩, J, io⟩
     ·have h := ifF h hc
      refine pw_skip <| s1 <| yI J J <| y0 J (o_ari J J J) <| yi J J <| yN ?_
      exact ⟨J, w64 (s40 + 1), (oj h).symm, (wk_st _ _ ⟨J, J, J, J, J, J, J, J, J, tr⟩ ⟨rS, tr⟩)⟩
    ·have h := ifF h hc
     refine pw_exit <| thenQ_exit <| thenQ_exit <| blockQ_exit ?_
     have he := hx37 _ (oj h).symm
     have h := hk36
     rw [← he] at h
     exact ⟨J, (), h, (wk_st _ _ tr tr)⟩
  ·skip
   refine sR <| yi J J <| yN <| pw_block ?_
   obtain ⟨e45, hl41, hk42⟩ := bindE h
   refine pw_lp0 (fun (s46 : Int) => St.of [(1, .ptr 1 0 0), (4, .L iF v8), (5, .I s46)] [(1, ⟨[r15_Heap.Pv a0], 0, false, 8, true⟩)]) hl41 (wk_st _ _ ⟨J, J, J, J, J, J, J, J, J, tr⟩ ⟨rS, tr⟩) (fun s46 x47 h hx43 => ?_)
   refine pw_seq <| sR <| yI J J <| yM (d := .L iF v8) J J <| y0 J (o_lnL (f := iF) J Ty.e27) <| y0 J (o_cmp J J J) <| yN ?_
   refine pw_cond (decide (s46 < (v8.length : Int))) J (fun hc => ?_) (fun hc => ?_)
   ·have h := ifT h hc
    refine pw_skip ?_
    obtain ⟨κ55, hκ51, h⟩ := jnE h
    refine pw_jn0 (κ := κ55) (r := x47) (fun (_ : Unit) => St.of [(1, .ptr 1 0 0), (4, .L iF v8), (5, .I s46)] [(1, ⟨[r15_Heap.Pv a0], 0, false, 8, true⟩)]) (fun q56 h => ?_) ?_
    ·subst hκ51
     refine s1 <| yI J J <| y0 J (o_ari J J J) <| yi J J <| yN ?_
     exact ⟨J, w64 (s46 + 1), (oj h).symm, (wk_st _ _ ⟨J, J, J, J, J, J, J, J, J, tr⟩ ⟨rS, tr⟩)⟩
    ·skip
     refine pw_block <| dr [] Ty.mix (by kernel_rfl) (by kernel_rfl) <| d7 J (fun _ hN => oF J Ty.f49_0 J) J <| d0 J (oL J J J Ty.a42 Ty.s42 nl J) J <| d7 J (fun _ hN => om (d := .L iF v8) J) J <| d7 J (fun _ hN => mI J) J <| bnE h fun v57 hv52 h => d0 J (o_ixL (f := iF) (cs := [.I v57]) hv52 J J Ty.e27 Ty.s3 J J) J <| d0 J (o_loadRS J Ty.a3 J) J <| bnE h fun v58 hv53 h => d2f J (o_callF J Ty.k33 J (r06_Get_ok hv53)) J <| d7 J (fun _ hN => om (d := .tup [r06_Obj.Pv v58.1, .I v58.2]) J) J <| d7 J (fun _ hN => oX J J) J <| d7 J (fun _ hN => oX J J) J <| d1 J (o_alloc J Ty.z63 J J J) J J J <| d_sto (x' := r06_Obj.Pv v58.1) (cl' := true) J J (.inr J) Ty.s63 <| d7 J (fun _ hN => aI J) J <| d_nil <| sR <| yi J J <| yN <| pw_block ?_
     obtain ⟨e59, hl54, hk55⟩ := bindE h
     refine pw_lp0 (fun (s60 : Int) => St.of [(1, .ptr 1 0 0), (4, .L iF v8), (5, .I s46), (6, .ptr 6 0 0), (8, .I s60)] [(6, ⟨[r06_Obj.Pv v58.1], 0, false, 6, true⟩), (1, ⟨[r15_Heap.Pv a0], 0, false, 8, true⟩)]) hl54 (wk_st _ _ ⟨J, J, J, J, J, J, J, J, J, J, J, J, J, J, J, tr⟩ ⟨rS, rS, tr⟩) (fun s60 x61 h hx56 => ?_)
     refine pw_seq <| sR <| yI J J <| yF J J Ty.f63_5 J <| yS J J J J Ty.a27 J <| y0 J (o_lnL (f := iF) J Ty.e27) <| y0 J (o_cmp J J J) <| yN ?_
     refine pw_cond (decide (s60 < (v58.1.Fields.length : Int))) J (fun hc => ?_) (fun hc => ?_)
     ·have h := ifT h hc
      refine pw_skip <| pw_seq <| pw_block <| dr [] Ty.mix (by kernel_rfl) (by kernel_rfl) <| d0 J (oL J J J Ty.a49 Ty.s49 nl J) J <| d7 J (fun _ hN => oF J Ty.f63_5 J) J <| d0 J (oS J J J Ty.a27 J) J <| d7 J (fun _ hN => mI J) J <| bnE h fun v62 hv57 h => d0 J (o_ixL (f := iF) (cs := [.I v62]) hv57 J J Ty.e27 Ty.s3 J J) J <| d0 J (o_loadRS J Ty.a3 J) J <| bnE h fun v63 hv58 h => d2 J (o_call J Ty.k67 J (r15_maybe_ok hv58)) J <| d7 J (fun _ hN => o_not J J) J <| d_nil ?_
      refine pw_cond (!v63) J (fun hc => ?_) (fun hc => ?_)
      ·have h := ifT h hc
       refine sR <| yb J J <| yN <| pw_ret ?_
       have he := hx56 _ (oj h).symm
       have h := hk55
       rw [← he] at h
       have he := hx43 _ (oj h).symm
       have h := hk42
       rw [← he] at h
       obtain rfl := oj h
       exact ⟨J, [_], ⟨J, tr⟩, J, io⟩
      ·have h := ifF h hc
       refine pw_skip <| s1 <| yI J J <| y0 J (o_ari J J J) <| yi J J <| yN ?_
       exact ⟨J, w64 (s60 + 1), (oj h).symm, (wk_st _ _ ⟨J, J, J, J, J, J, J, J, J, J, J, J, J, J, J, tr⟩ ⟨rS, rS, tr⟩)⟩
     ·have h := ifF h hc
      refine pw_exit <| thenQ_exit <| thenQ_exit <| blockQ_exit ?_
      have he := hx56 _ (oj h).symm
      have h := hk55
      rw [← he] at h
      exact ⟨J, (), h, (wk_st _ _ ⟨J, J, J, J, J, J, J, J, J, tr⟩ ⟨rS, tr⟩)⟩
   ·have h := ifF h hc
    refine pw_exit <| thenQ_exit <| thenQ_exit <| blockQ_exit ?_
    have he := hx43 _ (oj h).symm
    have h := hk42
    rw [← he] at h
    exact ⟨J, (), h, (wk_st _ _ ⟨J, J, J, tr⟩ ⟨rS, tr⟩)⟩
 ·skip
  refine sR <| yi J J <| yN <| pw_block ?_
  obtain ⟨e64, hl59, hk60⟩ := bindE h
  refine pw_lp0 (fun (s65 : Int) => St.of [(1, .ptr 1 0 0), (3, .I s65)] [(1, ⟨[r15_Heap.Pv a0], 0, false, 8, true⟩)]) hl59 (wk_st _ _ ⟨J, J, J, J, J, J, tr⟩ ⟨rS, tr⟩) (fun s65 x66 h hx61 => ?_)
  refine pw_seq <| sR <| yI J J <| yF J J Ty.f49_1 J <| yS J J J J Ty.a27 J <| y0 J (o_lnL (f := iF) J Ty.e27) <| y0 J (o_cmp J J J) <| yN ?_
  refine pw_cond (decide (s65 < (a0.Roots.length : Int))) J (fun hc => ?_) (fun hc => ?_)
  ·have h := ifT h hc
   refine pw_skip <| pw_seq <| pw_block <| dr [] Ty.mix (by kernel_rfl) (by kernel_rfl) <| d0 J (oL J J J Ty.a49 Ty.s49 nl J) J <| d7 J (fun _ hN => oF J Ty.f49_1 J) J <| d0 J (oS J J J Ty.a27 J) J <| d7 J (fun _ hN => mI J) J <| bnE h fun v67 hv62 h => d0 J (o_ixL (f := iF) (cs := [.I v67]) hv62 J J Ty.e27 Ty.s3 J J) J <| d0 J (o_loadRS J Ty.a3 J) J <| bnE h fun v68 hv63 h => d2 J (o_call J Ty.k67 J (r15_maybe_ok hv63)) J <| d7 J (fun _ hN => o_not J J) J <| d_nil ?_
   refine pw_cond (!v68) J (fun hc => ?_) (fun hc => ?_)
   ·have h := ifT h hc
    refine sR <| yb J J <| yN <| pw_ret ?_
    have he := hx61 _ (oj h).symm
    have h := hk60
    rw [← he] at h
    obtain rfl := oj h
    exact ⟨J, [_], ⟨J, tr⟩, J, io⟩
   ·have h := ifF h hc
    refine pw_skip <| s1 <| yI J J <| y0 J (o_ari J J J) <| yi J J <| yN ?_
    exact ⟨J, w64 (s65 + 1), (oj h).symm, (wk_st _ _ ⟨J, J, J, J, J, J, tr⟩ ⟨rS, tr⟩)⟩
  ·have h := ifF h hc
   refine pw_exit <| thenQ_exit <| thenQ_exit <| blockQ_exit ?_
   have he := hx61 _ (oj h).symm
   have h := hk60
   rw [← he] at h
   exact ⟨J, (), h, (wk_st _ _ ⟨J, J, J, tr⟩ ⟨rS, tr⟩)⟩

theorem r14_Waits_ok {a0 : r14_Queue} {a1 : Int} {r : Bool} (h : r14_Waits a0 a1 = some r) : PCalls Tryz.prog 84 [r14_Queue.Pv a0, .I a1] (.bool r) := by
 unfold r14_Waits at h
 refine pc_intro (N := 30) Tryz.func84 J J nl fun w0 imm0 => sR <| y1 J (o_box (d := r14_Queue.Pv a0) J J J J J) J <| yb J J <| yN ?_
 obtain ⟨κ5, hκ5, h⟩ := jnE h
 refine pw_jn0 (κ := κ5) (r := r) (fun (_ : Unit) => St.of [] []) (fun q6 h => ?_) ?_
 ·subst hκ5
  refine sR <| yb J J <| yN <| pw_ret ?_
  obtain rfl := oj h
  exact ⟨J, [_], ⟨J, tr⟩, J, io⟩
 ·skip
  refine sR <| yi J J <| yN <| pw_block ?_
  obtain ⟨e7, hl6, hk7⟩ := bindE h
  refine pw_lp0 (fun (s8 : Int) => St.of [(1, .I a1), (2, .ptr 2 0 0), (5, .I s8)] [(2, ⟨[r14_Queue.Pv a0], 0, false, 2, true⟩)]) hl6 (wk_st _ _ ⟨J, J, J, J, J, J, J, J, J, tr⟩ ⟨rS, tr⟩) (fun s8 x9 h hx8 => ?_)
  refine pw_seq <| sR <| yI J J <| yF J J Ty.f47_0 J <| yS J J J J Ty.a45 J <| y0 J (o_lnL (f := r14_Task.Pv) J Ty.e45) <| y0 J (o_cmp J J J) <| yN ?_
  refine pw_cond (decide (s8 < (a0.L.length : Int))) J (fun hc => ?_) (fun hc => ?_)
  ·have h := ifT h hc
   refine pw_skip <| pw_seq <| pw_block <| sR <| yF J J Ty.f47_0 J <| yS J J J J Ty.a45 J <| yI J J <| bnE h fun v10 hv9 h => y0 J (o_ixL (f := r14_Task.Pv) (cs := r14_Task.Pc v10) hv9 J J Ty.e45 Ty.s151 J J) <| y0 J (o_fieldAddrR J Ty.f151_0 J) <| y0 J (o_loadRS J Ty.a3 J) <| y0 J (o_cmp J J J) <| yB J J <| y_if J (fun hg => oF J Ty.f47_0 J) <| y_if J (fun hg => oS (ct hg) J J Ty.a45 J) <| y_if J (fun hg => mI J) <| y_if J (fun hg => o_ixL (f := r14_Task.Pv) (cs := r14_Task.Pc v10) hv9 (ct hg) (ct hg) Ty.e45 Ty.s151 J J) <| y_if J (fun hg => o_fieldAddrR (ct hg) Ty.f151_1 J) <| y_if J (fun hg => o_loadRS (ct hg) Ty.a3 J) <| y_if J (fun hg => mI J) <| y_if J (fun hg => o_cmp (ct hg) (ct hg) J) <| y0 J (pk_and J J J (fun q => eqT q)) <| yN ?_
   refine pw_cond ((v10.Kind == 2) && (v10.At == a1)) J (fun hc => ?_) (fun hc => ?_)
   ·have h := ifT h hc
    refine sR <| yb J J <| yN <| pw_ret ?_
    have he := hx8 _ (oj h).symm
    have h := hk7
    rw [← he] at h
    obtain rfl := oj h
    exact ⟨J, [_], ⟨J, tr⟩, J, io⟩
   ·have h := ifF h hc
    refine pw_skip <| s1 <| yI J J <| y0 J (o_ari J J J) <| yi J J <| yN ?_
    exact ⟨J, w64 (s8 + 1), (oj h).symm, (wk_st _ _ ⟨J, J, J, J, J, J, J, J, J, tr⟩ ⟨rS, tr⟩)⟩
  ·have h := ifF h hc
   refine pw_exit <| thenQ_exit <| thenQ_exit <| blockQ_exit ?_
   have he := hx8 _ (oj h).symm
   have h := hk7
   rw [← he] at h
   exact ⟨J, (), h, (wk_st _ _ tr tr)⟩

theorem r15_cells_ok {a0 : r15_Heap} {r : Bool} (h : r15_cells a0 = some r) : PCalls Tryz.prog 103 [r15_Heap.Pv a0] (.bool r) := by
 unfold r15_cells at h
 refine pc_intro (N := 71) Tryz.func103 J J nl fun w0 imm0 => sR <| y1 J (o_box (d := r15_Heap.Pv a0) J J J J J) J <| yb J J <| yN ?_
 obtain ⟨κ9, hκ9, h⟩ := jnE h
 refine pw_jn0 (κ := κ9) (r := r) (fun (_ : Unit) => St.of [] []) (fun q10 h => ?_) ?_
 ·subst hκ9
  refine sR <| yb J J <| yN <| pw_ret ?_
  obtain rfl := oj h
  exact ⟨J, [_], ⟨J, tr⟩, J, io⟩
 ·skip
  refine sR <| yi J J <| yN <| pw_block ?_
  obtain ⟨e11, hl10, hk11⟩ := bindE h
  refine pw_lp0 (fun (s12 : Int) => St.of [(1, .ptr 1 0 0), (3, .I s12)] [(1, ⟨[r15_Heap.Pv a0], 0, false, 8, true⟩)]) hl10 (wk_st _ _ ⟨J, J, J, J, J, J, tr⟩ ⟨rS, tr⟩) (fun s12 x13 h hx12 => ?_)
  refine pw_seq <| sR <| yI J J <| yF J J Ty.f49_2 J <| yS J J J J Ty.a43 J <| y0 J (o_lnL (f := r09_Cell.Pv) J Ty.e43) <| y0 J (o_cmp J J J) <| yN ?_
  refine pw_cond (decide (s12 < (a0.Cells.length : Int))) J (fun hc => ?_) (fun hc => ?_)
  ·have h := ifT h hc
   refine pw_skip <| pw_seq <| pw_block <| sR <| yF J J Ty.f49_2 J <| yS J J J J Ty.a43 J <| yI J J <| bnE h fun v14 hv13 h => y0 J (o_ixL (f := r09_Cell.Pv) (cs := r09_Cell.Pc v14) hv13 J J Ty.e43 Ty.s160 J J) <| y0 J (o_loadRA J Ty.a160 Ty.s160 nl J) <| y1 J (o_alloc J Ty.z160 J J J) J <| y_sto (x' := r09_Cell.Pv v14) (cl' := true) J J (.inl J) Ty.s160 <| yN <| dr [] Ty.mix (by kernel_rfl) (by kernel_rfl) <| d7 J (fun _ hN => oF J Ty.f49_0 J) J <| d0 J (oL J J J Ty.a42 Ty.s42 nl J) J <| bnE h fun v15 hv14 h => d2f J (o_callF J Ty.k107 J (r06_Plain_ok hv14)) J <| d7 J (fun _ hN => oF J Ty.f160_0 J) J <| d0 J (oS J J J Ty.a3 J) J <| bnE h fun v16 hv15 h => d2 J (o_call J Ty.k166 J (r03_Find_ok hv15)) J <| d7 J (fun _ hN => om (d := .tup [.I v16.1, .I v16.2]) J) J <| d7 J (fun _ hN => oX J J) J <| d7 J (fun _ hN => oX J J) J <| d7 J (fun _ hN => aI J) J <| d7 J (fun _ hN => aI J) J <| d_nil <| sR <| yF J J Ty.f160_2 J <| yS J J J J Ty.a3 J <| y0 J (o_cmp J J J) <| yB J J <| y_if J (fun hg => oF J Ty.f160_2 J) <| y_if J (fun hg => oS (ct hg) J J Ty.a3 J) <| y_if J (fun hg => o_cmp (ct hg) J J) <| y0 J (pk_or J J J (fun q => eqF q)) <| yB J J <| y_if J (fun hg => oF J Ty.f160_0 J) <| y_if J (fun hg => oS (ct hg) J J Ty.a3 J) <| y_if J (fun hg => o_cmp (ct hg) J J) <| y_if J (fun hg => om (d := .bool (v14.Target == 0)) (ct hg)) <| y_if (want2 J J J) (fun hg => oF J Ty.f160_1 J) <| y_if (want2 J J J) (fun hg => oS (ct hg) J J Ty.a4 J) <| y_if J (fun hg => pk_and (ct hg) J J (fun q => andI hg (eqT q))) <| y0 J (pk_or J J J (fun q => eqF q)) <| yB J J <| y_if J (fun hg => oF J Ty.f160_0 J) <| y_if J (fun hg => oS (ct hg) J J Ty.a3 J) <| y_if J (fun hg => o_cmp (ct hg) J J) <| y_if J (fun hg => om (d := .bool (v14.Target != 0)) (ct hg)) ?_
   refine y_if (want2 J J J) (fun hg => mI J) <| y_if (want2 J J J) (fun hg => o_cmp (ct hg) J J) <| y_if J (fun hg => pk_and (ct hg) J J (fun q => andI hg (eqT q))) <| y0 J (pk_or J J J (fun q => eqF q)) <| yB J J <| y_if J (fun hg => oF J Ty.f160_1 J) <| y_if J (fun hg => oS (ct hg) J J Ty.a4 J) <| y_if J (fun hg => om (d := .bool v14.Intact) (ct hg)) <| y_if (want2 J J J) (fun hg => oL J J J Ty.a49 Ty.s49 nl J) <| y_if (want2 J J J) (fun hg => oF J Ty.f160_0 J) <| y_if (want2 J J J) (fun hg => oS (ct hg) J J Ty.a3 J) <| bnE h fun v17 hv16 h => y_if (want2 J J J) (fun hg => o_call J Ty.k90 (consE (ct hg) (consE (ct hg) J)) (r15_Lives_ok (onlyE hv16 hg))) <| y_if (want2 J J J) (fun hg => o_not (ct hg) J) <| y_if (want2 J J J) (fun hg => om (d := .bool (!v17)) (ct hg)) <| y_if (want2 J J J) (fun hg => oF J Ty.f49_4 J) <| y_if (want2 J J J) (fun hg => oL (ct hg) J J Ty.a47 Ty.s47 nl J) <| y_if (want2 J J J) (fun hg => mI J) <| bnE h fun v18 hv17 h => y_if (want2 J J J) (fun hg => o_call J Ty.k84 (consE (ct hg) (consE (ct hg) J)) (r14_Waits_ok (onlyE hv17 hg))) <| y_if (want2 J J J) (fun hg => pk_or (ct hg) J J (fun q => andI hg (eqF q))) <| y_if J (fun hg => pk_and (ct hg) J J (fun q => andI hg (eqT q))) <| y0 J (pk_or J J J (fun q => eqF q)) <| yN ?_
   refine pw_cond (((((decide (v14.Call < (-1))) || (decide (v14.Call > 5))) || ((v14.Target == 0) && v14.Intact)) || ((v14.Target != 0) && (v16.2 != 0))) || (v14.Intact && ((!v17) || v18))) J (fun hc => ?_) (fun hc => ?_)
   ·have h := ifT h hc
    refine sR <| yb J J <| yN <| pw_ret ?_
    have he := hx12 _ (oj h).symm
    have h := hk11
    rw [← he] at h
    obtain rfl := oj h
    exact ⟨J, [_], ⟨J, tr⟩, J, io⟩
   ·have h := ifF h hc
    refine pw_skip <| s1 <| yI J J <| y0 J (o_ari J J J) <| yi J J <| yN ?_
    exact ⟨J, w64 (s12 + 1), (oj h).symm, (wk_st _ _ ⟨J, J, J, J, J, J, tr⟩ ⟨rS, tr⟩)⟩
  ·have h := ifF h hc
   refine pw_exit <| thenQ_exit <| thenQ_exit <| blockQ_exit ?_
   have he := hx12 _ (oj h).symm
   have h := hk11
   rw [← he] at h
   exact ⟨J, (), h, (wk_st _ _ tr tr)⟩

theorem r03_Handle_ok {a0 : Int} {a1 : Int} {r : Int} (h : r03_Handle a0 a1 = some r) : PCalls Tryz.prog 183 [.I a0, .I a1] (.I r) := by
 unfold r03_Handle at h
 refine pc_intro (N := 8) Tryz.func183 J J nl fun w0 imm0 => sR <| yi J J <| yN <| sR <| yI J J <| yI J J <| bnE h fun v1 hv1 h => y0 J (o_call J Ty.k132 J (r01_Pack_ok hv1)) <| yi J J <| yN <| pw_ret ?_
 obtain rfl := oj h
 exact ⟨J, [_], ⟨J, tr⟩, J, io⟩

theorem r09_Naming_ok {a0 : List r09_Cell} {a1 : Int} {r : Int} (h : r09_Naming a0 a1 = some r) : PCalls Tryz.prog 184 [.L r09_Cell.Pv a0, .I a1] (.I r) := by
 unfold r09_Naming at h
 refine pc_intro (N := 27) Tryz.func184 J J nl fun w0 imm0 => sR <| yi J J <| yN <| sR <| yi J J <| yN ?_
 obtain ⟨κ10, hκ7, h⟩ := jnE h
 refine pw_jn0 (κ := κ10) (r := r) (fun (j11 : Int) => St.of [(5, .I j11)] []) (fun j11 h => ?_) ?_
 ·subst hκ7
  refine sR <| yI J J <| yi J J <| yN <| pw_ret ?_
  obtain rfl := oj h
  exact ⟨J, [_], ⟨J, tr⟩, J, io⟩
 ·skip
  refine sR <| yi J J <| yN <| pw_block ?_
  obtain ⟨e12, hl8, hk9⟩ := bindE h
  refine pw_lp0 (fun (q : Int × Int) => St.of [(0, .L r09_Cell.Pv a0), (1, .I a1), (5, .I q.1), (6, .I q.2)] []) hl8 (wk_st _ _ ⟨J, J, J, J, J, J, J, J, J, J, J, J, tr⟩ tr) (fun q16 x15 h hx10 => ?_)
  obtain ⟨s13, s14⟩ := q16
  refine pw_seq <| sR <| yI J J <| yM (d := .L r09_Cell.Pv a0) J J <| y0 J (o_lnL (f := r09_Cell.Pv) J Ty.e43) <| y0 J (o_cmp J J J) <| yN ?_
  refine pw_cond (decide (s14 < (a0.length : Int))) J (fun hc => ?_) (fun hc => ?_)
  ·have h := ifT h hc
   refine pw_skip ?_
   obtain ⟨κ18, hκ12, h⟩ := jnE h
   refine pw_jn0 (κ := κ18) (r := x15) (fun (j19 : Int) => St.of [(0, .L r09_Cell.Pv a0), (1, .I a1), (5, .I j19), (6, .I s14)] []) (fun j19 h => ?_) ?_
   ·subst hκ12
    refine s1 <| yI J J <| y0 J (o_ari J J J) <| yi J J <| yN ?_
    exact ⟨J, (j19, w64 (s14 + 1)), (oj h).symm, (wk_st _ _ ⟨J, J, J, J, J, J, J, J, J, J, J, J, tr⟩ tr)⟩
   ·skip
    refine pw_block <| sR <| yM (d := .L r09_Cell.Pv a0) J J <| yI J J <| bnE h fun v20 hv13 h => y0 J (o_ixL (f := r09_Cell.Pv) (cs := r09_Cell.Pc v20) hv13 J J Ty.e43 Ty.s160 J J) <| y0 J (o_fieldAddrR J Ty.f160_0 J) <| y0 J (o_loadRS J Ty.a3 J) <| yI J J <| y0 J (o_cmp J J J) <| yB J J <| y_if J (fun hg => mI J) <| y_if J (fun hg => o_cmp (ct hg) J J) <| y0 J (pk_and J J J (fun q => eqT q)) <| yN ?_
    refine pw_cond ((v20.Target == a1) && (a1 != 0)) J (fun hc => ?_) (fun hc => ?_)
    ·have h := ifT h hc
     refine s1 <| yI J J <| y0 J (o_ari J J J) <| yi J J <| yN ?_
     exact ⟨J, w64 (s13 + 1), h, (wk_st _ _ ⟨J, J, J, J, J, J, J, J, J, J, J, J, tr⟩ tr)⟩
    ·have h := ifF h hc
     refine pw_skip ?_
     exact ⟨J, s13, h, (wk_st _ _ ⟨J, J, J, J, J, J, J, J, J, J, J, J, tr⟩ tr)⟩
  ·have h := ifF h hc
   refine pw_exit <| thenQ_exit <| thenQ_exit <| blockQ_exit ?_
   have he := hx10 _ (oj h).symm
   have h := hk9
   rw [← he] at h
   exact ⟨J, s13, h, (wk_st _ _ ⟨J, J, J, tr⟩ tr)⟩

theorem r15_weaks_ok {a0 : r15_Heap} {r : Bool} (h : r15_weaks a0 = some r) : PCalls Tryz.prog 104 [r15_Heap.Pv a0] (.bool r) := by
 unfold r15_weaks at h
 refine pc_intro (N := 64) Tryz.func104 J J nl fun w0 imm0 => sR <| y1 J (o_box (d := r15_Heap.Pv a0) J J J J J) J <| yb J J <| yN ?_
 obtain ⟨κ12, hκ11, h⟩ := jnE h
 refine pw_jn0 (κ := κ12) (r := r) (fun (_ : Unit) => St.of [] []) (fun q13 h => ?_) ?_
 ·subst hκ11
  refine sR <| yb J J <| yN <| pw_ret ?_
  obtain rfl := oj h
  exact ⟨J, [_], ⟨J, tr⟩, J, io⟩
 ·skip
  refine sR <| yi J J <| yN <| pw_block ?_
  obtain ⟨e14, hl12, hk13⟩ := bindE h
  refine pw_lp0 (fun (s15 : Int) => St.of [(1, .ptr 1 0 0), (3, .I s15)] [(1, ⟨[r15_Heap.Pv a0], 0, false, 8, true⟩)]) hl12 (wk_st _ _ ⟨J, J, J, J, J, J, tr⟩ ⟨rS, tr⟩) (fun s15 x16 h hx14 => ?_)
  refine pw_seq <| sR <| yI J J <| yF J J Ty.f49_0 J <| yF J J Ty.f42_0 J <| yS J J J J Ty.a40 J <| y0 J (o_lnL (f := r06_Cell.Pv) J Ty.e40) <| y0 J (o_cmp J J J) <| yN ?_
  refine pw_cond (decide (s15 < (a0.S.Cells.length : Int))) J (fun hc => ?_) (fun hc => ?_)
  ·have h := ifT h hc
   refine pw_skip ?_
   obtain ⟨κ20, hκ18, h⟩ := jnE h
   refine pw_jn0 (κ := κ20) (r := x16) (fun (_ : Unit) => St.of [(1, .ptr 1 0 0), (3, .I s15)] [(1, ⟨[r15_Heap.Pv a0], 0, false, 8, true⟩)]) (fun q21 h => ?_) ?_
   ·subst hκ18
    refine s1 <| yI J J <| y0 J (o_ari J J J) <| yi J J <| yN ?_
    exact ⟨J, w64 (s15 + 1), (oj h).symm, (wk_st _ _ ⟨J, J, J, J, J, J, tr⟩ ⟨rS, tr⟩)⟩
   ·skip
    refine pw_block <| sR <| yF J J Ty.f49_0 J <| yF J J Ty.f42_0 J <| yS J J J J Ty.a40 J <| yI J J <| bnE h fun v22 hv19 h => y0 J (o_ixL (f := r06_Cell.Pv) (cs := r06_Cell.Pc v22) hv19 J J Ty.e40 Ty.s139 J J) <| y0 J (o_loadRA J Ty.a139 Ty.s139 nl J) <| y1 J (o_alloc J Ty.z139 J J J) J <| y_sto (x' := r06_Cell.Pv v22) (cl' := true) J J (.inr J) Ty.s139 <| yN <| pw_seq <| sR <| yF J J Ty.f139_0 J <| yS J J J J Ty.a3 J <| y0 J (o_cmp J J J) <| yB J J <| y_if J (fun hg => oF J Ty.f139_0 J) <| y_if J (fun hg => oS (ct hg) J J Ty.a3 J) <| y_if J (fun hg => o_cmp (ct hg) J J) <| y0 J (pk_and J J J (fun q => eqT q)) <| yN ?_
    refine pw_cond ((v22.State != 1) && (v22.State != 2)) J (fun hc => ?_) (fun hc => ?_)
    ·have h := ifT h hc
     refine pw_exit <| thenQ_exit <| blockQ_exit ?_
     exact ⟨J, (), h, (wk_st _ _ ⟨J, J, J, J, J, J, tr⟩ ⟨rS, tr⟩)⟩
    ·have h := ifF h hc
     refine pw_skip <| sR <| yI J J <| yF J J Ty.f139_1 J <| yS J J J J Ty.a3 J <| bnE h fun v23 hv20 h => y0 J (o_call J Ty.k183 J (r03_Handle_ok hv20)) <| yi J J <| yN <| dr [] Ty.mix (by kernel_rfl) (by kernel_rfl) <| d7 J (fun _ hN => oF J Ty.f139_2 J) J <| d7 J (fun _ hN => oF J Ty.f63_2 J) J <| d0 J (oS J J J Ty.a3 J) J <| d7 J (fun _ hN => oF J Ty.f49_2 J) J <| d0 J (oS J J J Ty.a43 J) J <| d7 J (fun _ hN => mI J) J <| bnE h fun v24 hv21 h => d2 J (o_call J Ty.k184 J (r09_Naming_ok hv21)) J <| d7 J (fun _ hN => o_cmp J J J) J <| d7 J (fun _ hN => mB J) J <| d_if7 J (fun hg _ hN => oF J Ty.f139_0 J) J <| d_if0 J (fun hg => oS (ct hg) J J Ty.a3 J) J <| d_if7 J (fun hg _ hN => o_cmp (ct hg) J J) J <| d_if7 J (fun hg _ hN => om (d := .bool (v22.State == 2)) (ct hg)) J <| d_if7 (want2 J J J) (fun hg _ hN => oF J Ty.f139_2 J) J <| d_if7 (want2 J J J) (fun hg _ hN => oF (ct hg) Ty.f63_2 J) J <| d_if0 (want2 J J J) (fun hg => oS (ct hg) J J Ty.a3 J) J <| d_if7 (want2 J J J) (fun hg _ hN => o_cmp (ct hg) J J) J <| d_if7 (want2 J J J) (fun hg _ hN => om (d := .bool (decide (v22.Val.Weak < 1))) (ct hg)) J <| d_if7 (want2 J J J) (fun hg _ hN => oF J Ty.f139_2 J) J <| d_if7 (want2 J J J) (fun hg _ hN => oF (ct hg) Ty.f63_5 J) J <| d_if0 (want2 J J J) (fun hg => oS (ct hg) J J Ty.a27 J) J <| d_if0 (want2 J J J) (fun hg => o_lnL (f := iF) (ct hg) Ty.e27) J <| d_if7 (want2 J J J) (fun hg _ hN => o_cmp (ct hg) J J) J <| d_if7 (want2 J J J) (fun hg _ hN => pk_or (ct hg) J J (fun q => andI hg (eqF q))) J <| d_if7 (want2 J J J) (fun hg _ hN => om (d := .bool ((decide (v22.Val.Weak < 1)) || (decide ((v22.Val.Fields.length : Int) > 0)))) (ct hg)) J <| d_if7 (want2 J J J) (fun hg _ hN => oF J Ty.f139_2 J) J <| d_if7 (want2 J J J) (fun hg _ hN => oF (ct hg) Ty.f63_1 J) J <| d_if0 (want2 J J J) (fun hg => oS (ct hg) J J Ty.a3 J) J <| d_if7 (want2 J J J) (fun hg _ hN => o_cmp (ct hg) J J) J <| d_if7 (want2 J J J) (fun hg _ hN => pk_or (ct hg) J J (fun q => andI hg (eqF q))) J <| d_if7 J (fun hg _ hN => pk_and (ct hg) J J (fun q => andI hg (eqT q))) J <| d7 J (fun _ hN => pk_or J J J (fun q => eqF q)) J <| d_nil ?_
     refine pw_cond ((v22.Val.Weak != v24) || ((v22.State == 2) && (((decide (v22.Val.Weak < 1)) || (decide ((v22.Val.Fields.length : Int) > 0))) || (v22.Val.Strong != 0)))) J (fun hc => ?_) (fun hc => ?_)
     ·have h := ifT h hc
      refine sR <| yb J J <| yN <| pw_ret ?_
      have he := hx14 _ (oj h).symm
      have h := hk13
      rw [← he] at h
      obtain rfl := oj h
      exact ⟨J, [_], ⟨J, tr⟩, J, io⟩
     ·have h := ifF h hc
      refine pw_skip ?_
      exact ⟨J, (), h, (wk_st _ _ ⟨J, J, J, J, J, J, tr⟩ ⟨rS, tr⟩)⟩
  ·have h := ifF h hc
   refine pw_exit <| thenQ_exit <| thenQ_exit <| blockQ_exit ?_
   have he := hx14 _ (oj h).symm
   have h := hk13
   rw [← he] at h
   exact ⟨J, (), h, (wk_st _ _ tr tr)⟩

theorem r14_Held_ok {a0 : r14_Queue} {r : List Int} (h : r14_Held a0 = some r) : PCalls Tryz.prog 48 [r14_Queue.Pv a0] (.L iF r) := by
 unfold r14_Held at h
 refine pc_intro (N := 30) Tryz.func48 J J nl fun w0 imm0 => sR <| y1 J (o_box (d := r14_Queue.Pv a0) J J J J J) J <| yA (d := .lst true (List.map iF [])) J J <| yN <| sR <| y0 J (o_nslice J Ty.e27 Ty.s3) <| yA (d := .lst true (List.map iF [])) J J <| yN ?_
 obtain ⟨κ12, hκ9, h⟩ := jnE h
 refine pw_jn0 (κ := κ12) (r := r) (fun (j13 : List Int) => St.of [(3, .sl 910003)] [(910003, ⟨List.map iF j13, (List.map iF j13).length, true, 1, true⟩)]) (fun j13 h => ?_) ?_
 ·subst hκ9
  refine sR <| yM (d := .sl 910003) J J <| yA (d := .sl 910003) J J <| yN <| pw_ret ?_
  obtain rfl := oj h
  exact ⟨J, [_], ⟨J, tr⟩, J, io⟩
 ·skip
  refine sR <| yi J J <| yN <| pw_block ?_
  obtain ⟨e14, hl10, hk11⟩ := bindE h
  refine pw_lp0 (fun (q : Int × (List Int)) => St.of [(1, .ptr 1 0 0), (3, .sl 910003), (4, .I q.1)] [(1, ⟨[r14_Queue.Pv a0], 0, false, 2, true⟩), (910003, ⟨List.map iF q.2, (List.map iF q.2).length, true, 1, true⟩)]) hl10 (Wk.trans (wk_nil (t := 3) (l := 920003) (z := 1) J J) (wk_stP (fun l => if l = 910003 then 920003 else l) _ _ ⟨J, J, J, J, J, J, J, J, J, tr⟩ ⟨rN, rN, tr⟩ J)) (fun q18 x17 h hx12 => ?_)
  obtain ⟨s15, s16⟩ := q18
  refine pw_seq <| sR <| yI J J <| yF J J Ty.f47_0 J <| yS J J J J Ty.a45 J <| y0 J (o_lnL (f := r14_Task.Pv) J Ty.e45) <| y0 J (o_cmp J J J) <| yN ?_
  refine pw_cond (decide (s15 < (a0.L.length : Int))) J (fun hc => ?_) (fun hc => ?_)
  ·have h := ifT h hc
   refine pw_skip ?_
   obtain ⟨κ21, hκ15, h⟩ := jnE h
   refine pw_jn0 (κ := κ21) (r := x17) (fun (j22 : List Int) => St.of [(1, .ptr 1 0 0), (3, .sl 28), (4, .I s15)] [(28, ⟨List.map iF j22, (List.map iF j22).length, true, 1, true⟩), (1, ⟨[r14_Queue.Pv a0], 0, false, 2, true⟩)]) (fun j22 h => ?_) ?_
   ·subst hκ15
    refine s1 <| yI J J <| y0 J (o_ari J J J) <| yi J J <| yN ?_
    exact ⟨J, (w64 (s15 + 1), j22), (oj h).symm, (Wk.trans (wk_frz _ [28]) (wk_stP (fun l => if l = 910003 then 28 else l) _ _ ⟨J, J, J, J, J, J, J, J, J, tr⟩ ⟨rN, rN, tr⟩ J))⟩
   ·skip
    refine pw_block <| sR <| yF J J Ty.f47_0 J <| yS J J J J Ty.a45 J <| yI J J <| bnE h fun v23 hv16 h => y0 J (o_ixL (f := r14_Task.Pv) (cs := r14_Task.Pc v23) hv16 J J Ty.e45 Ty.s151 J J) <| y0 J (o_fieldAddrR J Ty.f151_0 J) <| y0 J (o_loadRS J Ty.a3 J) <| y0 J (o_cmp J J J) <| yN ?_
    refine pw_cond (v23.Kind == 1) J (fun hc => ?_) (fun hc => ?_)
    ·have h := ifT h hc
     refine s1 <| yM (d := .sl 910003) J J <| yF J J Ty.f47_0 J <| yS J J J J Ty.a45 J <| yI J J <| y0 J (o_ixL (f := r14_Task.Pv) (cs := r14_Task.Pc v23) hv16 J J Ty.e45 Ty.s151 J J) <| y0 J (o_fieldAddrR J Ty.f151_1 J) <| y0 J (o_loadRS J Ty.a3 J) <| y0 J (o_bI (f := iF) (l := [v23.At]) J Ty.e27 Ty.s3 Ty.z3 J J nl J J) <| bnE h fun v24 hv17 h => y_app J (o_apR (f := iF) hv17 J J J J J J (.inl ⟨_, J, J⟩) Ty.e27 Ty.s3 Ty.b3 Ty.z3 J (fun _ => J)) J J J <| yA (d := .sl 28) J J <| yN ?_
     exact ⟨J, v24, h, (Wk.trans (wk_frz _ [28]) (wk_st _ _ ⟨J, J, J, J, J, J, J, J, J, tr⟩ ⟨rS, rS, tr⟩))⟩
    ·have h := ifF h hc
     refine pw_skip ?_
     exact ⟨J, s16, h, (Wk.trans (wk_frz _ [910003]) (wk_stP (fun l => if l = 28 then 910003 else l) _ _ ⟨J, J, J, J, J, J, J, J, J, tr⟩ ⟨rN, rN, tr⟩ J))⟩
  ·have h := ifF h hc
   refine pw_exit <| thenQ_exit <| thenQ_exit <| blockQ_exit ?_
   have he := hx12 _ (oj h).symm
   have h := hk11
   rw [← he] at h
   exact ⟨J, s16, h, (Wk.trans (wk_frz _ [910003]) (wk_st _ _ ⟨J, J, J, tr⟩ ⟨rS, tr⟩))⟩

theorem r15_Outer_ok {a0 : r15_Heap} {r : List Int} (h : r15_Outer a0 = some r) : PCalls Tryz.prog 55 [r15_Heap.Pv a0] (.L iF r) := by
 unfold r15_Outer at h
 refine pc_intro (N := 32) Tryz.func55 J J nl fun w0 imm0 => sR <| y1 J (o_box (d := r15_Heap.Pv a0) J J J J J) J <| yA (d := .lst true (List.map iF [])) J J <| yN <| sR <| y0 J (o_nslice J Ty.e27 Ty.s3) <| yA (d := .lst true (List.map iF [])) J J <| yN ?_
 obtain ⟨κ12, hκ9, h⟩ := jnE h
 refine pw_jn0 (κ := κ12) (r := r) (fun (j13 : List Int) => St.of [(1, .ptr 1 0 0), (3, .sl 910003)] [(910003, ⟨List.map iF j13, (List.map iF j13).length, true, 1, true⟩), (1, ⟨[r15_Heap.Pv a0], 0, false, 8, true⟩)]) (fun j13 h => ?_) ?_
 ·subst hκ9
  refine sR <| yM (d := .sl 910003) J J <| yF J J Ty.f49_4 J <| yL J J J J Ty.a47 Ty.s47 nl J <| bnE h fun v14 hv10 h => yc J (o_callF J Ty.k48 J (r14_Held_ok hv10)) <| bnE h fun v15 hv11 h => y_app J (o_apR (f := iF) hv11 J J J J J J (.inl ⟨_, J, J⟩) Ty.e27 Ty.s3 Ty.b3 Ty.z3 J (fun _ => J)) J J J <| yA (d := .sl 31) J J <| yN <| pw_ret ?_
  obtain rfl := oj h
  exact ⟨J, [_], ⟨J, tr⟩, J, io⟩
 ·skip
  refine sR <| yi J J <| yN <| pw_block ?_
  obtain ⟨e16, hl12, hk13⟩ := bindE h
  refine pw_lp0 (fun (q : Int × (List Int)) => St.of [(1, .ptr 1 0 0), (3, .sl 910003), (4, .I q.1)] [(1, ⟨[r15_Heap.Pv a0], 0, false, 8, true⟩), (910003, ⟨List.map iF q.2, (List.map iF q.2).length, true, 1, true⟩)]) hl12 (Wk.trans (wk_nil (t := 3) (l := 920003) (z := 1) J J) (wk_stP (fun l => if l = 910003 then 920003 else l) _ _ ⟨J, J, J, J, J, J, J, J, J, tr⟩ ⟨rN, rN, tr⟩ J)) (fun q20 x19 h hx14 => ?_)
  obtain ⟨s17, s18⟩ := q20
  refine pw_seq <| sR <| yI J J <| yF J J Ty.f49_1 J <| yS J J J J Ty.a27 J <| y0 J (o_lnL (f := iF) J Ty.e27) <| y0 J (o_cmp J J J) <| yN ?_
  refine pw_cond (decide (s17 < (a0.Roots.length : Int))) J (fun hc => ?_) (fun hc => ?_)
  ·have h := ifT h hc
   refine pw_skip ?_
   obtain ⟨κ23, hκ17, h⟩ := jnE h
   refine pw_jn0 (κ := κ23) (r := x19) (fun (j24 : List Int) => St.of [(1, .ptr 1 0 0), (3, .sl 26), (4, .I s17)] [(26, ⟨List.map iF j24, (List.map iF j24).length, true, 1, true⟩), (1, ⟨[r15_Heap.Pv a0], 0, false, 8, true⟩)]) (fun j24 h => ?_) ?_
   ·subst hκ17
    refine s1 <| yI J J <| y0 J (o_ari J J J) <| yi J J <| yN ?_
    exact ⟨J, (w64 (s17 + 1), j24), (oj h).symm, (Wk.trans (wk_frz _ [26]) (wk_stP (fun l => if l = 910003 then 26 else l) _ _ ⟨J, J, J, J, J, J, J, J, J, tr⟩ ⟨rN, rN, tr⟩ J))⟩
   ·skip
    refine pw_block <| sR <| yF J J Ty.f49_1 J <| yS J J J J Ty.a27 J <| yI J J <| bnE h fun v25 hv18 h => y0 J (o_ixL (f := iF) (cs := [.I v25]) hv18 J J Ty.e27 Ty.s3 J J) <| y0 J (o_loadRS J Ty.a3 J) <| y0 J (o_cmp J J J) <| yN ?_
    refine pw_cond (v25 != 0) J (fun hc => ?_) (fun hc => ?_)
    ·have h := ifT h hc
     refine s1 <| yM (d := .sl 910003) J J <| yF J J Ty.f49_1 J <| yS J J J J Ty.a27 J <| yI J J <| y0 J (o_ixL (f := iF) (cs := [.I v25]) hv18 J J Ty.e27 Ty.s3 J J) <| y0 J (o_loadRS J Ty.a3 J) <| y0 J (o_bI (f := iF) (l := [v25]) J Ty.e27 Ty.s3 Ty.z3 J J nl J J) <| bnE h fun v26 hv19 h => y_app J (o_apR (f := iF) hv19 J J J J J J (.inl ⟨_, J, J⟩) Ty.e27 Ty.s3 Ty.b3 Ty.z3 J (fun _ => J)) J J J <| yA (d := .sl 26) J J <| yN ?_
     exact ⟨J, v26, h, (Wk.trans (wk_frz _ [26]) (wk_st _ _ ⟨J, J, J, J, J, J, J, J, J, tr⟩ ⟨rS, rS, tr⟩))⟩
    ·have h := ifF h hc
     refine pw_skip ?_
     exact ⟨J, s18, h, (Wk.trans (wk_frz _ [910003]) (wk_stP (fun l => if l = 26 then 910003 else l) _ _ ⟨J, J, J, J, J, J, J, J, J, tr⟩ ⟨rN, rN, tr⟩ J))⟩
  ·have h := ifF h hc
   refine pw_exit <| thenQ_exit <| thenQ_exit <| blockQ_exit ?_
   have he := hx14 _ (oj h).symm
   have h := hk13
   rw [← he] at h
   exact ⟨J, s18, h, (Wk.trans (wk_frz _ [910003]) (wk_st _ _ ⟨J, J, J, J, J, J, tr⟩ ⟨rS, rS, tr⟩))⟩

theorem r04_Stuck_ok {a0 : Int} {r : Bool} (h : r04_Stuck a0 = some r) : PCalls Tryz.prog 177 [.I a0] (.bool r) := by
 unfold r04_Stuck at h
 refine pc_intro (N := 5) Tryz.func177 J J nl fun w0 imm0 => sR <| yb J J <| yN <| sR <| yI J J <| y0 J (o_cmp J J J) <| yb J J <| yN <| pw_ret ?_
 obtain rfl := oj h
 exact ⟨J, [_], ⟨J, tr⟩, J, io⟩

theorem r13_stuck_ok {a0 : r06_Store} {a1 : Int} {r : Bool} (h : r13_stuck a0 a1 = some r) : PCalls Tryz.prog 185 [r06_Store.Pv a0, .I a1] (.bool r) := by
 unfold r13_stuck at h
 refine pc_intro (N := 16) Tryz.func185 J J nl fun w0 imm0 => sR <| y1 J (o_box (d := r06_Store.Pv a0) J J J J J) J <| yb J J <| yN <| sR <| yL J J J J Ty.a42 Ty.s42 nl J <| yI J J <| bnE h fun v1 hv1 h => yc J (o_callF J Ty.k33 J (r06_Get_ok hv1)) <| yM (d := .tup [r06_Obj.Pv v1.1, .I v1.2]) J J <| yX J J J <| yX J J J <| y1 J (o_alloc J Ty.z63 J J J) J <| y_sto (x' := r06_Obj.Pv v1.1) (cl' := true) J J (.inr J) Ty.s63 <| yi J J <| yN <| sR <| yF J J Ty.f63_1 J <| yS J J J J Ty.a3 J <| bnE h fun v2 hv2 h => y0 J (o_call J Ty.k177 J (r04_Stuck_ok hv2)) <| yb J J <| yN <| pw_ret ?_
 obtain rfl := oj h
 exact ⟨J, [_], ⟨J, tr⟩, J, io⟩

theorem r05_Names_ok {a0 : List Int} {r : List Int} (h : r05_Names a0 = some r) : PCalls Tryz.prog 126 [.L iF a0] (.L iF r) := by
 unfold r05_Names at h
 refine pc_intro (N := 25) Tryz.func126 J J nl fun w0 imm0 => sR <| yA (d := .lst true (List.map iF [])) J J <| yN <| sR <| y0 J (o_nslice J Ty.e27 Ty.s3) <| yA (d := .lst true (List.map iF [])) J J <| yN ?_
 obtain ⟨κ12, hκ9, h⟩ := jnE h
 refine pw_jn0 (κ := κ12) (r := r) (fun (j13 : List Int) => St.of [(3, .sl 910003)] [(910003, ⟨List.map iF j13, (List.map iF j13).length, true, 1, true⟩)]) (fun j13 h => ?_) ?_
 ·subst hκ9
  refine sR <| yM (d := .sl 910003) J J <| yA (d := .sl 910003) J J <| yN <| pw_ret ?_
  obtain rfl := oj h
  exact ⟨J, [_], ⟨J, tr⟩, J, io⟩
 ·skip
  refine sR <| yi J J <| yN <| pw_block ?_
  obtain ⟨e14, hl10, hk11⟩ := bindE h
  refine pw_lp0 (fun (q : Int × (List Int)) => St.of [(0, .L iF a0), (3, .sl 910003), (4, .I q.1)] [(910003, ⟨List.map iF q.2, (List.map iF q.2).length, true, 1, true⟩)]) hl10 (Wk.trans (wk_nil (t := 3) (l := 920003) (z := 1) J J) (wk_stP (fun l => if l = 910003 then 920003 else l) _ _ ⟨J, J, J, J, J, J, J, J, J, tr⟩ ⟨rN, tr⟩ J)) (fun q18 x17 h hx12 => ?_)
  obtain ⟨s15, s16⟩ := q18
  refine pw_seq <| sR <| yI J J <| yM (d := .L iF a0) J J <| y0 J (o_lnL (f := iF) J Ty.e27) <| y0 J (o_cmp J J J) <| yN ?_
  refine pw_cond (decide (s15 < (a0.length : Int))) J (fun hc => ?_) (fun hc => ?_)
  ·have h := ifT h hc
   refine pw_skip ?_
   obtain ⟨κ21, hκ15, h⟩ := jnE h
   refine pw_jn0 (κ := κ21) (r := x17) (fun (j22 : List Int) => St.of [(0, .L iF a0), (3, .sl 23), (4, .I s15)] [(23, ⟨List.map iF j22, (List.map iF j22).length, true, 1, true⟩)]) (fun j22 h => ?_) ?_
   ·subst hκ15
    refine s1 <| yI J J <| y0 J (o_ari J J J) <| yi J J <| yN ?_
    exact ⟨J, (w64 (s15 + 1), j22), (oj h).symm, (Wk.trans (wk_frz _ [23]) (wk_stP (fun l => if l = 910003 then 23 else l) _ _ ⟨J, J, J, J, J, J, J, J, J, tr⟩ ⟨rN, tr⟩ J))⟩
   ·skip
    refine pw_block <| sR <| yM (d := .L iF a0) J J <| yI J J <| bnE h fun v23 hv16 h => y0 J (o_ixL (f := iF) (cs := [.I v23]) hv16 J J Ty.e27 Ty.s3 J J) <| y0 J (o_loadRS J Ty.a3 J) <| y0 J (o_cmp J J J) <| yN ?_
    refine pw_cond (v23 != 0) J (fun hc => ?_) (fun hc => ?_)
    ·have h := ifT h hc
     refine s1 <| yM (d := .sl 910003) J J <| yM (d := .L iF a0) J J <| yI J J <| y0 J (o_ixL (f := iF) (cs := [.I v23]) hv16 J J Ty.e27 Ty.s3 J J) <| y0 J (o_loadRS J Ty.a3 J) <| y0 J (o_bI (f := iF) (l := [v23]) J Ty.e27 Ty.s3 Ty.z3 J J nl J J) <| bnE h fun v24 hv17 h => y_app J (o_apR (f := iF) hv17 J J J J J J (.inl ⟨_, J, J⟩) Ty.e27 Ty.s3 Ty.b3 Ty.z3 J (fun _ => J)) J J J <| yA (d := .sl 23) J J <| yN ?_
     exact ⟨J, v24, h, (Wk.trans (wk_frz _ [23]) (wk_st _ _ ⟨J, J, J, J, J, J, J, J, J, tr⟩ ⟨rS, tr⟩))⟩
    ·have h := ifF h hc
     refine pw_skip ?_
     exact ⟨J, s16, h, (Wk.trans (wk_frz _ [910003]) (wk_stP (fun l => if l = 23 then 910003 else l) _ _ ⟨J, J, J, J, J, J, J, J, J, tr⟩ ⟨rN, tr⟩ J))⟩
  ·have h := ifF h hc
   refine pw_exit <| thenQ_exit <| thenQ_exit <| blockQ_exit ?_
   have he := hx12 _ (oj h).symm
   have h := hk11
   rw [← he] at h
   exact ⟨J, s16, h, (Wk.trans (wk_frz _ [910003]) (wk_st _ _ ⟨J, J, J, tr⟩ ⟨rS, tr⟩))⟩

theorem r07_Out_ok {a0 : r06_Store} {a1 : Int} {r : List Int} (h : r07_Out a0 a1 = some r) : PCalls Tryz.prog 130 [r06_Store.Pv a0, .I a1] (.L iF r) := by
 unfold r07_Out at h
 refine pc_intro (N := 18) Tryz.func130 J J nl fun w0 imm0 => sR <| y1 J (o_box (d := r06_Store.Pv a0) J J J J J) J <| yA (d := .lst true (List.map iF [])) J J <| yN <| sR <| yL J J J J Ty.a42 Ty.s42 nl J <| yI J J <| bnE h fun v1 hv1 h => yc J (o_callF J Ty.k33 J (r06_Get_ok hv1)) <| yM (d := .tup [r06_Obj.Pv v1.1, .I v1.2]) J J <| yX J J J <| yX J J J <| y1 J (o_alloc J Ty.z63 J J J) J <| y_sto (x' := r06_Obj.Pv v1.1) (cl' := true) J J (.inr J) Ty.s63 <| yi J J <| yN <| pw_seq <| sR <| yI J J <| y0 J (o_cmp J J J) <| yN ?_
 refine pw_cond (v1.2 != 0) J (fun hc => ?_) (fun hc => ?_)
 ·have h := ifT h hc
  refine sR <| yA (d := .lst true (List.map iF [])) J J <| yN <| pw_ret ?_
  obtain rfl := oj h
  exact ⟨J, [_], ⟨J, tr⟩, J, io⟩
 ·have h := ifF h hc
  refine pw_skip <| sR <| yF J J Ty.f63_5 J <| yS J J J J Ty.a27 J <| bnE h fun v2 hv2 h => yc J (o_callF J Ty.k126 J (r05_Names_ok hv2)) <| yA (d := .L iF v2) J J <| yN <| pw_ret ?_
  obtain rfl := oj h
  exact ⟨J, [_], ⟨J, tr⟩, J, io⟩

theorem r07_Times_ok {a0 : List Int} {a1 : Int} {r : Int} (h : r07_Times a0 a1 = some r) : PCalls Tryz.prog 57 [.L iF a0, .I a1] (.I r) := by
 unfold r07_Times at h
 refine pc_intro (N := 26) Tryz.func57 J J nl fun w0 imm0 => sR <| yi J J <| yN <| sR <| yi J J <| yN ?_
 obtain ⟨κ10, hκ7, h⟩ := jnE h
 refine pw_jn0 (κ := κ10) (r := r) (fun (j11 : Int) => St.of [(5, .I j11)] []) (fun j11 h => ?_) ?_
 ·subst hκ7
  refine sR <| yI J J <| yi J J <| yN <| pw_ret ?_
  obtain rfl := oj h
  exact ⟨J, [_], ⟨J, tr⟩, J, io⟩
 ·skip
  refine sR <| yi J J <| yN <| pw_block ?_
  obtain ⟨e12, hl8, hk9⟩ := bindE h
  refine pw_lp0 (fun (q : Int × Int) => St.of [(0, .L iF a0), (1, .I a1), (5, .I q.1), (6, .I q.2)] []) hl8 (wk_st _ _ ⟨J, J, J, J, J, J, J, J, J, J, J, J, tr⟩ tr) (fun q16 x15 h hx10 => ?_)
  obtain ⟨s13, s14⟩ := q16
  refine pw_seq <| sR <| yI J J <| yM (d := .L iF a0) J J <| y0 J (o_lnL (f := iF) J Ty.e27) <| y0 J (o_cmp J J J) <| yN ?_
  refine pw_cond (decide (s14 < (a0.length : Int))) J (fun hc => ?_) (fun hc => ?_)
  ·have h := ifT h hc
   refine pw_skip ?_
   obtain ⟨κ18, hκ12, h⟩ := jnE h
   refine pw_jn0 (κ := κ18) (r := x15) (fun (j19 : Int) => St.of [(0, .L iF a0), (1, .I a1), (5, .I j19), (6, .I s14)] []) (fun j19 h => ?_) ?_
   ·subst hκ12
    refine s1 <| yI J J <| y0 J (o_ari J J J) <| yi J J <| yN ?_
    exact ⟨J, (j19, w64 (s14 + 1)), (oj h).symm, (wk_st _ _ ⟨J, J, J, J, J, J, J, J, J, J, J, J, tr⟩ tr)⟩
   ·skip
    refine pw_block <| sR <| yM (d := .L iF a0) J J <| yI J J <| bnE h fun v20 hv13 h => y0 J (o_ixL (f := iF) (cs := [.I v20]) hv13 J J Ty.e27 Ty.s3 J J) <| y0 J (o_loadRS J Ty.a3 J) <| yI J J <| y0 J (o_cmp J J J) <| yB J J <| y_if J (fun hg => mI J) <| y_if J (fun hg => o_cmp (ct hg) J J) <| y0 J (pk_and J J J (fun q => eqT q)) <| yN ?_
    refine pw_cond ((v20 == a1) && (a1 != 0)) J (fun hc => ?_) (fun hc => ?_)
    ·have h := ifT h hc
     refine s1 <| yI J J <| y0 J (o_ari J J J) <| yi J J <| yN ?_
     exact ⟨J, w64 (s13 + 1), h, (wk_st _ _ ⟨J, J, J, J, J, J, J, J, J, J, J, J, tr⟩ tr)⟩
    ·have h := ifF h hc
     refine pw_skip ?_
     exact ⟨J, s13, h, (wk_st _ _ ⟨J, J, J, J, J, J, J, J, J, J, J, J, tr⟩ tr)⟩
  ·have h := ifF h hc
   refine pw_exit <| thenQ_exit <| thenQ_exit <| blockQ_exit ?_
   have he := hx10 _ (oj h).symm
   have h := hk9
   rw [← he] at h
   exact ⟨J, s13, h, (wk_st _ _ ⟨J, J, J, tr⟩ tr)⟩

theorem r07_In_ok {a0 : r06_Store} {a1 : Int} {r : Int} (h : r07_In a0 a1 = some r) : PCalls Tryz.prog 267 [r06_Store.Pv a0, .I a1] (.I r) := by
 unfold r07_In at h
 refine pc_intro (N := 27) Tryz.func267 J J nl fun w0 imm0 => sR <| y1 J (o_box (d := r06_Store.Pv a0) J J J J J) J <| yi J J <| yN <| sR <| yi J J <| yN <| sR <| yL J J J J Ty.a42 Ty.s42 nl J <| bnE h fun v1 hv1 h => yc J (o_callF J Ty.k56 J (r06_Live_ok hv1)) <| yA (d := .L iF v1) J J <| yN ?_
 obtain ⟨κ10, hκ8, h⟩ := jnE h
 refine pw_jn0 (κ := κ10) (r := r) (fun (j11 : Int) => St.of [(5, .I j11)] []) (fun j11 h => ?_) ?_
 ·subst hκ8
  refine sR <| yI J J <| yi J J <| yN <| pw_ret ?_
  obtain rfl := oj h
  exact ⟨J, [_], ⟨J, tr⟩, J, io⟩
 ·skip
  refine sR <| yi J J <| yN <| pw_block ?_
  obtain ⟨e12, hl9, hk10⟩ := bindE h
  refine pw_lp0 (fun (q : Int × Int) => St.of [(1, .I a1), (2, .ptr 2 0 0), (5, .I q.1), (6, .L iF v1), (7, .I q.2)] [(2, ⟨[r06_Store.Pv a0], 0, false, 3, true⟩)]) hl9 (wk_st _ _ ⟨J, J, J, J, J, J, J, J, J, J, J, J, J, J, J, tr⟩ ⟨rS, tr⟩) (fun q16 x15 h hx11 => ?_)
  obtain ⟨s13, s14⟩ := q16
  refine pw_seq <| sR <| yI J J <| yM (d := .L iF v1) J J <| y0 J (o_lnL (f := iF) J Ty.e27) <| y0 J (o_cmp J J J) <| yN ?_
  refine pw_cond (decide (s14 < (v1.length : Int))) J (fun hc => ?_) (fun hc => ?_)
  ·have h := ifT h hc
   refine pw_skip <| pw_seq <| pw_block <| pw_drw [] Ty.mix (by kernel_rfl) (by kernel_rfl) <| d7 J (fun _ hN => mI J) J <| d0 J (oL J J J Ty.a42 Ty.s42 nl J) J <| d7 J (fun _ hN => om (d := .L iF v1) J) J <| d7 J (fun _ hN => mI J) J <| bnE h fun v17 hv12 h => d0 J (o_ixL (f := iF) (cs := [.I v17]) hv12 J J Ty.e27 Ty.s3 J J) J <| d0 J (o_loadRS J Ty.a3 J) J <| bnE h fun v18 hv13 h => d2f J (o_callF J Ty.k130 J (r07_Out_ok hv13)) J <| d7 J (fun _ hN => mI J) J <| bnE h fun v19 hv14 h => d2 J (o_call J Ty.k57 J (r07_Times_ok hv14)) J <| d7 J (fun _ hN => o_ari J J J) J <| d7 J (fun _ hN => aI J) J <| d_nil <| s1 <| yI J J <| y0 J (o_ari J J J) <| yi J J <| yN ?_
   exact ⟨J, (w64 (s13 + v19), w64 (s14 + 1)), (oj h).symm, (wk_st _ _ ⟨J, J, J, J, J, J, J, J, J, J, J, J, J, J, J, tr⟩ ⟨rS, tr⟩)⟩
  ·have h := ifF h hc
   refine pw_exit <| thenQ_exit <| thenQ_exit <| blockQ_exit ?_
   have he := hx11 _ (oj h).symm
   have h := hk10
   rw [← he] at h
   exact ⟨J, s13, h, (wk_st _ _ ⟨J, J, J, tr⟩ tr)⟩

theorem r11_Owned_ok {a0 : List r10_Place} {a1 : Int} {r : Int} (h : r11_Owned a0 a1 = some r) : PCalls Tryz.prog 268 [.L r10_Place.Pv a0, .I a1] (.I r) := by
 unfold r11_Owned at h
 refine pc_intro (N := 30) Tryz.func268 J J nl fun w0 imm0 => sR <| yi J J <| yN <| sR <| yi J J <| yN <| sR <| yM (d := .L r10_Place.Pv a0) J J <| bnE h fun v1 hv1 h => yc J (o_callF J Ty.k182 J (r11_Pairs_ok hv1)) <| yA (d := .L r11_Pair.Pv v1) J J <| yN ?_
 obtain ⟨κ11, hκ8, h⟩ := jnE h
 refine pw_jn0 (κ := κ11) (r := r) (fun (j12 : Int) => St.of [(5, .I j12)] []) (fun j12 h => ?_) ?_
 ·subst hκ8
  refine sR <| yI J J <| yi J J <| yN <| pw_ret ?_
  obtain rfl := oj h
  exact ⟨J, [_], ⟨J, tr⟩, J, io⟩
 ·skip
  refine sR <| yi J J <| yN <| pw_block ?_
  obtain ⟨e13, hl9, hk10⟩ := bindE h
  refine pw_lp0 (fun (q : Int × Int) => St.of [(1, .I a1), (5, .I q.1), (6, .L r11_Pair.Pv v1), (7, .I q.2)] []) hl9 (wk_st _ _ ⟨J, J, J, J, J, J, J, J, J, J, J, J, tr⟩ tr) (fun q17 x16 h hx11 => ?_)
  obtain ⟨s14, s15⟩ := q17
  refine pw_seq <| sR <| yI J J <| yM (d := .L r11_Pair.Pv v1) J J <| y0 J (o_lnL (f := r11_Pair.Pv) J Ty.e212) <| y0 J (o_cmp J J J) <| yN ?_
  refine pw_cond (decide (s15 < (v1.length : Int))) J (fun hc => ?_) (fun hc => ?_)
  ·have h := ifT h hc
   refine pw_skip ?_
   obtain ⟨κ19, hκ13, h⟩ := jnE h
   refine pw_jn0 (κ := κ19) (r := x16) (fun (j20 : Int) => St.of [(1, .I a1), (5, .I j20), (6, .L r11_Pair.Pv v1), (7, .I s15)] []) (fun j20 h => ?_) ?_
   ·subst hκ13
    refine s1 <| yI J J <| y0 J (o_ari J J J) <| yi J J <| yN ?_
    exact ⟨J, (j20, w64 (s15 + 1)), (oj h).symm, (wk_st _ _ ⟨J, J, J, J, J, J, J, J, J, J, J, J, tr⟩ tr)⟩
   ·skip
    refine pw_block <| sR <| yM (d := .L r11_Pair.Pv v1) J J <| yI J J <| bnE h fun v21 hv14 h => y0 J (o_ixL (f := r11_Pair.Pv) (cs := r11_Pair.Pc v21) hv14 J J Ty.e212 Ty.s215 J J) <| y0 J (o_fieldAddrR J Ty.f215_1 J) <| y0 J (o_loadRS J Ty.a3 J) <| yI J J <| y0 J (o_cmp J J J) <| yB J J <| y_if J (fun hg => mI J) <| y_if J (fun hg => o_cmp (ct hg) J J) <| y0 J (pk_and J J J (fun q => eqT q)) <| yN ?_
    refine pw_cond ((v21.Val == a1) && (a1 != 0)) J (fun hc => ?_) (fun hc => ?_)
    ·have h := ifT h hc
     refine s1 <| yI J J <| y0 J (o_ari J J J) <| yi J J <| yN ?_
     exact ⟨J, w64 (s14 + 1), h, (wk_st _ _ ⟨J, J, J, J, J, J, J, J, J, J, J, J, tr⟩ tr)⟩
    ·have h := ifF h hc
     refine pw_skip ?_
     exact ⟨J, s14, h, (wk_st _ _ ⟨J, J, J, J, J, J, J, J, J, J, J, J, tr⟩ tr)⟩
  ·have h := ifF h hc
   refine pw_exit <| thenQ_exit <| thenQ_exit <| blockQ_exit ?_
   have he := hx11 _ (oj h).symm
   have h := hk10
   rw [← he] at h
   exact ⟨J, s14, h, (wk_st _ _ ⟨J, J, J, tr⟩ tr)⟩

theorem r13_Inner_ok {a0 : r06_Store} {a1 : List r10_Place} {a2 : Int} {r : Int} (h : r13_Inner a0 a1 a2 = some r) : PCalls Tryz.prog 233 [r06_Store.Pv a0, .L r10_Place.Pv a1, .I a2] (.I r) := by
 unfold r13_Inner at h
 refine pc_intro (N := 14) Tryz.func233 J J nl fun w0 imm0 => sR <| y1 J (o_box (d := r06_Store.Pv a0) J J J J J) J <| yi J J <| yN <| sR <| yL J J J J Ty.a42 Ty.s42 nl J <| yI J J <| bnE h fun v1 hv1 h => y0 J (o_call J Ty.k267 J (r07_In_ok hv1)) <| yM (d := .L r10_Place.Pv a1) J J <| yI J J <| bnE h fun v2 hv2 h => y0 J (o_call J Ty.k268 J (r11_Owned_ok hv2)) <| y0 J (o_ari J J J) <| yi J J <| yN <| pw_ret ?_
 obtain rfl := oj h
 exact ⟨J, [_], ⟨J, tr⟩, J, io⟩

theorem r13_Rest_ok {a0 : r06_Store} {a1 : List r10_Place} {a2 : Int} {r : Int} (h : r13_Rest a0 a1 a2 = some r) : PCalls Tryz.prog 186 [r06_Store.Pv a0, .L r10_Place.Pv a1, .I a2] (.I r) := by
 unfold r13_Rest at h
 refine pc_intro (N := 24) Tryz.func186 J J nl fun w0 imm0 => sR <| y1 J (o_box (d := r06_Store.Pv a0) J J J J J) J <| yi J J <| yN <| sR <| yL J J J J Ty.a42 Ty.s42 nl J <| yI J J <| bnE h fun v1 hv1 h => yc J (o_callF J Ty.k33 J (r06_Get_ok hv1)) <| yM (d := .tup [r06_Obj.Pv v1.1, .I v1.2]) J J <| yX J J J <| yX J J J <| y1 J (o_alloc J Ty.z63 J J J) J <| y_sto (x' := r06_Obj.Pv v1.1) (cl' := true) J J (.inr J) Ty.s63 <| yi J J <| yN <| pw_seq <| sR <| yI J J <| y0 J (o_cmp J J J) <| yN ?_
 refine pw_cond (v1.2 != 0) J (fun hc => ?_) (fun hc => ?_)
 ·have h := ifT h hc
  refine sR <| yi J J <| yN <| pw_ret ?_
  obtain rfl := oj h
  exact ⟨J, [_], ⟨J, tr⟩, J, io⟩
 ·have h := ifF h hc
  refine pw_skip <| dr [] Ty.mix (by kernel_rfl) (by kernel_rfl) <| d7 J (fun _ hN => oF J Ty.f63_1 J) J <| d0 J (oS J J J Ty.a3 J) J <| d0 J (oL J J J Ty.a42 Ty.s42 nl J) J <| d7 J (fun _ hN => om (d := .L r10_Place.Pv a1) J) J <| d7 J (fun _ hN => mI J) J <| bnE h fun v2 hv2 h => d2 J (o_call J Ty.k233 J (r13_Inner_ok hv2)) J <| d7 J (fun _ hN => o_ari J J J) J <| d7 J (fun _ hN => aI J) J <| d_nil <| pw_ret ?_
  obtain rfl := oj h
  exact ⟨J, [_], ⟨J, tr⟩, J, io⟩

theorem r13_Fair_ok {a0 : r06_Store} {a1 : List r10_Place} {a2 : List Int} {r : Bool} (h : r13_Fair a0 a1 a2 = some r) : PCalls Tryz.prog 105 [r06_Store.Pv a0, .L r10_Place.Pv a1, .L iF a2] (.bool r) := by
 unfold r13_Fair at h
 refine pc_intro (N := 40) Tryz.func105 J J nl fun w0 imm0 => sR <| y1 J (o_box (d := r06_Store.Pv a0) J J J J J) J <| yb J J <| yN <| sR <| yL J J J J Ty.a42 Ty.s42 nl J <| bnE h fun v1 hv1 h => yc J (o_callF J Ty.k56 J (r06_Live_ok hv1)) <| yA (d := .L iF v1) J J <| yN ?_
 obtain ⟨κ9, hκ9, h⟩ := jnE h
 refine pw_jn0 (κ := κ9) (r := r) (fun (_ : Unit) => St.of [] []) (fun q10 h => ?_) ?_
 ·subst hκ9
  refine sR <| yb J J <| yN <| pw_ret ?_
  obtain rfl := oj h
  exact ⟨J, [_], ⟨J, tr⟩, J, io⟩
 ·skip
  refine sR <| yi J J <| yN <| pw_block ?_
  obtain ⟨e11, hl10, hk11⟩ := bindE h
  refine pw_lp0 (fun (s12 : Int) => St.of [(1, .L r10_Place.Pv a1), (2, .L iF a2), (3, .ptr 3 0 0), (7, .L iF v1), (8, .I s12)] [(3, ⟨[r06_Store.Pv a0], 0, false, 3, true⟩)]) hl10 (wk_st _ _ ⟨J, J, J, J, J, J, J, J, J, J, J, J, J, J, J, tr⟩ ⟨rS, tr⟩) (fun s12 x13 h hx12 => ?_)
  refine pw_seq <| sR <| yI J J <| yM (d := .L iF v1) J J <| y0 J (o_lnL (f := iF) J Ty.e27) <| y0 J (o_cmp J J J) <| yN ?_
  refine pw_cond (decide (s12 < (v1.length : Int))) J (fun hc => ?_) (fun hc => ?_)
  ·have h := ifT h hc
   refine pw_skip <| pw_seq <| pw_block <| dr [] Ty.mix (by kernel_rfl) (by kernel_rfl) <| d0 J (oL J J J Ty.a42 Ty.s42 nl J) J <| d7 J (fun _ hN => om (d := .L iF v1) J) J <| d7 J (fun _ hN => mI J) J <| bnE h fun v14 hv13 h => d0 J (o_ixL (f := iF) (cs := [.I v14]) hv13 J J Ty.e27 Ty.s3 J J) J <| d0 J (o_loadRS J Ty.a3 J) J <| bnE h fun v15 hv14 h => d2 J (o_call J Ty.k185 J (r13_stuck_ok hv14)) J <| d7 J (fun _ hN => o_not J J) J <| d7 J (fun _ hN => mB J) J <| d_if0 J (fun hg => oL J J J Ty.a42 Ty.s42 nl J) J <| d_if7 J (fun hg _ hN => om (d := .L r10_Place.Pv a1) J) J <| d_if7 J (fun hg _ hN => om (d := .L iF v1) J) J <| d_if7 J (fun hg _ hN => mI J) J <| d_if0 J (fun hg => o_ixL (f := iF) (cs := [.I v14]) hv13 (ct hg) (ct hg) Ty.e27 Ty.s3 J J) J <| d_if0 J (fun hg => o_loadRS (ct hg) Ty.a3 J) J <| bnE h fun v16 hv15 h => d_if2 J (fun hg => o_call J Ty.k186 (consE (ct hg) (consE (ct hg) (consE (ct hg) J))) (r13_Rest_ok (onlyE hv15 hg))) J <| d_if7 J (fun hg _ hN => om (d := .L iF a2) J) J <| d_if7 J (fun hg _ hN => om (d := .L iF v1) J) J <| d_if7 J (fun hg _ hN => mI J) J <| d_if0 J (fun hg => o_ixL (f := iF) (cs := [.I v14]) hv13 (ct hg) (ct hg) Ty.e27 Ty.s3 J J) J <| d_if0 J (fun hg => o_loadRS (ct hg) Ty.a3 J) J <| bnE h fun v17 hv16 h => d_if2 J (fun hg => o_call J Ty.k57 (consE (ct hg) (consE (ct hg) J)) (r07_Times_ok (onlyE hv16 hg))) J <| d_if7 J (fun hg _ hN => o_cmp (ct hg) (ct hg) J) J <| d7 J (fun _ hN => pk_and J J J (fun q => eqT q)) J <| d_nil ?_
   refine pw_cond ((!v15) && (v16 != v17)) J (fun hc => ?_) (fun hc => ?_)
   ·have h := ifT h hc
    refine sR <| yb J J <| yN <| pw_ret ?_
    have he := hx12 _ (oj h).symm
    have h := hk11
    rw [← he] at h
    obtain rfl := oj h
    exact ⟨J, [_], ⟨J, tr⟩, J, io⟩
   ·have h := ifF h hc
    refine pw_skip <| s1 <| yI J J <| y0 J (o_ari J J J) <| yi J J <| yN ?_
    exact ⟨J, w64 (s12 + 1), (oj h).symm, (wk_st _ _ ⟨J, J, J, J, J, J, J, J, J, J, J, J, J, J, J, tr⟩ ⟨rS, tr⟩)⟩
  ·have h := ifF h hc
   refine pw_exit <| thenQ_exit <| thenQ_exit <| blockQ_exit ?_
   have he := hx12 _ (oj h).symm
   have h := hk11
   rw [← he] at h
   exact ⟨J, (), h, (wk_st _ _ tr tr)⟩

end Go.Proofs.YtnfmdpblilpcbaaGreat.Ok
