/-
 The functions of the program do as the plain functions do.
-/
import Derived.Test.YtnfmdpblilpcbaaGreatI16bPwC
import Derived.Test.YtnfmdpblilpcbaaGreatI16bPwD
import Derived.Test.YtnfmdpblilpcbaaGreatSrt
import Derived.Test.YtnfmdpblilpcbaaGreatI16bSh
import Derived.Test.YtnfmdpblilpcbaaGreatProg
namespace Go.Proofs.YtnfmdpblilpcbaaGreat.Ok
open Go Go.Pw Go.Sh Go.Proofs
set_option linter.unusedVariables false
set_option maxRecDepth 100000
set_option maxHeartbeats 4000000
abbrev _root_.Go.Sh.store_Obj.Pc (x : store_Obj) : List PV := [.I x.Serial, .I x.Strong, .I x.Weak, .I x.Prog, .bool x.Started, .L iF x.Fields]
abbrev _root_.Go.Sh.store_Obj.Pv (x : store_Obj) : PV := .agg x.Pc
abbrev _root_.Go.Sh.slab_Cell_store_Obj.Pc (x : slab_Cell_store_Obj) : List PV := [.I x.State, .I x.Gen, .I x.Val.Serial, .I x.Val.Strong, .I x.Val.Weak, .I x.Val.Prog, .bool x.Val.Started, .L iF x.Val.Fields]
abbrev _root_.Go.Sh.slab_Cell_store_Obj.Pv (x : slab_Cell_store_Obj) : PV := .agg x.Pc
abbrev _root_.Go.Sh.slab_Slab_store_Obj.Pc (x : slab_Slab_store_Obj) : List PV := [.L slab_Cell_store_Obj.Pv x.Cells, .I x.Last]
abbrev _root_.Go.Sh.slab_Slab_store_Obj.Pv (x : slab_Slab_store_Obj) : PV := .agg x.Pc
abbrev _root_.Go.Sh.store_Store.Pc (x : store_Store) : List PV := [.L slab_Cell_store_Obj.Pv x.S.Cells, .I x.S.Last, .I x.Serial]
abbrev _root_.Go.Sh.store_Store.Pv (x : store_Store) : PV := .agg x.Pc
abbrev _root_.Go.Sh.weak_Cell.Pc (x : weak_Cell) : List PV := [.I x.Target, .bool x.Intact, .I x.Call]
abbrev _root_.Go.Sh.weak_Cell.Pv (x : weak_Cell) : PV := .agg x.Pc
abbrev _root_.Go.Sh.hash_Place.Pc (x : hash_Place) : List PV := [.I x.State, .I x.Key, .I x.Val]
abbrev _root_.Go.Sh.hash_Place.Pv (x : hash_Place) : PV := .agg x.Pc
abbrev _root_.Go.Sh.task_Task.Pc (x : task_Task) : List PV := [.I x.Kind, .I x.At, .I x.Prog]
abbrev _root_.Go.Sh.task_Task.Pv (x : task_Task) : PV := .agg x.Pc
abbrev _root_.Go.Sh.queue_Queue_task_Task.Pc (x : queue_Queue_task_Task) : List PV := [.L task_Task.Pv x.L, .I x.Cap]
abbrev _root_.Go.Sh.queue_Queue_task_Task.Pv (x : queue_Queue_task_Task) : PV := .agg x.Pc
abbrev _root_.Go.Sh.hold_Heap.Pc (x : hold_Heap) : List PV := [.L slab_Cell_store_Obj.Pv x.S.S.Cells, .I x.S.S.Last, .I x.S.Serial, .L iF x.Roots, .L weak_Cell.Pv x.Cells, .L hash_Place.Pv x.T, .L task_Task.Pv x.Q.L, .I x.Q.Cap]
abbrev _root_.Go.Sh.hold_Heap.Pv (x : hold_Heap) : PV := .agg x.Pc
abbrev _root_.Go.Sh.r06_Obj.Pc (x : r06_Obj) : List PV := [.I x.Serial, .I x.Strong, .I x.Weak, .I x.Prog, .bool x.Started, .L iF x.Fields]
abbrev _root_.Go.Sh.r06_Obj.Pv (x : r06_Obj) : PV := .agg x.Pc
abbrev _root_.Go.Sh.r06_Cell.Pc (x : r06_Cell) : List PV := [.I x.State, .I x.Gen, .I x.Val.Serial, .I x.Val.Strong, .I x.Val.Weak, .I x.Val.Prog, .bool x.Val.Started, .L iF x.Val.Fields]
abbrev _root_.Go.Sh.r06_Cell.Pv (x : r06_Cell) : PV := .agg x.Pc
abbrev _root_.Go.Sh.r09_Cell.Pc (x : r09_Cell) : List PV := [.I x.Target, .bool x.Intact, .I x.Call]
abbrev _root_.Go.Sh.r09_Cell.Pv (x : r09_Cell) : PV := .agg x.Pc
abbrev _root_.Go.Sh.r10_Place.Pc (x : r10_Place) : List PV := [.I x.State, .I x.Key, .I x.Val]
abbrev _root_.Go.Sh.r10_Place.Pv (x : r10_Place) : PV := .agg x.Pc
abbrev _root_.Go.Sh.r14_Task.Pc (x : r14_Task) : List PV := [.I x.Kind, .I x.At, .I x.Prog]
abbrev _root_.Go.Sh.r14_Task.Pv (x : r14_Task) : PV := .agg x.Pc
abbrev _root_.Go.Sh.r06_Store.Pc (x : r06_Store) : List PV := [.L r06_Cell.Pv x.Cells, .I x.Last, .I x.Serial]
abbrev _root_.Go.Sh.r06_Store.Pv (x : r06_Store) : PV := .agg x.Pc
abbrev _root_.Go.Sh.r14_Queue.Pc (x : r14_Queue) : List PV := [.L r14_Task.Pv x.L, .I x.Cap]
abbrev _root_.Go.Sh.r14_Queue.Pv (x : r14_Queue) : PV := .agg x.Pc
abbrev _root_.Go.Sh.r15_Heap.Pc (x : r15_Heap) : List PV := [.L r06_Cell.Pv x.S.Cells, .I x.S.Last, .I x.S.Serial, .L iF x.Roots, .L r09_Cell.Pv x.Cells, .L r10_Place.Pv x.T, .L r14_Task.Pv x.Q.L, .I x.Q.Cap]
abbrev _root_.Go.Sh.r15_Heap.Pv (x : r15_Heap) : PV := .agg x.Pc
abbrev _root_.Go.Sh.r03_Cell.Pc (x : r03_Cell) : List PV := [.I x.State, .I x.Gen, .I x.Val]
abbrev _root_.Go.Sh.r03_Cell.Pv (x : r03_Cell) : PV := .agg x.Pc
abbrev _root_.Go.Sh.r03_Slab.Pc (x : r03_Slab) : List PV := [.L r03_Cell.Pv x.Cells, .I x.Last]
abbrev _root_.Go.Sh.r03_Slab.Pv (x : r03_Slab) : PV := .agg x.Pc
abbrev _root_.Go.Sh.r11_Pair.Pc (x : r11_Pair) : List PV := [.I x.Key, .I x.Val]
abbrev _root_.Go.Sh.r11_Pair.Pv (x : r11_Pair) : PV := .agg x.Pc
abbrev _root_.Go.Sh.hold_fieldPlace.Pc (x : hold_fieldPlace) : List PV := [.I x.h, .I x.k, .I x.v]
abbrev _root_.Go.Sh.hold_fieldPlace.Pv (x : hold_fieldPlace) : PV := .agg x.Pc
abbrev _root_.Go.Sh.store_rule.Pc (x : store_rule) : List PV := [fvE x.kept]
abbrev _root_.Go.Sh.store_rule.Pv (x : store_rule) : PV := .agg x.Pc
abbrev _root_.Go.Sh.ephem_Pair.Pc (x : ephem_Pair) : List PV := [.I x.Key, .I x.Val]
abbrev _root_.Go.Sh.ephem_Pair.Pv (x : ephem_Pair) : PV := .agg x.Pc
namespace Ty
theorem a3 : tagg Tryz.prog 3 = some false := by kernel_rfl
theorem a4 : tagg Tryz.prog 4 = some false := by kernel_rfl
theorem a22 : tagg Tryz.prog 22 = some false := by kernel_rfl
theorem a24 : tagg Tryz.prog 24 = some true := by kernel_rfl
theorem a26 : tagg Tryz.prog 26 = some true := by kernel_rfl
theorem a27 : tagg Tryz.prog 27 = some false := by kernel_rfl
theorem a28 : tagg Tryz.prog 28 = some false := by kernel_rfl
theorem a29 : tagg Tryz.prog 29 = some false := by kernel_rfl
theorem a30 : tagg Tryz.prog 30 = some false := by kernel_rfl
theorem a32 : tagg Tryz.prog 32 = some true := by kernel_rfl
theorem a34 : tagg Tryz.prog 34 = some true := by kernel_rfl
theorem a37 : tagg Tryz.prog 37 = some false := by kernel_rfl
theorem a40 : tagg Tryz.prog 40 = some false := by kernel_rfl
theorem a42 : tagg Tryz.prog 42 = some true := by kernel_rfl
theorem a43 : tagg Tryz.prog 43 = some false := by kernel_rfl
theorem a44 : tagg Tryz.prog 44 = some false := by kernel_rfl
theorem a45 : tagg Tryz.prog 45 = some false := by kernel_rfl
theorem a47 : tagg Tryz.prog 47 = some true := by kernel_rfl
theorem a49 : tagg Tryz.prog 49 = some true := by kernel_rfl
theorem a63 : tagg Tryz.prog 63 = some true := by kernel_rfl
theorem a82 : tagg Tryz.prog 82 = some true := by kernel_rfl
theorem a91 : tagg Tryz.prog 91 = some true := by kernel_rfl
theorem a134 : tagg Tryz.prog 134 = some false := by kernel_rfl
theorem a136 : tagg Tryz.prog 136 = some true := by kernel_rfl
theorem a183 : tagg Tryz.prog 183 = some true := by kernel_rfl
theorem a303 : tagg Tryz.prog 303 = some true := by kernel_rfl
theorem b3 : tbytes Tryz.prog 3 = some 8 := by kernel_rfl
theorem b82 : tbytes Tryz.prog 82 = some 24 := by kernel_rfl
theorem b84 : tbytes Tryz.prog 84 = some 24 := by kernel_rfl
theorem b139 : tbytes Tryz.prog 139 = some 80 := by kernel_rfl
theorem b141 : tbytes Tryz.prog 141 = some 80 := by kernel_rfl
theorem b151 : tbytes Tryz.prog 151 = some 24 := by kernel_rfl
theorem b160 : tbytes Tryz.prog 160 = some 24 := by kernel_rfl
theorem b182 : tbytes Tryz.prog 182 = some 24 := by kernel_rfl
theorem b183 : tbytes Tryz.prog 183 = some 24 := by kernel_rfl
theorem b215 : tbytes Tryz.prog 215 = some 16 := by kernel_rfl
theorem b220 : tbytes Tryz.prog 220 = some 24 := by kernel_rfl
theorem b238 : tbytes Tryz.prog 238 = some 16 := by kernel_rfl
theorem e22 : telem Tryz.prog 22 = some 141 := by kernel_rfl
theorem e27 : telem Tryz.prog 27 = some 3 := by kernel_rfl
theorem e28 : telem Tryz.prog 28 = some 84 := by kernel_rfl
theorem e29 : telem Tryz.prog 29 = some 183 := by kernel_rfl
theorem e30 : telem Tryz.prog 30 = some 82 := by kernel_rfl
theorem e40 : telem Tryz.prog 40 = some 139 := by kernel_rfl
theorem e43 : telem Tryz.prog 43 = some 160 := by kernel_rfl
theorem e44 : telem Tryz.prog 44 = some 182 := by kernel_rfl
theorem e45 : telem Tryz.prog 45 = some 151 := by kernel_rfl
theorem e134 : telem Tryz.prog 134 = some 220 := by kernel_rfl
theorem e178 : telem Tryz.prog 178 = some 35 := by kernel_rfl
theorem e212 : telem Tryz.prog 212 = some 215 := by kernel_rfl
theorem e239 : telem Tryz.prog 239 = some 238 := by kernel_rfl
theorem e277 : telem Tryz.prog 277 = some 281 := by kernel_rfl
theorem f24_0 : foff Tryz.prog 24 0 = some (0, 22) := by kernel_rfl
theorem f24_1 : foff Tryz.prog 24 1 = some (1, 3) := by kernel_rfl
theorem f26_0 : foff Tryz.prog 26 0 = some (0, 24) := by kernel_rfl
theorem f26_1 : foff Tryz.prog 26 1 = some (2, 3) := by kernel_rfl
theorem f32_0 : foff Tryz.prog 32 0 = some (0, 30) := by kernel_rfl
theorem f32_1 : foff Tryz.prog 32 1 = some (1, 3) := by kernel_rfl
theorem f34_0 : foff Tryz.prog 34 0 = some (0, 26) := by kernel_rfl
theorem f34_1 : foff Tryz.prog 34 1 = some (3, 27) := by kernel_rfl
theorem f34_2 : foff Tryz.prog 34 2 = some (4, 28) := by kernel_rfl
theorem f34_3 : foff Tryz.prog 34 3 = some (5, 29) := by kernel_rfl
theorem f34_4 : foff Tryz.prog 34 4 = some (6, 32) := by kernel_rfl
theorem f42_0 : foff Tryz.prog 42 0 = some (0, 40) := by kernel_rfl
theorem f42_2 : foff Tryz.prog 42 2 = some (2, 3) := by kernel_rfl
theorem f47_0 : foff Tryz.prog 47 0 = some (0, 45) := by kernel_rfl
theorem f49_0 : foff Tryz.prog 49 0 = some (0, 42) := by kernel_rfl
theorem f49_1 : foff Tryz.prog 49 1 = some (3, 27) := by kernel_rfl
theorem f49_2 : foff Tryz.prog 49 2 = some (4, 43) := by kernel_rfl
theorem f49_3 : foff Tryz.prog 49 3 = some (5, 44) := by kernel_rfl
theorem f49_4 : foff Tryz.prog 49 4 = some (6, 47) := by kernel_rfl
theorem f63_0 : foff Tryz.prog 63 0 = some (0, 3) := by kernel_rfl
theorem f63_1 : foff Tryz.prog 63 1 = some (1, 3) := by kernel_rfl
theorem f63_2 : foff Tryz.prog 63 2 = some (2, 3) := by kernel_rfl
theorem f63_3 : foff Tryz.prog 63 3 = some (3, 3) := by kernel_rfl
theorem f63_4 : foff Tryz.prog 63 4 = some (4, 4) := by kernel_rfl
theorem f63_5 : foff Tryz.prog 63 5 = some (5, 27) := by kernel_rfl
theorem f82_0 : foff Tryz.prog 82 0 = some (0, 3) := by kernel_rfl
theorem f82_1 : foff Tryz.prog 82 1 = some (1, 3) := by kernel_rfl
theorem f82_2 : foff Tryz.prog 82 2 = some (2, 3) := by kernel_rfl
theorem f84_0 : foff Tryz.prog 84 0 = some (0, 3) := by kernel_rfl
theorem f84_1 : foff Tryz.prog 84 1 = some (1, 4) := by kernel_rfl
theorem f84_2 : foff Tryz.prog 84 2 = some (2, 3) := by kernel_rfl
theorem f91_0 : foff Tryz.prog 91 0 = some (0, 3) := by kernel_rfl
theorem f91_1 : foff Tryz.prog 91 1 = some (1, 3) := by kernel_rfl
theorem f91_2 : foff Tryz.prog 91 2 = some (2, 3) := by kernel_rfl
theorem f91_3 : foff Tryz.prog 91 3 = some (3, 3) := by kernel_rfl
theorem f91_4 : foff Tryz.prog 91 4 = some (4, 4) := by kernel_rfl
theorem f91_5 : foff Tryz.prog 91 5 = some (5, 27) := by kernel_rfl
theorem f136_0 : foff Tryz.prog 136 0 = some (0, 134) := by kernel_rfl
theorem f136_1 : foff Tryz.prog 136 1 = some (1, 3) := by kernel_rfl
theorem f139_0 : foff Tryz.prog 139 0 = some (0, 3) := by kernel_rfl
theorem f139_2 : foff Tryz.prog 139 2 = some (2, 63) := by kernel_rfl
theorem f141_0 : foff Tryz.prog 141 0 = some (0, 3) := by kernel_rfl
theorem f141_1 : foff Tryz.prog 141 1 = some (1, 3) := by kernel_rfl
theorem f141_2 : foff Tryz.prog 141 2 = some (2, 91) := by kernel_rfl
theorem f151_0 : foff Tryz.prog 151 0 = some (0, 3) := by kernel_rfl
theorem f151_1 : foff Tryz.prog 151 1 = some (1, 3) := by kernel_rfl
theorem f151_2 : foff Tryz.prog 151 2 = some (2, 3) := by kernel_rfl
theorem f160_0 : foff Tryz.prog 160 0 = some (0, 3) := by kernel_rfl
theorem f160_1 : foff Tryz.prog 160 1 = some (1, 4) := by kernel_rfl
theorem f160_2 : foff Tryz.prog 160 2 = some (2, 3) := by kernel_rfl
theorem f182_0 : foff Tryz.prog 182 0 = some (0, 3) := by kernel_rfl
theorem f182_1 : foff Tryz.prog 182 1 = some (1, 3) := by kernel_rfl
theorem f182_2 : foff Tryz.prog 182 2 = some (2, 3) := by kernel_rfl
theorem f183_0 : foff Tryz.prog 183 0 = some (0, 3) := by kernel_rfl
theorem f183_1 : foff Tryz.prog 183 1 = some (1, 3) := by kernel_rfl
theorem f215_1 : foff Tryz.prog 215 1 = some (1, 3) := by kernel_rfl
theorem f220_0 : foff Tryz.prog 220 0 = some (0, 3) := by kernel_rfl
theorem f220_1 : foff Tryz.prog 220 1 = some (1, 3) := by kernel_rfl
theorem f238_1 : foff Tryz.prog 238 1 = some (1, 3) := by kernel_rfl
theorem k72 : Callable Tryz.prog 72 := kC Tryz.func72 J
theorem k120 : Callable Tryz.prog 120 := kC Tryz.func120 J
theorem k142 : Callable Tryz.prog 142 := kC Tryz.func142 J
theorem k143 : Callable Tryz.prog 143 := kC Tryz.func143 J
theorem k207 : Callable Tryz.prog 207 := kC Tryz.func207 J
theorem k208 : Callable Tryz.prog 208 := kC Tryz.func208 J
theorem k217 : Callable Tryz.prog 217 := kC Tryz.func217 J
theorem k220 : Callable Tryz.prog 220 := kC Tryz.func220 J
theorem k239 : Callable Tryz.prog 239 := kC Tryz.func239 J
theorem k241 : Callable Tryz.prog 241 := kC Tryz.func241 J
theorem k265 : Callable Tryz.prog 265 := kC Tryz.func265 J
theorem k280 : Callable Tryz.prog 280 := kC Tryz.func280 J
theorem k287 : Callable Tryz.prog 287 := kC Tryz.func287 J
theorem mm175 : tmap Tryz.prog 175 = some (3, 3) := by kernel_rfl
theorem mm222 : tmap Tryz.prog 222 = some (3, 4) := by kernel_rfl
theorem mm242 : tmap Tryz.prog 242 = some (82, 4) := by kernel_rfl
theorem p24 : bplaces Tryz.prog 24 = some (fun i => (#[(0, 1), (1, 1)] : Array (Nat × Nat))[i]?) := by kernel_rfl
theorem p26 : bplaces Tryz.prog 26 = some (fun i => (#[(0, 2), (2, 1)] : Array (Nat × Nat))[i]?) := by kernel_rfl
theorem p32 : bplaces Tryz.prog 32 = some (fun i => (#[(0, 1), (1, 1)] : Array (Nat × Nat))[i]?) := by kernel_rfl
theorem p34 : bplaces Tryz.prog 34 = some (fun i => (#[(0, 3), (3, 1), (4, 1), (5, 1), (6, 2)] : Array (Nat × Nat))[i]?) := by kernel_rfl
theorem p42 : bplaces Tryz.prog 42 = some (fun i => (#[(0, 1), (1, 1), (2, 1)] : Array (Nat × Nat))[i]?) := by kernel_rfl
theorem p47 : bplaces Tryz.prog 47 = some (fun i => (#[(0, 1), (1, 1)] : Array (Nat × Nat))[i]?) := by kernel_rfl
theorem p49 : bplaces Tryz.prog 49 = some (fun i => (#[(0, 3), (3, 1), (4, 1), (5, 1), (6, 2)] : Array (Nat × Nat))[i]?) := by kernel_rfl
theorem p63 : bplaces Tryz.prog 63 = some (fun i => (#[(0, 1), (1, 1), (2, 1), (3, 1), (4, 1), (5, 1)] : Array (Nat × Nat))[i]?) := by kernel_rfl
theorem p82 : bplaces Tryz.prog 82 = some (fun i => (#[(0, 1), (1, 1), (2, 1)] : Array (Nat × Nat))[i]?) := by kernel_rfl
theorem p84 : bplaces Tryz.prog 84 = some (fun i => (#[(0, 1), (1, 1), (2, 1)] : Array (Nat × Nat))[i]?) := by kernel_rfl
theorem p91 : bplaces Tryz.prog 91 = some (fun i => (#[(0, 1), (1, 1), (2, 1), (3, 1), (4, 1), (5, 1)] : Array (Nat × Nat))[i]?) := by kernel_rfl
theorem p103 : bplaces Tryz.prog 103 = some (fun i => (#[(0, 1), (1, 1), (2, 1)] : Array (Nat × Nat))[i]?) := by kernel_rfl
theorem p136 : bplaces Tryz.prog 136 = some (fun i => (#[(0, 1), (1, 1)] : Array (Nat × Nat))[i]?) := by kernel_rfl
theorem p139 : bplaces Tryz.prog 139 = some (fun i => (#[(0, 1), (1, 1), (2, 6)] : Array (Nat × Nat))[i]?) := by kernel_rfl
theorem p141 : bplaces Tryz.prog 141 = some (fun i => (#[(0, 1), (1, 1), (2, 6)] : Array (Nat × Nat))[i]?) := by kernel_rfl
theorem p183 : bplaces Tryz.prog 183 = some (fun i => (#[(0, 1), (1, 1), (2, 1)] : Array (Nat × Nat))[i]?) := by kernel_rfl
theorem p215 : bplaces Tryz.prog 215 = some (fun i => (#[(0, 1), (1, 1)] : Array (Nat × Nat))[i]?) := by kernel_rfl
theorem p220 : bplaces Tryz.prog 220 = some (fun i => (#[(0, 1), (1, 1), (2, 1)] : Array (Nat × Nat))[i]?) := by kernel_rfl
theorem p238 : bplaces Tryz.prog 238 = some (fun i => (#[(0, 1), (1, 1)] : Array (Nat × Nat))[i]?) := by kernel_rfl
theorem p252 : bplaces Tryz.prog 252 = some (fun i => (#[(0, 1)] : Array (Nat × Nat))[i]?) := by kernel_rfl
theorem p281 : bplaces Tryz.prog 281 = some (fun i => (#[(0, 1)] : Array (Nat × Nat))[i]?) := by kernel_rfl
theorem p303 : bplaces Tryz.prog 303 = some (fun i => some (i * 1, 1)) := by kernel_rfl
theorem q82 : fkinds Tryz.prog 82 = some [1, 1, 1] := by kernel_rfl
theorem q183 : fkinds Tryz.prog 183 = some [1, 1, 1] := by kernel_rfl
theorem q303 : fkinds Tryz.prog 303 = some [1, 1, 1, 1] := by kernel_rfl
theorem s3 : tsize Tryz.prog 3 = some 1 := by kernel_rfl
theorem s4 : tsize Tryz.prog 4 = some 1 := by kernel_rfl
theorem s24 : tsize Tryz.prog 24 = some 2 := by kernel_rfl
theorem s26 : tsize Tryz.prog 26 = some 3 := by kernel_rfl
theorem s27 : tsize Tryz.prog 27 = some 1 := by kernel_rfl
theorem s30 : tsize Tryz.prog 30 = some 1 := by kernel_rfl
theorem s32 : tsize Tryz.prog 32 = some 2 := by kernel_rfl
theorem s34 : tsize Tryz.prog 34 = some 8 := by kernel_rfl
theorem s35 : tsize Tryz.prog 35 = some 1 := by kernel_rfl
theorem s42 : tsize Tryz.prog 42 = some 3 := by kernel_rfl
theorem s47 : tsize Tryz.prog 47 = some 2 := by kernel_rfl
theorem s49 : tsize Tryz.prog 49 = some 8 := by kernel_rfl
theorem s63 : tsize Tryz.prog 63 = some 6 := by kernel_rfl
theorem s82 : tsize Tryz.prog 82 = some 3 := by kernel_rfl
theorem s84 : tsize Tryz.prog 84 = some 3 := by kernel_rfl
theorem s91 : tsize Tryz.prog 91 = some 6 := by kernel_rfl
theorem s134 : tsize Tryz.prog 134 = some 1 := by kernel_rfl
theorem s136 : tsize Tryz.prog 136 = some 2 := by kernel_rfl
theorem s139 : tsize Tryz.prog 139 = some 8 := by kernel_rfl
theorem s141 : tsize Tryz.prog 141 = some 8 := by kernel_rfl
theorem s151 : tsize Tryz.prog 151 = some 3 := by kernel_rfl
theorem s160 : tsize Tryz.prog 160 = some 3 := by kernel_rfl
theorem s182 : tsize Tryz.prog 182 = some 3 := by kernel_rfl
theorem s183 : tsize Tryz.prog 183 = some 3 := by kernel_rfl
theorem s215 : tsize Tryz.prog 215 = some 2 := by kernel_rfl
theorem s220 : tsize Tryz.prog 220 = some 3 := by kernel_rfl
theorem s238 : tsize Tryz.prog 238 = some 2 := by kernel_rfl
theorem s281 : tsize Tryz.prog 281 = some 1 := by kernel_rfl
theorem s303 : tsize Tryz.prog 303 = some 4 := by kernel_rfl
theorem u3 : Tryz.prog.underlying 3 = some (.int .i64) := by kernel_rfl
theorem u4 : Tryz.prog.underlying 4 = some (.bool) := by kernel_rfl
theorem z3 : tzero Tryz.prog 3 = some ((.I 0)) := by kernel_rfl
theorem z4 : tzero Tryz.prog 4 = some ((.bool false)) := by kernel_rfl
theorem z24 : tzero Tryz.prog 24 = some ((.agg #[(.slice none 0 0), (.I 0)])) := by kernel_rfl
theorem z26 : tzero Tryz.prog 26 = some ((.agg #[(.slice none 0 0), (.I 0), (.I 0)])) := by kernel_rfl
theorem z32 : tzero Tryz.prog 32 = some ((.agg #[(.slice none 0 0), (.I 0)])) := by kernel_rfl
theorem z34 : tzero Tryz.prog 34 = some ((.agg #[(.slice none 0 0), (.I 0), (.I 0), (.slice none 0 0), (.slice none 0 0), (.slice none 0 0), (.slice none 0 0), (.I 0)])) := by kernel_rfl
theorem z35 : tzero Tryz.prog 35 = some (.nilFunc) := by kernel_rfl
theorem z42 : tzero Tryz.prog 42 = some ((.agg #[(.slice none 0 0), (.I 0), (.I 0)])) := by kernel_rfl
theorem z47 : tzero Tryz.prog 47 = some ((.agg #[(.slice none 0 0), (.I 0)])) := by kernel_rfl
theorem z49 : tzero Tryz.prog 49 = some ((.agg #[(.slice none 0 0), (.I 0), (.I 0), (.slice none 0 0), (.slice none 0 0), (.slice none 0 0), (.slice none 0 0), (.I 0)])) := by kernel_rfl
theorem z63 : tzero Tryz.prog 63 = some ((.agg #[(.I 0), (.I 0), (.I 0), (.I 0), (.bool false), (.slice none 0 0)])) := by kernel_rfl
theorem z82 : tzero Tryz.prog 82 = some ((.agg #[(.I 0), (.I 0), (.I 0)])) := by kernel_rfl
theorem z84 : tzero Tryz.prog 84 = some ((.agg #[(.I 0), (.bool false), (.I 0)])) := by kernel_rfl
theorem z91 : tzero Tryz.prog 91 = some ((.agg #[(.I 0), (.I 0), (.I 0), (.I 0), (.bool false), (.slice none 0 0)])) := by kernel_rfl
theorem z103 : tzero Tryz.prog 103 = some ((.agg #[(.I 0), (.I 0), (.I 0)])) := by kernel_rfl
theorem z136 : tzero Tryz.prog 136 = some ((.agg #[(.slice none 0 0), (.I 0)])) := by kernel_rfl
theorem z139 : tzero Tryz.prog 139 = some ((.agg #[(.I 0), (.I 0), (.I 0), (.I 0), (.I 0), (.I 0), (.bool false), (.slice none 0 0)])) := by kernel_rfl
theorem z141 : tzero Tryz.prog 141 = some ((.agg #[(.I 0), (.I 0), (.I 0), (.I 0), (.I 0), (.I 0), (.bool false), (.slice none 0 0)])) := by kernel_rfl
theorem z151 : tzero Tryz.prog 151 = some ((.agg #[(.I 0), (.I 0), (.I 0)])) := by kernel_rfl
theorem z160 : tzero Tryz.prog 160 = some ((.agg #[(.I 0), (.bool false), (.I 0)])) := by kernel_rfl
theorem z182 : tzero Tryz.prog 182 = some ((.agg #[(.I 0), (.I 0), (.I 0)])) := by kernel_rfl
theorem z183 : tzero Tryz.prog 183 = some ((.agg #[(.I 0), (.I 0), (.I 0)])) := by kernel_rfl
theorem z215 : tzero Tryz.prog 215 = some ((.agg #[(.I 0), (.I 0)])) := by kernel_rfl
theorem z220 : tzero Tryz.prog 220 = some ((.agg #[(.I 0), (.I 0), (.I 0)])) := by kernel_rfl
theorem z238 : tzero Tryz.prog 238 = some ((.agg #[(.I 0), (.I 0)])) := by kernel_rfl
theorem z252 : tzero Tryz.prog 252 = some ((.agg #[.nilFunc])) := by kernel_rfl
theorem z281 : tzero Tryz.prog 281 = some ((.agg #[.nilFunc])) := by kernel_rfl
theorem z303 : tzero Tryz.prog 303 = some ((.agg #[(.I 0), (.I 0), (.I 0), (.I 0)])) := by kernel_rfl
theorem mix : Tryz.prog.follows .mixedOrders = true := by kernel_rfl
end Ty
def tb : TB := ⟨[((24, 0), (0, 22)), ((24, 1), (1, 3)), ((26, 0), (0, 24)), ((26, 1), (2, 3)), ((32, 0), (0, 30)), ((32, 1), (1, 3)), ((34, 0), (0, 26)), ((34, 1), (3, 27)), ((34, 2), (4, 28)), ((34, 3), (5, 29)), ((34, 4), (6, 32)), ((42, 0), (0, 40)), ((42, 1), (1, 3)), ((47, 0), (0, 45)), ((47, 1), (1, 3)), ((49, 0), (0, 42)), ((49, 1), (3, 27)), ((49, 2), (4, 43)), ((49, 3), (5, 44)), ((49, 4), (6, 47)), ((63, 0), (0, 3)), ((63, 1), (1, 3)), ((63, 2), (2, 3)), ((63, 4), (4, 4)), ((63, 5), (5, 27)), ((82, 0), (0, 3)), ((82, 1), (1, 3)), ((84, 0), (0, 3)), ((84, 1), (1, 4)), ((84, 2), (2, 3)), ((91, 0), (0, 3)), ((91, 1), (1, 3)), ((91, 2), (2, 3)), ((91, 3), (3, 3)), ((91, 4), (4, 4)), ((91, 5), (5, 27)), ((103, 0), (0, 3)), ((103, 1), (1, 3)), ((103, 2), (2, 3)), ((136, 0), (0, 134)), ((139, 0), (0, 3)), ((139, 1), (1, 3)), ((139, 2), (2, 63)), ((141, 0), (0, 3)), ((141, 1), (1, 3)), ((141, 2), (2, 91)), ((151, 0), (0, 3)), ((151, 1), (1, 3)), ((160, 0), (0, 3)), ((160, 2), (2, 3)), ((182, 0), (0, 3)), ((182, 1), (1, 3)), ((182, 2), (2, 3)), ((183, 0), (0, 3)), ((183, 1), (1, 3)), ((183, 2), (2, 3)), ((215, 0), (0, 3)), ((215, 1), (1, 3)), ((220, 0), (0, 3)), ((220, 1), (1, 3)), ((220, 2), (2, 3)), ((238, 0), (0, 3)), ((252, 0), (0, 250)), ((281, 0), (0, 279))], [(3, false), (4, false), (22, false), (24, true), (26, true), (27, false), (28, false), (29, false), (30, false), (32, true), (34, true), (35, false), (40, false), (42, true), (43, false), (44, false), (45, false), (47, true), (49, true), (63, true), (82, true), (84, true), (91, true), (134, false), (136, true), (139, true), (141, true), (151, true), (160, true), (175, false), (182, true), (183, true), (220, true), (238, true), (239, false), (241, false), (242, false), (250, false), (252, true), (279, false), (281, true)], [(3, 1), (4, 1), (22, 1), (24, 2), (26, 3), (27, 1), (28, 1), (29, 1), (32, 2), (34, 8), (37, 1), (42, 3), (47, 2), (49, 8), (63, 6), (82, 3), (84, 3), (91, 6), (136, 2), (139, 8), (141, 8), (151, 3), (160, 3), (175, 1), (182, 3), (183, 3), (220, 3), (238, 2), (239, 1), (242, 1), (252, 1), (281, 1), (303, 4)], [(3, .I 0), (4, .bool false), (24, .agg [.lst true (List.map slab_Cell_store_Obj.Pv []), .I 0]), (26, .agg [.lst true (List.map slab_Cell_store_Obj.Pv []), .I 0, .I 0]), (27, .lst true (List.map iF [])), (32, .agg [.lst true (List.map task_Task.Pv []), .I 0]), (34, .agg [.lst true (List.map slab_Cell_store_Obj.Pv []), .I 0, .I 0, .lst true (List.map iF []), .lst true (List.map weak_Cell.Pv []), .lst true (List.map hash_Place.Pv []), .lst true (List.map task_Task.Pv []), .I 0]), (37, .I 0), (42, .agg [.lst true (List.map r06_Cell.Pv []), .I 0, .I 0]), (47, .agg [.lst true (List.map r14_Task.Pv []), .I 0]), (49, .agg [.lst true (List.map r06_Cell.Pv []), .I 0, .I 0, .lst true (List.map iF []), .lst true (List.map r09_Cell.Pv []), .lst true (List.map r10_Place.Pv []), .lst true (List.map r14_Task.Pv []), .I 0]), (63, .agg [.I 0, .I 0, .I 0, .I 0, .bool false, .lst true (List.map iF [])]), (82, .agg [.I 0, .I 0, .I 0]), (84, .agg [.I 0, .bool false, .I 0]), (91, .agg [.I 0, .I 0, .I 0, .I 0, .bool false, .lst true (List.map iF [])]), (136, .agg [.lst true (List.map r03_Cell.Pv []), .I 0]), (139, .agg [.I 0, .I 0, .I 0, .I 0, .I 0, .I 0, .bool false, .lst true (List.map iF [])]), (141, .agg [.I 0, .I 0, .I 0, .I 0, .I 0, .I 0, .bool false, .lst true (List.map iF [])]), (151, .agg [.I 0, .I 0, .I 0]), (160, .agg [.I 0, .bool false, .I 0]), (175, .abs NilMap), (182, .agg [.I 0, .I 0, .I 0]), (183, .agg [.I 0, .I 0, .I 0]), (220, .agg [.I 0, .I 0, .I 0]), (238, .agg [.I 0, .I 0]), (239, .lst true (List.map ephem_Pair.Pv [])), (242, .abs NilMap), (252, .agg [.nilfn]), (281, .agg [.nilfn]), (303, .agg [.I 0, .I 0, .I 0, .I 0])]⟩
theorem Tb : TB.Ok Tryz.prog tb := ⟨by kernel_rfl, by kernel_rfl, by kernel_rfl, by kernel_rfl⟩
section
variable {X : Ctx} {ops : Array Oper} {K : Ctx → St → Prop} {i n : Nat} {l l' : List Oper} {env env' : Nat → PV} {σ σ' : Nat → Option Row} {Q : PX → Ctx → St → Prop} {y : Code} {KD : St → Prop} {bar : List Nat}
theorem S1 (n : Nat) (h : run tb n l env σ = some (l', env', σ')) (k : Sq X ops (i + n) l' K ⟨env', σ'⟩) (hb : TB.Ok X.P tb := by exact Tb) : Sq X ops i l K ⟨env, σ⟩ := seg hb n h k
theorem S2 (n : Nat) (h : run tb n l env σ = some ([], env', σ')) (k : K X ⟨env', σ'⟩) (hb : TB.Ok X.P tb := by exact Tb) : Sq X ops i l K ⟨env, σ⟩ := seg hb n h (yN k)
theorem S3 {id : Nat} (n : Nat) (h : run tb n l env σ = some (l', env', σ')) (k : Sq X l.toArray (0 + n) l' (fun X' s => Pwp X' y Q s) ⟨env', σ'⟩) (hd : dstOK X.N l.toArray = true := by kernel_rfl) (hb : TB.Ok X.P tb := by exact Tb) : Pwp X (.seq (.region id l.toArray false) y) Q ⟨env, σ⟩ := sr hd (seg hb n h k)
theorem S4 {id : Nat} (n : Nat) (h : run tb n l env σ = some ([], env', σ')) (k : Pwp X y Q ⟨env', σ'⟩) (hd : dstOK X.N l.toArray = true := by kernel_rfl) (hb : TB.Ok X.P tb := by exact Tb) : Pwp X (.seq (.region id l.toArray false) y) Q ⟨env, σ⟩ := sr hd (seg hb n h (yN k))
theorem S5 {id : Nat} (n : Nat) (h : run tb n l env σ = some (l', env', σ')) (k : Sq X l.toArray (0 + n) l' (Q .normal) ⟨env', σ'⟩) (hd : dstOK X.N l.toArray = true := by kernel_rfl) (hb : TB.Ok X.P tb := by exact Tb) : Pwp X (.region id l.toArray false) Q ⟨env, σ⟩ := sr1 hd (seg hb n h k)
theorem S6 {id : Nat} (n : Nat) (h : run tb n l env σ = some ([], env', σ')) (k : Q .normal X ⟨env', σ'⟩) (hd : dstOK X.N l.toArray = true := by kernel_rfl) (hb : TB.Ok X.P tb := by exact Tb) : Pwp X (.region id l.toArray false) Q ⟨env, σ⟩ := sr1 hd (seg hb n h (yN k))
theorem S7 (n : Nat) (h : runD tb bar n i l env σ = some (l', env', σ')) (k : Ex X.P ops bar true (i + n) l' ⟨env', σ'⟩ KD) (hb : TB.Ok X.P tb := by exact Tb) : Ex X.P ops bar true i l ⟨env, σ⟩ KD := dG hb n h k
theorem S8 (n : Nat) (h : runD tb bar n i l env σ = some ([], env', σ')) (k : KD ⟨env', σ'⟩) (hb : TB.Ok X.P tb := by exact Tb) : Ex X.P ops bar true i l ⟨env, σ⟩ KD := dG hb n h k
end
theorem sortAt : SortAt Tryz.prog (Tryz.sortF_ren.f 6) := sortAt_of Tryz.sortF
theorem w16_small_ok {a0} : PO Tryz.prog 115 [store_Store.Pv a0] (w16_small a0) fun r => .bool r := by
 refine pO Tryz.func115 fun r h _ _ => ?_
 refine S4 2 J ?_
 refine jq h (fun _ => St.of [(1, .ptr 1 0 0)] [(1, vR (store_Store.Pv a0) 3)]) (fun q6 h => ?_) fun κ5 h => ?_
 ·refine S3 3 J ?_
  refine nL J Ty.e22 <| S2 2 J <| pw_ret ?_
  cases h
  exact f1
 ·refine S4 1 J ?_
  refine pw_block <| lq h (fun s8 => St.of [(1, .ptr 1 0 0), (3, .I s8)] [(1, vR (store_Store.Pv a0) 3)]) W fun s8 x9 h hx8 => pw_seq <| S3 4 J <| nL J Ty.e22 <| S1 2 J <| y_if J (fun hg => mI J) <| y_if J (fun hg => o_cmp (ct hg) J J) <| y0 J (pk_and J J J (fun q => eqT q)) <| yN ?_
  refine cN h (fun hc h => ?_) fun hc h => ?_
  ·refine pw_skip ?_
   refine pw_seq <| pw_block <| S3 4 J <| iL h J J Ty.e22 Ty.s141 fun v10 _ h => S1 3 J <| nL J Ty.e27 <| S2 1 J ?_
   refine cN h (fun hc h => ?_) fun hc h => ?_
   ·refine S4 1 J ?_
    refine pw_ret ?_
    have h := xL hx8 h
    cases h
    exact f1
   ·refine pw_skip ?_
    refine S6 3 J ?_
    exact eL h W
  ·refine pw_exit ?_
   refine thenQ_exit <| thenQ_exit <| blockQ_exit ?_
   have h := xL hx8 h
   exact eJ h W

theorem w16_few_ok {a0} : PO Tryz.prog 40 [hold_Heap.Pv a0] (w16_few a0) fun r => .bool r := by
 refine pO Tryz.func40 fun r h _ _ => ?_
 refine S4 2 J <| S3 2 J <| cA h w16_small_ok J J fun v1 _ h => S1 1 J <| y_if J (fun hg => oF J Ty.f34_1 J) <| y_if J (fun hg => oS (ct hg) J J Ty.a27 J) <| y_if J (fun hg => o_lnL (f := iF) (ct hg) Ty.e27) <| y_if J (fun hg => o_cmp (ct hg) J J) <| y0 J (pk_and J J J (fun q => eqT q)) <| S1 1 J <| y_if J (fun hg => oF J Ty.f34_2 J) <| y_if J (fun hg => oS (ct hg) J J Ty.a28 J) <| y_if J (fun hg => o_lnL (f := weak_Cell.Pv) (ct hg) Ty.e28) <| y_if J (fun hg => o_cmp (ct hg) J J) <| y0 J (pk_and J J J (fun q => eqT q)) <| S1 1 J <| y_if J (fun hg => oF J Ty.f34_3 J) <| y_if J (fun hg => oS (ct hg) J J Ty.a29 J) <| y_if J (fun hg => o_lnL (f := hash_Place.Pv) (ct hg) Ty.e29) <| y_if J (fun hg => o_cmp (ct hg) J J) <| y0 J (pk_and J J J (fun q => eqT q)) <| S1 1 J <| y_if J (fun hg => oF J Ty.f34_4 J) <| y_if J (fun hg => oF (ct hg) Ty.f32_0 J) <| y_if J (fun hg => oS (ct hg) J J Ty.a30 J) <| y_if J (fun hg => o_lnL (f := task_Task.Pv) (ct hg) Ty.e30) <| y_if J (fun hg => o_cmp (ct hg) J J) <| y0 J (pk_and J J J (fun q => eqT q)) <| S2 1 J <| pw_ret ?_
 cases h
 exact f1

theorem w16_obj_ok {a0} : PO Tryz.prog 131 [store_Obj.Pv a0] (w16_obj a0) fun r => r06_Obj.Pv r := by
 refine pO Tryz.func131 fun r h _ _ => ?_
 unfold w16_obj at h
 refine S4 2 J <| S3 12 J <| y0 J (o_build (cs := [.I a0.Serial, .I a0.Strong, .I a0.Weak, .I a0.Prog, .bool a0.Started, .L iF a0.Fields]) J Ty.p63 Ty.z63 J J J) <| S2 1 J <| pw_ret ?_
 cases h
 exact ⟨J, [_], ⟨oL J J J Ty.a63 Ty.s63 nl J, tr⟩, J, io⟩

theorem w16_its_ok {a0} : PO Tryz.prog 54 [store_Store.Pv a0] (w16_its a0) fun r => r06_Store.Pv r := by
 refine pO Tryz.func54 fun r h _ _ => ?_
 refine S4 2 J <| sR <| y0 J (o_nslice J Ty.e40 Ty.s139) <| S2 1 J ?_
 refine jq h (fun j10 => St.of [(1, .ptr 1 0 0), (2, .ptr 2 0 0), (3, .sl 910003)] [(910003, ⟨List.map r06_Cell.Pv j10, (List.map r06_Cell.Pv j10).length, true, 8, true⟩), (2, vR (.agg [.nl, .I 0, .I 0]) 3), (1, vR (store_Store.Pv a0) 3)]) (fun j10 h => ?_) fun κ9 h => ?_
 ·refine S3 6 J ?_
  refine y0 J (o_build (cs := [.sl 910003, .I a0.S.Last, .I a0.Serial]) J Ty.p42 Ty.z42 J J J) <| S2 1 J <| pw_ret ?_
  cases h
  exact ⟨J, [_], ⟨oL J J J Ty.a42 Ty.s42 nl J, tr⟩, J, io⟩
 ·refine S4 1 J ?_
  refine pw_block <| lq h (fun q => St.of [(1, .ptr 1 0 0), (2, .ptr 2 0 0), (3, .sl 910003), (4, .I q.1)] [(2, vR (.agg [.nl, .I 0, .I 0]) 3), (1, vR (store_Store.Pv a0) 3), (910003, ⟨List.map r06_Cell.Pv q.2, (List.map r06_Cell.Pv q.2).length, true, 8, true⟩)]) (Wk.trans (wk_nil (t := 3) (l := 920003) (z := 8) J J) (WP (fun l => if l = 910003 then 920003 else l))) fun q15 x14 h hx10 => ?_
  obtain ⟨s12, s13⟩ := q15
  refine pw_seq <| S3 4 J <| nL J Ty.e22 <| S2 1 J ?_
  refine cN h (fun hc h => ?_) fun hc h => ?_
  ·refine pw_skip ?_
   refine pw_seq <| pw_block <| S3 4 J <| iL h J J Ty.e22 Ty.s141 fun v16 _ h => S2 3 J <| pw_drw [] Ty.mix (by kernel_rfl) (by kernel_rfl) <| S7 7 J <| bnE h fun v17 hv12 h => d2f J (o_clF J w16_obj_ok J hv12) J <| d7 J (fun _ hN => o_build (cs := [.I v16.State, .I v16.Gen, .I v17.Serial, .I v17.Strong, .I v17.Weak, .I v17.Prog, .bool v17.Started, .L iF v17.Fields]) J Ty.p139 Ty.z139 J J J) J <| d1n J (o_bI (f := r06_Cell.Pv) (l := [(⟨v16.State, v16.Gen, v17⟩ : r06_Cell)]) J Ty.e40 Ty.s139 Ty.z139 J J nl J J) J <| bnE h fun v18 hv13 h => d3a J (o_apR (f := r06_Cell.Pv) hv13 J J J J J J (.inl ⟨_, J, J⟩) Ty.e40 Ty.s139 Ty.b139 Ty.z139 J (fun _ => J)) J J J J J <| S8 1 J <| S6 3 J ?_
   exact eL h (Wk.trans (wk_frz _ [31]) (WP (fun l => if l = 910003 then 31 else l)))
  ·refine pw_exit ?_
   refine thenQ_exit <| thenQ_exit <| blockQ_exit ?_
   have h := xL hx10 h
   exact eJ h (Wk.trans (wk_frz _ [910003]) W)

theorem w16_cells_ok {a0} : PO Tryz.prog 110 [.L weak_Cell.Pv a0] (w16_cells a0) fun r => .L r09_Cell.Pv r := by
 refine pO Tryz.func110 fun r h _ _ => ?_
 refine S4 1 J <| sR <| y0 J (o_nslice J Ty.e43 Ty.s160) <| S2 1 J ?_
 refine jq h (fun j9 => St.of [(3, .sl 910003)] [(910003, ⟨List.map r09_Cell.Pv j9, (List.map r09_Cell.Pv j9).length, true, 3, true⟩)]) (fun j9 h => ?_) fun κ8 h => ?_
 ·refine S4 2 J ?_
  refine pw_ret ?_
  cases h
  exact f1
 ·refine S4 1 J ?_
  refine pw_block <| lq h (fun q => St.of [(0, .L weak_Cell.Pv a0), (3, .sl 910003), (4, .I q.1)] [(910003, ⟨List.map r09_Cell.Pv q.2, (List.map r09_Cell.Pv q.2).length, true, 3, true⟩)]) (Wk.trans (wk_nil (t := 3) (l := 920003) (z := 3) J J) (WP (fun l => if l = 910003 then 920003 else l))) fun q14 x13 h hx9 => ?_
  obtain ⟨s11, s12⟩ := q14
  refine pw_seq <| S3 2 J <| nL J Ty.e28 <| S2 1 J ?_
  refine cN h (fun hc h => ?_) fun hc h => ?_
  ·refine pw_skip ?_
   refine pw_seq <| pw_block <| S5 3 J <| iL h J J Ty.e28 Ty.s84 fun v15 _ h => S1 1 J <| y0 J (o_bI (f := r09_Cell.Pv) (l := [(⟨v15.Target, v15.Intact, v15.Call⟩ : r09_Cell)]) J Ty.e43 Ty.s160 Ty.z160 J J nl J J) <| bnE h fun v16 hv11 h => y_app J (o_apR (f := r09_Cell.Pv) hv11 J J J J J J (.inl ⟨_, J, J⟩) Ty.e43 Ty.s160 Ty.b160 Ty.z160 J (fun _ => J)) J J J <| S2 1 J <| S6 3 J ?_
   exact eL h (Wk.trans (wk_frz _ [18]) (WP (fun l => if l = 910003 then 18 else l)))
  ·refine pw_exit ?_
   refine thenQ_exit <| thenQ_exit <| blockQ_exit ?_
   have h := xL hx9 h
   exact eJ h (Wk.trans (wk_frz _ [910003]) W)

theorem w16_tab_ok {a0} : PO Tryz.prog 111 [.L hash_Place.Pv a0] (w16_tab a0) fun r => .L r10_Place.Pv r := by
 refine pO Tryz.func111 fun r h _ _ => ?_
 refine S4 1 J <| sR <| y0 J (o_nslice J Ty.e44 Ty.s182) <| S2 1 J ?_
 refine jq h (fun j9 => St.of [(3, .sl 910003)] [(910003, ⟨List.map r10_Place.Pv j9, (List.map r10_Place.Pv j9).length, true, 3, true⟩)]) (fun j9 h => ?_) fun κ8 h => ?_
 ·refine S4 2 J ?_
  refine pw_ret ?_
  cases h
  exact f1
 ·refine S4 1 J ?_
  refine pw_block <| lq h (fun q => St.of [(0, .L hash_Place.Pv a0), (3, .sl 910003), (4, .I q.1)] [(910003, ⟨List.map r10_Place.Pv q.2, (List.map r10_Place.Pv q.2).length, true, 3, true⟩)]) (Wk.trans (wk_nil (t := 3) (l := 920003) (z := 3) J J) (WP (fun l => if l = 910003 then 920003 else l))) fun q14 x13 h hx9 => ?_
  obtain ⟨s11, s12⟩ := q14
  refine pw_seq <| S3 2 J <| nL J Ty.e29 <| S2 1 J ?_
  refine cN h (fun hc h => ?_) fun hc h => ?_
  ·refine pw_skip ?_
   refine pw_seq <| pw_block <| S5 3 J <| iL h J J Ty.e29 Ty.s183 fun v15 _ h => S1 1 J <| y0 J (o_bI (f := r10_Place.Pv) (l := [(⟨v15.State, v15.Key, v15.Val⟩ : r10_Place)]) J Ty.e44 Ty.s182 Ty.z182 J J nl J J) <| bnE h fun v16 hv11 h => y_app J (o_apR (f := r10_Place.Pv) hv11 J J J J J J (.inl ⟨_, J, J⟩) Ty.e44 Ty.s182 Ty.b182 Ty.z182 J (fun _ => J)) J J J <| S2 1 J <| S6 3 J ?_
   exact eL h (Wk.trans (wk_frz _ [18]) (WP (fun l => if l = 910003 then 18 else l)))
  ·refine pw_exit ?_
   refine thenQ_exit <| thenQ_exit <| blockQ_exit ?_
   have h := xL hx9 h
   exact eJ h (Wk.trans (wk_frz _ [910003]) W)

theorem w16_tasks_ok {a0} : PO Tryz.prog 49 [queue_Queue_task_Task.Pv a0] (w16_tasks a0) fun r => r14_Queue.Pv r := by
 refine pO Tryz.func49 fun r h _ _ => ?_
 refine S4 2 J <| sR <| y0 J (o_nslice J Ty.e45 Ty.s151) <| S2 1 J ?_
 refine jq h (fun j9 => St.of [(1, .ptr 1 0 0), (2, .ptr 2 0 0), (3, .sl 910003)] [(910003, ⟨List.map r14_Task.Pv j9, (List.map r14_Task.Pv j9).length, true, 3, true⟩), (2, vR (.agg [.nl, .I 0]) 2), (1, vR (queue_Queue_task_Task.Pv a0) 2)]) (fun j9 h => ?_) fun κ8 h => ?_
 ·refine S3 3 J ?_
  refine y0 J (o_build (cs := [.sl 910003, .I a0.Cap]) J Ty.p47 Ty.z47 J J J) <| S2 1 J <| pw_ret ?_
  cases h
  exact ⟨J, [_], ⟨oL J J J Ty.a47 Ty.s47 nl J, tr⟩, J, io⟩
 ·refine S4 1 J ?_
  refine pw_block <| lq h (fun q => St.of [(1, .ptr 1 0 0), (2, .ptr 2 0 0), (3, .sl 910003), (4, .I q.1)] [(2, vR (.agg [.nl, .I 0]) 2), (1, vR (queue_Queue_task_Task.Pv a0) 2), (910003, ⟨List.map r14_Task.Pv q.2, (List.map r14_Task.Pv q.2).length, true, 3, true⟩)]) (Wk.trans (wk_nil (t := 3) (l := 920003) (z := 3) J J) (WP (fun l => if l = 910003 then 920003 else l))) fun q14 x13 h hx9 => ?_
  obtain ⟨s11, s12⟩ := q14
  refine pw_seq <| S3 3 J <| nL J Ty.e30 <| S2 1 J ?_
  refine cN h (fun hc h => ?_) fun hc h => ?_
  ·refine pw_skip ?_
   refine pw_seq <| pw_block <| S5 4 J <| iL h J J Ty.e30 Ty.s82 fun v15 _ h => S1 1 J <| y0 J (o_bI (f := r14_Task.Pv) (l := [(⟨v15.Kind, v15.At, v15.Prog⟩ : r14_Task)]) J Ty.e45 Ty.s151 Ty.z151 J J nl J J) <| bnE h fun v16 hv11 h => y_app J (o_apR (f := r14_Task.Pv) hv11 J J J J J J (.inl ⟨_, J, J⟩) Ty.e45 Ty.s151 Ty.b151 Ty.z151 J (fun _ => J)) J J J <| S2 1 J <| S6 3 J ?_
   exact eL h (Wk.trans (wk_frz _ [20]) (WP (fun l => if l = 910003 then 20 else l)))
  ·refine pw_exit ?_
   refine thenQ_exit <| thenQ_exit <| blockQ_exit ?_
   have h := xL hx9 h
   exact eJ h (Wk.trans (wk_frz _ [910003]) W)

theorem w16_heap_ok {a0} : PO Tryz.prog 37 [hold_Heap.Pv a0] (w16_heap a0) fun r => r15_Heap.Pv r := by
 refine pO Tryz.func37 fun r h _ _ => ?_
 unfold w16_heap at h
 refine S4 2 J <| dr [] Ty.mix (by kernel_rfl) (by kernel_rfl) <| S7 2 J <| bnE h fun v1 hv1 h => d2f J (o_clF J w16_its_ok J hv1) J <| S7 4 J <| bnE h fun v2 hv2 h => d2f J (o_clF J w16_cells_ok J hv2) J <| S7 2 J <| bnE h fun v3 hv3 h => d2f J (o_clF J w16_tab_ok J hv3) J <| S7 2 J <| bnE h fun v4 hv4 h => d2f J (o_clF J w16_tasks_ok J hv4) J <| d7 J (fun _ hN => o_build (cs := [.L r06_Cell.Pv v1.Cells, .I v1.Last, .I v1.Serial, .L iF a0.Roots, .L r09_Cell.Pv v2, .L r10_Place.Pv v3, .L r14_Task.Pv v4.L, .I v4.Cap]) J Ty.p49 Ty.z49 J J J) J <| d_sto (x' := .agg [.L r06_Cell.Pv v1.Cells, .I v1.Last, .I v1.Serial, .L iF a0.Roots, .L r09_Cell.Pv v2, .L r10_Place.Pv v3, .L r14_Task.Pv v4.L, .I v4.Cap]) (cl' := true) J J (.inr J) Ty.s49 <| d_nil <| pw_ret ?_
 cases h
 exact ⟨J, [_], ⟨oL J J J Ty.a49 Ty.s49 nl J, tr⟩, J, io⟩

theorem r06_Plain_ok {a0} : PO Tryz.prog 107 [r06_Store.Pv a0] (r06_Plain a0) fun r => r03_Slab.Pv r := by
 refine pO Tryz.func107 fun r h _ _ => ?_
 refine S4 2 J <| S3 2 J <| y0 J (o_build (cs := [.nl, .I a0.Last]) J Ty.p136 Ty.z136 J J J) <| S1 1 J <| y_sto (x' := .agg [.nl, .I a0.Last]) (cl' := true) J J (.inl J) Ty.s136 <| yN ?_
 refine jq h (fun j9 => St.of [(2, .ptr 2 0 0), (3, .ptr 3 0 0)] [(3, vS (.agg [.sl 910503, .I a0.Last]) 2), (910503, ⟨List.map r03_Cell.Pv j9, (List.map r03_Cell.Pv j9).length, true, 3, true⟩), (2, vR (.agg [.nl, .I 0]) 2)]) (fun j9 h => ?_) fun κ8 h => ?_
 ·refine S4 2 J ?_
  refine pw_ret ?_
  cases h
  exact ⟨J, [_], ⟨oL J J J Ty.a136 Ty.s136 nl J, tr⟩, J, io⟩
 ·refine S4 1 J ?_
  refine pw_block <| lq h (fun q => St.of [(1, .ptr 1 0 0), (2, .ptr 2 0 0), (3, .ptr 3 0 0), (4, .I q.1)] [(3, vS (.agg [.sl 910503, .I a0.Last]) 2), (2, vR (.agg [.nl, .I 0]) 2), (1, vR (r06_Store.Pv a0) 3), (910503, ⟨List.map r03_Cell.Pv q.2, (List.map r03_Cell.Pv q.2).length, true, 3, true⟩)]) (Wk.trans (wk_nilC (l0 := 3) (j := 0) (l := 920503) (z := 3) J J J J J) (WP (fun l => if l = 910503 then 920503 else l))) fun q14 x13 h hx9 => ?_
  obtain ⟨s11, s12⟩ := q14
  refine pw_seq <| S3 3 J <| nL J Ty.e40 <| S2 1 J ?_
  refine cN h (fun hc h => ?_) fun hc h => ?_
  ·refine pw_skip ?_
   refine pw_seq <| pw_block <| pw_drw [] Ty.mix (by kernel_rfl) (by kernel_rfl) <| S7 5 J <| bnE h fun v15 hv10 h => d0 J (o_ixL (f := r06_Cell.Pv) (cs := r06_Cell.Pc v15) hv10 J J Ty.e40 Ty.s139 J J) J <| S7 5 J <| d0 J (o_ixL (f := r06_Cell.Pv) (cs := r06_Cell.Pc v15) hv10 J J Ty.e40 Ty.s139 J J) J <| S7 3 J <| d7 J (fun _ hN => o_build (cs := [.I v15.State, .I v15.Gen, .I s11]) J Ty.p220 Ty.z220 J J J) J <| d1n J (o_bI (f := r03_Cell.Pv) (l := [(⟨v15.State, v15.Gen, s11⟩ : r03_Cell)]) J Ty.e134 Ty.s220 Ty.z220 J J nl J J) J <| bnE h fun v16 hv11 h => d3a J (o_apR (f := r03_Cell.Pv) hv11 J J J J J J (.inl ⟨_, J, J⟩) Ty.e134 Ty.s220 Ty.b220 Ty.z220 J (fun _ => J)) J J J J J <| S7 1 J <| d_sto (x' := .agg [.sl 32, .I a0.Last]) (cl' := false) J J (.inl J) Ty.s134 <| d_nil <| S6 3 J ?_
   exact eL h (Wk.trans (wk_frz _ [32]) (WP (fun l => if l = 910503 then 32 else l)))
  ·refine pw_exit ?_
   refine thenQ_exit <| thenQ_exit <| blockQ_exit ?_
   have h := xL hx9 h
   exact eJ h (Wk.trans (wk_frz _ [910503]) W)

theorem r03_Right_ok {a0} : PO Tryz.prog 178 [r03_Slab.Pv a0] (r03_Right a0) fun r => .bool r := by
 refine pO Tryz.func178 fun r h _ _ => ?_
 refine S4 2 J <| pw_seq <| S3 2 J <| nL J Ty.e134 <| S1 2 J <| y_if J (fun hg => oF J Ty.f136_1 J) <| y_if J (fun hg => oS (ct hg) J J Ty.a3 J) <| y_if J (fun hg => o_cmp (ct hg) J J) <| y0 J (pk_or J J J (fun q => eqF q)) <| S1 1 J <| y_if J (fun hg => oF J Ty.f136_1 J) <| y_if J (fun hg => oS (ct hg) J J Ty.a3 J) <| y_if J (fun hg => o_cmp (ct hg) J J) <| y0 J (pk_or J J J (fun q => eqF q)) <| yN ?_
 refine cN h (fun hc h => ?_) fun hc h => ?_
 ·refine S4 1 J ?_
  refine pw_ret ?_
  cases h
  exact f1
 ·refine pw_skip ?_
  refine jq h (fun _ => St.of [] []) (fun q6 h => ?_) fun κ5 h => ?_
  ·refine S4 1 J ?_
   refine pw_ret ?_
   cases h
   exact f1
  ·refine S4 1 J ?_
   refine pw_block <| lq h (fun s8 => St.of [(1, .ptr 1 0 0), (3, .I s8)] [(1, vR (r03_Slab.Pv a0) 2)]) W fun s8 x9 h hx8 => pw_seq <| S3 3 J <| nL J Ty.e134 <| S2 1 J ?_
   refine cN h (fun hc h => ?_) fun hc h => ?_
   ·refine pw_skip ?_
    refine pw_seq <| pw_block <| S3 3 J <| iL h J J Ty.e134 Ty.s220 fun v10 _ h => S2 3 J <| S3 4 J <| y_if J (fun hg => oF J Ty.f220_0 J) <| y_if J (fun hg => oS (ct hg) J J Ty.a3 J) <| y_if J (fun hg => o_cmp (ct hg) J J) <| y0 J (pk_or J J J (fun q => eqF q)) <| S1 1 J <| y_if J (fun hg => oF J Ty.f220_1 J) <| y_if J (fun hg => oS (ct hg) J J Ty.a3 J) <| y_if J (fun hg => o_cmp (ct hg) J J) <| y0 J (pk_or J J J (fun q => eqF q)) <| S1 1 J <| y_if J (fun hg => oF J Ty.f220_1 J) <| y_if J (fun hg => oS (ct hg) J J Ty.a3 J) <| y_if J (fun hg => oF J Ty.f136_1 J) <| y_if J (fun hg => oS (ct hg) J J Ty.a3 J) <| y_if J (fun hg => o_cmp (ct hg) (ct hg) J) <| y0 J (pk_or J J J (fun q => eqF q)) <| yN ?_
    refine cN h (fun hc h => ?_) fun hc h => ?_
    ·refine S4 1 J ?_
     refine pw_ret ?_
     have h := xL hx8 h
     cases h
     exact f1
    ·refine pw_skip ?_
     refine S6 3 J ?_
     exact eL h W
   ·refine pw_exit ?_
    refine thenQ_exit <| thenQ_exit <| blockQ_exit ?_
    have h := xL hx8 h
    exact eJ h W

theorem r06_there_ok {a0} : PO Tryz.prog 179 [r06_Cell.Pv a0] (r06_there a0) fun r => .bool r := by
 refine pO Tryz.func179 fun r h _ _ => ?_
 unfold r06_there at h
 refine S4 2 J <| S3 4 J <| y_if J (fun hg => oF J Ty.f139_0 J) <| y_if J (fun hg => oS (ct hg) J J Ty.a3 J) <| y_if J (fun hg => o_cmp (ct hg) J J) <| y0 J (pk_or J J J (fun q => eqF q)) <| S2 1 J <| pw_ret ?_
 cases h
 exact f1

theorem r06_Right_ok {a0} : PO Tryz.prog 99 [r06_Store.Pv a0] (r06_Right a0) fun r => .bool r := by
 refine pO Tryz.func99 fun r h _ _ => ?_
 refine S4 2 J <| pw_seq <| S3 1 J <| cF h r06_Plain_ok J J fun v1 _ h => cA h r03_Right_ok J J fun v2 _ h => S1 2 J <| y_if J (fun hg => oF J Ty.f42_2 J) <| y_if J (fun hg => oS (ct hg) J J Ty.a3 J) <| y_if J (fun hg => o_cmp (ct hg) J J) <| y0 J (pk_or J J J (fun q => eqF q)) <| yN ?_
 refine cN h (fun hc h => ?_) fun hc h => ?_
 ·refine S4 1 J ?_
  refine pw_ret ?_
  cases h
  exact f1
 ·refine pw_skip ?_
  refine jq h (fun _ => St.of [] []) (fun q23 h => ?_) fun κ22 h => ?_
  ·refine S4 1 J ?_
   refine pw_ret ?_
   cases h
   exact f1
  ·refine S4 1 J ?_
   refine pw_block <| lq h (fun s25 => St.of [(1, .ptr 1 0 0), (3, .I s25)] [(1, vR (r06_Store.Pv a0) 3)]) W fun s25 x26 h hx24 => pw_seq <| S3 3 J <| nL J Ty.e40 <| S2 1 J ?_
   refine cN h (fun hc h => ?_) fun hc h => ?_
   ·refine pw_skip ?_
    refine jq h (fun _ => St.of [(1, .ptr 1 0 0), (3, .I s25)] [(1, vR (r06_Store.Pv a0) 3)]) (fun q35 h => ?_) fun κ34 h => ?_
    ·refine S6 3 J ?_
     exact eL h W
    ·refine pw_block ?_
     refine S3 3 J <| iL h J J Ty.e40 Ty.s139 fun v36 _ h => S2 3 J <| S4 4 J <| pw_seq <| S3 1 J <| cA h r06_there_ok J J fun v37 _ h => S2 1 J ?_
     refine cN h (fun hc h => ?_) fun hc h => ?_
     ·refine pw_seq ?_
      refine S3 4 J <| y_if J (fun hg => oF J Ty.f63_1 J) <| y_if J (fun hg => oS (ct hg) J J Ty.a3 J) <| y_if J (fun hg => o_cmp (ct hg) J J) <| y0 J (pk_or J J J (fun q => eqF q)) <| S1 1 J <| y_if J (fun hg => oF J Ty.f63_2 J) <| y_if J (fun hg => oS (ct hg) J J Ty.a3 J) <| y_if J (fun hg => o_cmp (ct hg) J J) <| y0 J (pk_or J J J (fun q => eqF q)) <| S1 1 J <| y_if J (fun hg => oF J Ty.f63_3 J) <| y_if J (fun hg => oS (ct hg) J J Ty.a3 J) <| y_if J (fun hg => o_cmp (ct hg) J J) <| y0 J (pk_or J J J (fun q => eqF q)) <| S1 1 J <| y_if J (fun hg => oF J Ty.f63_4 J) <| y_if J (fun hg => oS (ct hg) J J Ty.a4 J) <| y0 J (pk_or J J J (fun q => eqF q)) <| S1 1 J <| y_if J (fun hg => oF J Ty.f63_5 J) <| y_if J (fun hg => oS (ct hg) J J Ty.a27 J) <| y_if J (fun hg => o_lnL (f := iF) (ct hg) Ty.e27) <| y_if J (fun hg => o_cmp (ct hg) J J) <| y0 J (pk_or J J J (fun q => eqF q)) <| yN ?_
      refine cN h (fun hc h => ?_) fun hc h => ?_
      ·refine S4 1 J ?_
       refine pw_ret ?_
       have h := xL hx24 h
       cases h
       exact f1
      ·refine pw_skip ?_
       refine pw_exit <| thenQ_exit <| blockQ_exit ?_
       exact eJ h W
     ·refine pw_skip ?_
      refine pw_seq <| S3 4 J <| y_if J (fun hg => oF J Ty.f63_0 J) <| y_if J (fun hg => oS (ct hg) J J Ty.a3 J) <| y_if J (fun hg => oF J Ty.f42_2 J) <| y_if J (fun hg => oS (ct hg) J J Ty.a3 J) <| y_if J (fun hg => o_cmp (ct hg) (ct hg) J) <| y0 J (pk_or J J J (fun q => eqF q)) <| S1 1 J <| y_if J (fun hg => oF J Ty.f63_1 J) <| y_if J (fun hg => oS (ct hg) J J Ty.a3 J) <| y_if J (fun hg => o_cmp (ct hg) J J) <| y0 J (pk_or J J J (fun q => eqF q)) <| S1 1 J <| y_if J (fun hg => oF J Ty.f63_2 J) <| y_if J (fun hg => oS (ct hg) J J Ty.a3 J) <| y_if J (fun hg => o_cmp (ct hg) J J) <| y0 J (pk_or J J J (fun q => eqF q)) <| S1 1 J <| y_if J (fun hg => oF J Ty.f63_3 J) <| y_if J (fun hg => oS (ct hg) J J Ty.a3 J) <| y_if J (fun hg => o_cmp (ct hg) J J) <| y0 J (pk_or J J J (fun q => eqF q)) <| S1 1 J <| y_if J (fun hg => oF J Ty.f63_3 J) <| y_if J (fun hg => oS (ct hg) J J Ty.a3 J) <| y_if J (fun hg => o_cmp (ct hg) J J) <| y0 J (pk_or J J J (fun q => eqF q)) <| S1 1 J <| y_if J (fun hg => oF J Ty.f63_5 J) ?_
      refine y_if J (fun hg => oS (ct hg) J J Ty.a27 J) <| y_if J (fun hg => o_lnL (f := iF) (ct hg) Ty.e27) <| y_if J (fun hg => o_cmp (ct hg) J J) <| y0 J (pk_or J J J (fun q => eqF q)) <| yN ?_
      refine cN h (fun hc h => ?_) fun hc h => ?_
      ·refine S4 1 J ?_
       refine pw_ret ?_
       have h := xL hx24 h
       cases h
       exact f1
      ·refine pw_skip ?_
       refine S4 1 J <| pw_block <| lq h (fun s39 => St.of [(1, .ptr 1 0 0), (3, .I s25), (5, .ptr 5 0 0), (6, .I s39)] [(5, vR (r06_Obj.Pv v36.Val) 6), (1, vR (r06_Store.Pv a0) 3)]) W fun s39 x40 h hx37 => pw_seq <| S4 3 J ?_
       refine cN h (fun hc h => ?_) fun hc h => ?_
       ·refine pw_skip ?_
        refine pw_seq <| pw_block <| dr [] Ty.mix (by kernel_rfl) (by kernel_rfl) <| S7 3 J <| bnE h fun v41 hv38 h => d0 J (o_ixL (f := r06_Cell.Pv) (cs := r06_Cell.Pc v41) hv38 J J Ty.e40 Ty.s139 J J) J <| S7 1 J <| bnE h fun v42 hv39 h => d2 J (o_cl J r06_there_ok J hv39) J <| S7 1 J <| d_if7 J (fun hg _ hN => oF J Ty.f42_0 J) J <| d_if0 J (fun hg => oS (ct hg) J J Ty.a40 J) J <| d_if7 J (fun hg _ hN => mI J) J <| d_if0 J (fun hg => o_ixL (f := r06_Cell.Pv) (cs := r06_Cell.Pc v41) hv38 (ct hg) (ct hg) Ty.e40 Ty.s139 J J) J <| d_if7 J (fun hg _ hN => o_fieldAddrR (ct hg) Ty.f139_2 J) J <| d_if7 J (fun hg _ hN => o_fieldAddrR (ct hg) Ty.f63_0 J) J <| d_if0 J (fun hg => o_loadRS (ct hg) Ty.a3 J) J <| d_if7 J (fun hg _ hN => oF J Ty.f63_0 J) J <| d_if0 J (fun hg => oS (ct hg) J J Ty.a3 J) J <| d_if7 J (fun hg _ hN => o_cmp (ct hg) (ct hg) J) J <| d7 J (fun _ hN => pk_and J J J (fun q => eqT q)) J <| d_nil ?_
        refine cN h (fun hc h => ?_) fun hc h => ?_
        ·refine S4 1 J ?_
         refine pw_ret ?_
         have h := xL hx37 h
         have h := xL hx24 h
         cases h
         exact f1
        ·refine pw_skip ?_
         refine S6 3 J ?_
         exact eL h W
       ·refine pw_exit ?_
        refine thenQ_exit <| thenQ_exit <| blockQ_exit ?_
        have h := xL hx37 h
        exact eJ h W
   ·refine pw_exit ?_
    refine thenQ_exit <| thenQ_exit <| blockQ_exit ?_
    have h := xL hx24 h
    exact eJ h W

theorem r10_Find_ok {a0 a1} : PO Tryz.prog 180 [.L r10_Place.Pv a0, .I a1] (r10_Find a0 a1) fun r => .I r := by
 refine pO Tryz.func180 fun r h _ _ => ?_
 refine S4 1 J ?_
 refine jq h (fun _ => St.of [] []) (fun q6 h => ?_) fun κ5 h => ?_
 ·refine S4 1 J ?_
  refine pw_ret ?_
  cases h
  exact f1
 ·refine S4 1 J ?_
  refine pw_block <| lq h (fun s8 => St.of [(0, .L r10_Place.Pv a0), (1, .I a1), (5, .I s8)] []) W fun s8 x9 h hx8 => pw_seq <| S3 2 J <| nL J Ty.e44 <| S2 1 J ?_
  refine cN h (fun hc h => ?_) fun hc h => ?_
  ·refine pw_skip ?_
   refine pw_seq <| pw_block <| S3 2 J <| iL h J J Ty.e44 Ty.s182 fun v10 hv9 h => S1 4 J <| y_if J (fun hg => om (d := .L r10_Place.Pv a0) J) <| y_if J (fun hg => mI J) <| y_if J (fun hg => o_ixL (f := r10_Place.Pv) (cs := r10_Place.Pc v10) hv9 (ct hg) (ct hg) Ty.e44 Ty.s182 J J) <| y_if J (fun hg => o_fieldAddrR (ct hg) Ty.f182_1 J) <| y_if J (fun hg => o_loadRS (ct hg) Ty.a3 J) <| y_if J (fun hg => mI J) <| y_if J (fun hg => o_cmp (ct hg) (ct hg) J) <| y0 J (pk_and J J J (fun q => eqT q)) <| yN ?_
   refine cN h (fun hc h => ?_) fun hc h => ?_
   ·refine S4 2 J ?_
    refine pw_ret ?_
    have h := xL hx8 h
    cases h
    exact f1
   ·refine pw_skip ?_
    refine S6 3 J ?_
    exact eL h W
  ·refine pw_exit ?_
   refine thenQ_exit <| thenQ_exit <| blockQ_exit ?_
   have h := xL hx8 h
   exact eJ h W

theorem r10_Home_ok {a0 a1} : PO Tryz.prog 181 [.I a0, .I a1] (r10_Home a0 a1) fun r => .I r := by
 refine pO Tryz.func181 fun r h _ _ => ?_
 refine S4 1 J <| pw_seq <| S4 2 J ?_
 refine cN h (fun hc h => ?_) fun hc h => ?_
 ·refine S4 1 J ?_
  refine pw_ret ?_
  cases h
  exact f1
 ·refine pw_skip ?_
  refine S3 4 J <| bnE h fun v1 hv1 h => y0 J (o_ari J J hv1) <| S2 1 J <| pw_seq <| S4 2 J ?_
  refine cN h (fun hc h => ?_) fun hc h => ?_
  ·refine S6 4 J ?_
   refine S4 2 J <| pw_ret ?_
   cases h
   exact f1
  ·refine pw_skip ?_
   refine S4 2 J <| pw_ret ?_
   cases h
   exact f1

theorem r10_Right_ok {a0} : PO Tryz.prog 100 [.L r10_Place.Pv a0] (r10_Right a0) fun r => .bool r := by
 refine pO Tryz.func100 fun r h _ _ => ?_
 refine S4 1 J <| S3 1 J <| nL J Ty.e44 <| S2 1 J <| pw_seq <| S3 3 J <| y_if J (fun hg => mI J) <| y_if J (fun hg => o_cmp (ct hg) J J) <| y0 J (pk_or J J J (fun q => eqF q)) <| yN ?_
 refine cN h (fun hc h => ?_) fun hc h => ?_
 ·refine S4 1 J ?_
  refine pw_ret ?_
  cases h
  exact f1
 ·refine pw_skip ?_
  refine jq h (fun _ => St.of [] []) (fun q23 h => ?_) fun κ22 h => ?_
  ·refine S4 1 J ?_
   refine pw_ret ?_
   cases h
   exact f1
  ·refine S4 1 J ?_
   refine pw_block <| lq h (fun s25 => St.of [(0, .L r10_Place.Pv a0), (3, .I (a0.length : Int)), (4, .I s25)] []) W fun s25 x26 h hx24 => pw_seq <| S4 3 J ?_
   refine cN h (fun hc h => ?_) fun hc h => ?_
   ·refine pw_skip ?_
    refine jq h (fun _ => St.of [(0, .L r10_Place.Pv a0), (3, .I (a0.length : Int)), (4, .I s25)] []) (fun q36 h => ?_) fun κ35 h => ?_
    ·refine S6 3 J ?_
     exact eL h W
    ·refine pw_block ?_
     refine S3 2 J <| iL h J J Ty.e44 Ty.s182 fun v37 _ h => S2 3 J <| pw_seq <| S3 4 J <| y_if J (fun hg => oF J Ty.f182_0 J) <| y_if J (fun hg => oS (ct hg) J J Ty.a3 J) <| y_if J (fun hg => o_cmp (ct hg) J J) <| y0 J (pk_or J J J (fun q => eqF q)) <| S1 1 J <| y_if J (fun hg => oF J Ty.f182_0 J) <| y_if J (fun hg => oS (ct hg) J J Ty.a3 J) <| y_if J (fun hg => o_cmp (ct hg) J J) <| y_if J (fun hg => om (d := .bool (v37.State != 1)) (ct hg)) <| y_if (want2 J J J) (fun hg => oF J Ty.f182_1 J) <| y_if (want2 J J J) (fun hg => oS (ct hg) J J Ty.a3 J) <| y_if (want2 J J J) (fun hg => o_cmp (ct hg) J J) <| y_if (want2 J J J) (fun hg => om (d := .bool (v37.Key != 0)) (ct hg)) <| y_if (want2 J J J) (fun hg => oF J Ty.f182_2 J) <| y_if (want2 J J J) (fun hg => oS (ct hg) J J Ty.a3 J) <| y_if (want2 J J J) (fun hg => o_cmp (ct hg) J J) <| y_if (want2 J J J) (fun hg => pk_or (ct hg) J J (fun q => andI hg (eqF q))) <| y_if J (fun hg => pk_and (ct hg) J J (fun q => andI hg (eqT q))) <| y0 J (pk_or J J J (fun q => eqF q)) <| yN ?_
     refine cN h (fun hc h => ?_) fun hc h => ?_
     ·refine S4 1 J ?_
      refine pw_ret ?_
      have h := xL hx24 h
      cases h
      exact f1
     ·refine pw_skip ?_
      refine pw_seq <| S4 3 J ?_
      refine cN h (fun hc h => ?_) fun hc h => ?_
      ·refine pw_exit ?_
       refine thenQ_exit <| blockQ_exit ?_
       exact eJ h W
      ·refine pw_skip ?_
       refine pw_seq <| S3 3 J <| cA h r10_Find_ok J J fun v38 _ h => S2 2 J ?_
       refine cN h (fun hc h => ?_) fun hc h => ?_
       ·refine S4 1 J ?_
        refine pw_ret ?_
        have h := xL hx24 h
        cases h
        exact f1
       ·refine pw_skip ?_
        refine S3 3 J <| cA h r10_Home_ok J J fun v39 _ h => S2 1 J <| pw_block <| lq h (fun s41 => St.of [(0, .L r10_Place.Pv a0), (3, .I (a0.length : Int)), (4, .I s25), (6, .I s41)] []) W fun s41 x42 h hx39 => pw_seq <| S4 3 J ?_
        refine cN h (fun hc h => ?_) fun hc h => ?_
        ·refine pw_skip ?_
         refine pw_seq <| pw_block <| S3 2 J <| iL h J J Ty.e44 Ty.s182 fun v43 _ h => S2 3 J ?_
         refine cN h (fun hc h => ?_) fun hc h => ?_
         ·refine S4 1 J ?_
          refine pw_ret ?_
          have h := xL hx39 h
          have h := xL hx24 h
          cases h
          exact f1
         ·refine pw_skip ?_
          refine S5 3 J <| bnE h fun v44 hv41 h => y0 J (o_ari J J hv41) <| S2 1 J ?_
          exact eL h W
        ·refine pw_exit ?_
         refine thenQ_exit <| thenQ_exit <| blockQ_exit ?_
         have h := xL hx39 h
         exact eJ h W
   ·refine pw_exit ?_
    refine thenQ_exit <| thenQ_exit <| blockQ_exit ?_
    have h := xL hx24 h
    exact eJ h W

theorem r01_Pack_ok {a0 a1} : PO Tryz.prog 132 [.I a0, .I a1] (r01_Pack a0 a1) fun r => .I r := by
 refine pO Tryz.func132 fun r h _ _ => ?_
 refine S4 1 J <| pw_seq <| S3 3 J <| y_if J (fun hg => mI J) <| y_if J (fun hg => o_cmp (ct hg) J J) <| y0 J (pk_or J J J (fun q => eqF q)) <| S1 1 J <| y_if J (fun hg => mI J) <| y_if J (fun hg => o_cmp (ct hg) J J) <| y0 J (pk_or J J J (fun q => eqF q)) <| S1 1 J <| y_if J (fun hg => mI J) <| y_if J (fun hg => o_cmp (ct hg) J J) <| y0 J (pk_or J J J (fun q => eqF q)) <| yN ?_
 refine cN h (fun hc h => ?_) fun hc h => ?_
 ·refine S4 1 J ?_
  refine pw_ret ?_
  cases h
  exact f1
 ·refine pw_skip ?_
  refine S4 6 J <| pw_ret ?_
  cases h
  exact f1

theorem r01_Valid_ok {a0} : PO Tryz.prog 262 [.I a0] (r01_Valid a0) fun r => .bool r := by
 refine pO Tryz.func262 fun r h _ _ => ?_
 refine S4 1 J <| pw_seq <| S3 3 J <| y_if J (fun hg => mI J) <| y_if J (fun hg => o_cmp (ct hg) J J) <| y0 J (pk_or J J J (fun q => eqF q)) <| yN ?_
 refine cN h (fun hc h => ?_) fun hc h => ?_
 ·refine S4 1 J ?_
  refine pw_ret ?_
  cases h
  exact f1
 ·refine pw_skip ?_
  refine S3 2 J <| bnE h fun v1 hv1 h => y0 J (o_ari J J hv1) <| S1 2 J <| bnE h fun v2 hv2 h => y0 J (o_ari J J hv2) <| cA h r01_Pack_ok J J fun v3 _ h => S2 3 J <| pw_ret ?_
  cases h
  exact f1

theorem r01_Slot_ok {a0} : PO Tryz.prog 223 [.I a0] (r01_Slot a0) fun r => .I r := by
 refine pO Tryz.func223 fun r h _ _ => ?_
 refine S4 1 J <| pw_seq <| S3 1 J <| cA h r01_Valid_ok J J fun v1 _ h => S2 1 J ?_
 refine cN h (fun hc h => ?_) fun hc h => ?_
 ·refine S4 1 J ?_
  refine pw_ret ?_
  cases h
  exact f1
 ·refine pw_skip ?_
  refine S3 2 J <| bnE h fun v2 hv2 h => y0 J (o_ari J J hv2) <| S2 1 J <| pw_ret ?_
  cases h
  exact f1

theorem r01_Gen_ok {a0} : PO Tryz.prog 224 [.I a0] (r01_Gen a0) fun r => .I r := by
 refine pO Tryz.func224 fun r h _ _ => ?_
 refine S4 1 J <| pw_seq <| S3 1 J <| cA h r01_Valid_ok J J fun v1 _ h => S2 1 J ?_
 refine cN h (fun hc h => ?_) fun hc h => ?_
 ·refine S4 1 J ?_
  refine pw_ret ?_
  cases h
  exact f1
 ·refine pw_skip ?_
  refine S3 2 J <| bnE h fun v2 hv2 h => y0 J (o_ari J J hv2) <| S2 1 J <| pw_ret ?_
  cases h
  exact f1

theorem r03_Find_ok {a0 a1} : PO Tryz.prog 166 [r03_Slab.Pv a0, .I a1] (r03_Find a0 a1) fun r => .tup [.I r.1, .I r.2] := by
 refine pO Tryz.func166 fun r h _ _ => ?_
 refine S4 3 J <| pw_seq <| S4 2 J ?_
 refine cN h (fun hc h => ?_) fun hc h => ?_
 ·refine S4 2 J ?_
  refine pw_ret ?_
  cases h
  exact f2
 ·refine pw_skip ?_
  refine S3 1 J <| cA h r01_Slot_ok J J fun v1 _ h => S2 1 J <| pw_seq <| S3 3 J <| y_if J (fun hg => mI J) <| y_if J (fun hg => oF J Ty.f136_0 J) <| y_if J (fun hg => oS (ct hg) J J Ty.a134 J) <| y_if J (fun hg => o_lnL (f := r03_Cell.Pv) (ct hg) Ty.e134) <| y_if J (fun hg => o_cmp (ct hg) (ct hg) J) <| y0 J (pk_or J J J (fun q => eqF q)) <| yN ?_
  refine cN h (fun hc h => ?_) fun hc h => ?_
  ·refine S4 2 J ?_
   refine pw_ret ?_
   cases h
   exact f2
  ·refine pw_skip ?_
   refine S3 3 J <| iL h J J Ty.e134 Ty.s220 fun v2 _ h => S2 3 J <| pw_seq <| dr [] Ty.mix (by kernel_rfl) (by kernel_rfl) <| S7 3 J <| bnE h fun v3 hv3 h => d2 J (o_cl J r01_Gen_ok J hv3) J <| S7 2 J <| d_if7 J (fun hg _ hN => oF J Ty.f220_0 J) J <| d_if0 J (fun hg => oS (ct hg) J J Ty.a3 J) J <| d_if7 J (fun hg _ hN => o_cmp (ct hg) J J) J <| d_if7 J (fun hg _ hN => om (d := .bool (v2.State != 1)) (ct hg)) J <| d_if7 (want2 J J J) (fun hg _ hN => oF J Ty.f220_0 J) J <| d_if0 (want2 J J J) (fun hg => oS (ct hg) J J Ty.a3 J) J <| d_if7 (want2 J J J) (fun hg _ hN => o_cmp (ct hg) J J) J <| d_if7 J (fun hg _ hN => pk_and (ct hg) J J (fun q => andI hg (eqT q))) J <| d7 J (fun _ hN => pk_or J J J (fun q => eqF q)) J <| d_nil ?_
   refine cN h (fun hc h => ?_) fun hc h => ?_
   ·refine S4 2 J ?_
    refine pw_ret ?_
    cases h
    exact f2
   ·refine pw_skip ?_
    refine S4 3 J <| pw_ret ?_
    cases h
    exact f2

theorem r03_Get_ok {a0 a1} : PO Tryz.prog 106 [r03_Slab.Pv a0, .I a1] (r03_Get a0 a1) fun r => .tup [.I r.1, .I r.2] := by
 refine pO Tryz.func106 fun r h _ _ => ?_
 refine S4 3 J <| S3 2 J <| cA h r03_Find_ok J J fun v1 _ h => S2 5 J <| pw_seq <| S4 2 J ?_
 refine cN h (fun hc h => ?_) fun hc h => ?_
 ·refine S4 3 J ?_
  refine pw_ret ?_
  cases h
  exact f2
 ·refine pw_skip ?_
  refine pw_seq <| S3 3 J <| iL h J J Ty.e134 Ty.s220 fun v2 hv2 h => S2 3 J ?_
  refine cN h (fun hc h => ?_) fun hc h => ?_
  ·refine S4 2 J ?_
   refine pw_ret ?_
   cases h
   exact f2
  ·refine pw_skip ?_
   refine S3 3 J <| y0 J (o_ixL (f := r03_Cell.Pv) (cs := r03_Cell.Pc v2) hv2 J J Ty.e134 Ty.s220 J J) <| S2 4 J <| pw_ret ?_
   cases h
   exact f2

theorem r06_Get_ok {a0 a1} : PO Tryz.prog 33 [r06_Store.Pv a0, .I a1] (r06_Get a0 a1) fun r => .tup [r06_Obj.Pv r.1, .I r.2] := by
 refine pO Tryz.func33 fun r h _ _ => ?_
 refine S4 3 J <| S3 1 J <| cF h r06_Plain_ok J J fun v1 _ h => S1 1 J <| cA h r03_Get_ok J J fun v2 _ h => S2 5 J <| pw_seq <| S4 2 J ?_
 refine cN h (fun hc h => ?_) fun hc h => ?_
 ·refine sR ?_
  refine y0 J (o_build (cs := [.I 0, .I 0, .I 0, .I 0, .bool false, .nl]) J Ty.p63 Ty.z63 J J J) <| S1 1 J <| y_sto (x' := .agg [.I 0, .I 0, .I 0, .I 0, .bool false, .nl]) (cl' := true) J J (.inl J) Ty.s63 <| S2 1 J <| pw_ret ?_
  cases h
  exact ⟨J, [_, _], ⟨oL J J J Ty.a63 Ty.s63 nl J, ⟨J, tr⟩⟩, J, io⟩
 ·refine pw_skip ?_
  refine S3 3 J <| iL h J J Ty.e40 Ty.s139 fun v3 _ h => S2 4 J <| pw_ret ?_
  cases h
  exact ⟨J, [_, _], ⟨oL J J J Ty.a63 Ty.s63 nl J, ⟨J, tr⟩⟩, J, io⟩

theorem r15_tasks_ok {a0} : PO Tryz.prog 101 [r15_Heap.Pv a0] (r15_tasks a0) fun r => .bool r := by
 refine pO Tryz.func101 fun r h _ _ => ?_
 refine S4 2 J ?_
 refine jq h (fun _ => St.of [(1, .ptr 1 0 0)] [(1, vR (r15_Heap.Pv a0) 8)]) (fun q31 h => ?_) fun κ30 h => ?_
 ·refine S3 5 J ?_
  refine y_if J (fun hg => oF J Ty.f49_4 J) <| y_if J (fun hg => oF (ct hg) Ty.f47_0 J) <| y_if J (fun hg => oS (ct hg) J J Ty.a45 J) <| y_if J (fun hg => o_lnL (f := r14_Task.Pv) (ct hg) Ty.e45) <| y_if J (fun hg => o_cmp (ct hg) J J) <| y0 J (pk_and J J J (fun q => eqT q)) <| S2 1 J <| pw_ret ?_
  cases h
  exact f1
 ·refine S4 1 J ?_
  refine pw_block <| lq h (fun s33 => St.of [(1, .ptr 1 0 0), (3, .I s33)] [(1, vR (r15_Heap.Pv a0) 8)]) W fun s33 x34 h hx30 => pw_seq <| S3 4 J <| nL J Ty.e45 <| S2 1 J ?_
  refine cN h (fun hc h => ?_) fun hc h => ?_
  ·refine pw_skip ?_
   refine jq h (fun _ => St.of [(1, .ptr 1 0 0), (3, .I s33)] [(1, vR (r15_Heap.Pv a0) 8)]) (fun q48 h => ?_) fun κ47 h => ?_
   ·refine S6 3 J ?_
    exact eL h W
   ·refine pw_block ?_
    refine S3 4 J <| iL h J J Ty.e45 Ty.s151 fun v49 _ h => S2 3 J <| pw_seq <| S3 4 J <| y_if J (fun hg => oF J Ty.f151_0 J) <| y_if J (fun hg => oS (ct hg) J J Ty.a3 J) <| y_if J (fun hg => o_cmp (ct hg) J J) <| y0 J (pk_and J J J (fun q => eqT q)) <| S1 1 J <| y_if J (fun hg => oF J Ty.f151_2 J) <| y_if J (fun hg => oS (ct hg) J J Ty.a3 J) <| y_if J (fun hg => o_cmp (ct hg) J J) <| y0 J (pk_or J J J (fun q => eqF q)) <| S1 1 J <| y_if J (fun hg => oF J Ty.f151_2 J) <| y_if J (fun hg => oS (ct hg) J J Ty.a3 J) <| y_if J (fun hg => o_cmp (ct hg) J J) <| y0 J (pk_or J J J (fun q => eqF q)) <| yN ?_
    refine cN h (fun hc h => ?_) fun hc h => ?_
    ·refine S4 1 J ?_
     refine pw_ret ?_
     have h := xL hx30 h
     cases h
     exact f1
    ·refine pw_skip ?_
     refine jq h (fun _ => St.of [(1, .ptr 1 0 0), (3, .I s33), (4, .ptr 4 0 0)] [(4, vR (r14_Task.Pv v49) 3), (1, vR (r15_Heap.Pv a0) 8)]) (fun q55 h => ?_) fun κ54 h => ?_
     ·refine S3 4 J ?_
      refine cF h r06_Get_ok J J fun v56 _ h => S2 6 J <| S3 4 J <| y_if J (fun hg => mI J) <| y_if J (fun hg => o_cmp (ct hg) J J) <| y_if J (fun hg => om (d := .bool (v56.2 != 0)) (ct hg)) <| y_if (want2 J J J) (fun hg => oF J Ty.f63_4 J) <| y_if (want2 J J J) (fun hg => oS (ct hg) J J Ty.a4 J) <| y_if (want2 J J J) (fun hg => o_not (ct hg) J) <| y_if J (fun hg => pk_or (ct hg) J J (fun q => andI hg (eqF q))) <| y0 J (pk_and J J J (fun q => eqT q)) <| S1 1 J <| y_if J (fun hg => oF J Ty.f151_0 J) <| y_if J (fun hg => oS (ct hg) J J Ty.a3 J) <| y_if J (fun hg => o_cmp (ct hg) J J) <| y_if J (fun hg => om (d := .bool (v49.Kind == 2)) (ct hg)) <| y_if (want2 J J J) (fun hg => oF J Ty.f151_1 J) <| y_if (want2 J J J) (fun hg => oS (ct hg) J J Ty.a3 J) <| y_if (want2 J J J) (fun hg => o_cmp (ct hg) J J) <| y_if (want2 J J J) (fun hg => om (d := .bool (decide (v49.At < 0))) (ct hg)) <| y_if (want2 J J J) (fun hg => oF J Ty.f151_1 J) <| y_if (want2 J J J) (fun hg => oS (ct hg) J J Ty.a3 J) <| y_if (want2 J J J) (fun hg => o_cmp (ct hg) J J) <| y_if (want2 J J J) (fun hg => pk_or (ct hg) J J (fun q => andI hg (eqF q))) <| y_if J (fun hg => pk_and (ct hg) J J (fun q => andI hg (eqT q))) <| y0 J (pk_or J J J (fun q => eqF q)) <| yN ?_
      refine cN h (fun hc h => ?_) fun hc h => ?_
      ·refine S4 1 J ?_
       refine pw_ret ?_
       have h := xL hx30 h
       cases h
       exact f1
      ·refine pw_skip ?_
       exact eJ h W
     ·refine S4 1 J ?_
      refine pw_block <| lq h (fun s58 => St.of [(1, .ptr 1 0 0), (3, .I s33), (4, .ptr 4 0 0), (5, .I s58)] [(4, vR (r14_Task.Pv v49) 3), (1, vR (r15_Heap.Pv a0) 8)]) W fun s58 x59 h hx52 => pw_seq <| S4 3 J ?_
      refine cN h (fun hc h => ?_) fun hc h => ?_
      ·refine pw_skip ?_
       refine pw_seq <| pw_block <| dr [] Ty.mix (by kernel_rfl) (by kernel_rfl) <| S7 4 J <| bnE h fun v60 hv53 h => d0 J (o_ixL (f := r14_Task.Pv) (cs := r14_Task.Pc v60) hv53 J J Ty.e45 Ty.s151 J J) J <| S7 6 J <| d_if7 J (fun hg _ hN => oF J Ty.f49_4 J) J <| d_if7 J (fun hg _ hN => oF (ct hg) Ty.f47_0 J) J <| d_if0 J (fun hg => oS (ct hg) J J Ty.a45 J) J <| d_if7 J (fun hg _ hN => mI J) J <| d_if0 J (fun hg => o_ixL (f := r14_Task.Pv) (cs := r14_Task.Pc v60) hv53 (ct hg) (ct hg) Ty.e45 Ty.s151 J J) J <| d_if7 J (fun hg _ hN => o_fieldAddrR (ct hg) Ty.f151_1 J) J <| d_if0 J (fun hg => o_loadRS (ct hg) Ty.a3 J) J <| d_if7 J (fun hg _ hN => oF J Ty.f151_1 J) J <| d_if0 J (fun hg => oS (ct hg) J J Ty.a3 J) J <| d_if7 J (fun hg _ hN => o_cmp (ct hg) (ct hg) J) J <| d7 J (fun _ hN => pk_and J J J (fun q => eqT q)) J <| d_nil ?_
       refine cN h (fun hc h => ?_) fun hc h => ?_
       ·refine S4 1 J ?_
        refine pw_ret ?_
        have h := xL hx52 h
        have h := xL hx30 h
        cases h
        exact f1
       ·refine pw_skip ?_
        refine S6 3 J ?_
        exact eL h W
      ·refine pw_exit ?_
       refine thenQ_exit <| thenQ_exit <| blockQ_exit ?_
       have h := xL hx52 h
       exact eJ h W
  ·refine pw_exit ?_
   refine thenQ_exit <| thenQ_exit <| blockQ_exit ?_
   have h := xL hx30 h
   exact eJ h W

theorem r15_Lives_ok {a0 a1} : PO Tryz.prog 90 [r15_Heap.Pv a0, .I a1] (r15_Lives a0 a1) fun r => .bool r := by
 refine pO Tryz.func90 fun r h _ _ => ?_
 refine S4 2 J <| S3 3 J <| cF h r06_Get_ok J J fun v1 _ h => S2 6 J <| S4 3 J <| pw_ret ?_
 cases h
 exact f1

theorem r15_maybe_ok {a0 a1} : PO Tryz.prog 67 [r15_Heap.Pv a0, .I a1] (r15_maybe a0 a1) fun r => .bool r := by
 refine pO Tryz.func67 fun r h _ _ => ?_
 unfold r15_maybe at h
 refine S4 2 J <| S3 3 J <| y_if J (fun hg => oL J J J Ty.a49 Ty.s49 nl J) <| y_if J (fun hg => mI J) <| bnE h fun v1 hv1 h => y_if J (fun hg => o_cl J r15_Lives_ok (consE (ct hg) (consE (ct hg) J)) (onlyE hv1 hg)) <| y0 J (pk_or J J J (fun q => eqF q)) <| S2 1 J <| pw_ret ?_
 cases h
 exact f1

theorem r06_Sorted_ok {a0 a1} : PO Tryz.prog 133 [r06_Store.Pv a0, .L iF a1] (r06_Sorted a0 a1) fun r => .L iF r := by
 refine pO Tryz.func133 fun r h _ _ => ?_
 unfold r06_Sorted at h
 refine S4 2 J <| sR <| y0 J (o_nslice J Ty.e27 Ty.s3) <| S1 1 J <| bnE h fun v1 hv1 h => y1 J (o_apT (f := iF) hv1 J J (.inl ⟨_, J, J⟩) Ty.e27 Ty.s3 Ty.b3 Ty.z3 J (fun _ => J)) J <| S2 1 J ?_
 refine jq h (fun j36 => St.of [(5, .sl 15)] [(15, ⟨List.map iF j36, 0, true, 1, true⟩)]) (fun j36 h => ?_) fun κ35 h => ?_
 ·refine S4 2 J ?_
  refine pw_ret ?_
  cases h
  exact f1
 ·refine S4 1 J ?_
  refine pw_block <| lq h (fun q => St.of [(2, .ptr 2 0 0), (5, .sl 15), (6, .I q.1)] [(15, ⟨List.map iF q.2, 0, true, 1, true⟩), (2, vR (r06_Store.Pv a0) 3)]) W fun q41 x40 h hx31 => ?_
  obtain ⟨s38, s39⟩ := q41
  refine pw_seq <| S3 2 J <| y0 J (o_lnR (f := iF) J J J Ty.e27) <| S2 1 J ?_
  refine cN h (fun hc h => ?_) fun hc h => ?_
  ·refine pw_skip ?_
   refine jq h (fun j56 => St.of [(2, .ptr 2 0 0), (5, .sl 15), (6, .I s38)] [(15, ⟨List.map iF j56, 0, true, 1, true⟩), (2, vR (r06_Store.Pv a0) 3)]) (fun j56 h => ?_) fun κ55 h => ?_
   ·refine S6 3 J ?_
    exact eL h W
   ·refine pw_block ?_
    refine S4 2 J <| pw_block <| lq h (fun q => St.of [(2, .ptr 2 0 0), (5, .sl 15), (6, .I s38), (7, .I q.1)] [(15, ⟨List.map iF q.2, 0, true, 1, true⟩), (2, vR (r06_Store.Pv a0) 3)]) W fun q61 x60 h hx46 => ?_
    obtain ⟨s58, s59⟩ := q61
    refine pw_seq <| S4 2 J ?_
    refine cN h (fun hc h => ?_) fun hc h => ?_
    ·refine pw_skip ?_
     refine pw_seq <| pw_block <| dr [] Ty.mix (by kernel_rfl) (by kernel_rfl) <| S7 1 J <| bnE h fun v62 hv47 h => d2f J (o_clF J r06_Plain_ok J hv47) J <| S7 3 J <| bnE h fun v63 hv48 h => d0 J (o_ixR (f := iF) hv48 J J J J Ty.e27 Ty.s3 J) J <| d0 J (o_ldS (f := iF) hv48 J J J Ty.a3 J) J <| bnE h fun v64 hv49 h => d2 J (o_cl J r03_Find_ok J hv49) J <| S8 5 J <| dr [] Ty.mix (by kernel_rfl) (by kernel_rfl) <| S7 1 J <| d2f J (o_clF J r06_Plain_ok J hv47) J <| S7 2 J <| bnE h fun v65 hv50 h => d0 J (o_ixR (f := iF) hv50 J J J J Ty.e27 Ty.s3 J) J <| d0 J (o_ldS (f := iF) hv50 J J J Ty.a3 J) J <| bnE h fun v66 hv51 h => d2 J (o_cl J r03_Find_ok J hv51) J <| S8 5 J <| pw_seq <| dr [] Ty.mix (by kernel_rfl) (by kernel_rfl) <| S7 3 J <| d_if7 J (fun hg _ hN => mI J) J <| d_if7 J (fun hg _ hN => o_cmp (ct hg) J J) J <| d7 J (fun _ hN => pk_or J J J (fun q => eqF q)) J <| S7 1 J <| d_if7 J (fun hg _ hN => oF J Ty.f42_0 J) J <| d_if0 J (fun hg => oS (ct hg) J J Ty.a40 J) J <| d_if7 J (fun hg _ hN => mI J) J <| bnE h fun v67 hv52 h => d_if0 J (fun hg => o_ixL (f := r06_Cell.Pv) (cs := r06_Cell.Pc v67) (onlyE hv52 hg) (ct hg) (ct hg) Ty.e40 Ty.s139 J J) J <| d_if7 J (fun hg _ hN => o_fieldAddrR (ct hg) Ty.f139_2 J) J <| d_if7 J (fun hg _ hN => o_fieldAddrR (ct hg) Ty.f63_0 J) J <| d_if0 J (fun hg => o_loadRS (ct hg) Ty.a3 J) J <| d_if7 J (fun hg _ hN => oF J Ty.f42_0 J) J <| d_if0 J (fun hg => oS (ct hg) J J Ty.a40 J) J <| d_if7 J (fun hg _ hN => mI J) J <| bnE h fun v68 hv53 h => d_if0 J (fun hg => o_ixL (f := r06_Cell.Pv) (cs := r06_Cell.Pc v68) (onlyE hv53 hg) (ct hg) (ct hg) Ty.e40 Ty.s139 J J) J <| d_if7 J (fun hg _ hN => o_fieldAddrR (ct hg) Ty.f139_2 J) J <| d_if7 J (fun hg _ hN => o_fieldAddrR (ct hg) Ty.f63_0 J) J <| d_if0 J (fun hg => o_loadRS (ct hg) Ty.a3 J) J <| d_if7 J (fun hg _ hN => o_cmp (ct hg) (ct hg) J) J <| d7 J (fun _ hN => pk_or J J J (fun q => eqF q)) J <| d_nil ?_
     refine cN h (fun hc h => ?_) fun hc h => ?_
     ·refine pw_exit ?_
      refine thenQ_exit <| blockQ_other (by decide) <| thenQ_exit <| thenQ_exit <| blockQ_exit ?_
      have h := xL hx46 h
      exact eJ h W
     ·refine pw_skip ?_
      refine S3 2 J <| y0 J (o_ixR (f := iF) hv50 J J J J Ty.e27 Ty.s3 J) <| y0 J (o_ldS (f := iF) hv50 J J J Ty.a3 J) <| S2 1 J <| S3 5 J <| y0 J (o_ixR (f := iF) hv48 J J J J Ty.e27 Ty.s3 J) <| y0 J (o_ldS (f := iF) hv48 J J J Ty.a3 J) <| y0 J (o_ixR (f := iF) hv50 J J J J Ty.e27 Ty.s3 J) <| y_stE (f := iF) (v := v63) hv50 J J (.inl J) Ty.s3 <| yN <| S5 4 J <| bnE h fun v69 hv54 h => y0 J (o_ixR (f := iF) hv54 J J J J Ty.e27 Ty.s3 J) <| y_stE (f := iF) (v := v65) hv54 J J (.inl J) Ty.s3 <| yN <| S6 3 J ?_
      exact eL h W
    ·refine pw_exit ?_
     refine thenQ_exit <| thenQ_exit <| blockQ_exit ?_
     have h := xL hx46 h
     exact eJ h W
  ·refine pw_exit ?_
   refine thenQ_exit <| thenQ_exit <| blockQ_exit ?_
   have h := xL hx31 h
   exact eJ h W

theorem r06_Live_ok {a0} : PO Tryz.prog 56 [r06_Store.Pv a0] (r06_Live a0) fun r => .L iF r := by
 refine pO Tryz.func56 fun r h _ _ => ?_
 refine S4 2 J <| sR <| y0 J (o_nslice J Ty.e27 Ty.s3) <| S2 1 J ?_
 refine jq h (fun j15 => St.of [(1, .ptr 1 0 0), (3, .sl 910003)] [(910003, ⟨List.map iF j15, (List.map iF j15).length, true, 1, true⟩), (1, vR (r06_Store.Pv a0) 3)]) (fun j15 h => ?_) fun κ14 h => ?_
 ·refine S3 2 J ?_
  obtain ⟨v16, hv12, h⟩ := bindE h
  refine ycL J (o_clF J r06_Sorted_ok J hv12) J <| S2 1 J <| pw_ret ?_
  cases h
  exact f1
 ·refine S4 1 J ?_
  refine pw_block <| lq h (fun q => St.of [(1, .ptr 1 0 0), (3, .sl 910003), (4, .I q.1)] [(1, vR (r06_Store.Pv a0) 3), (910003, ⟨List.map iF q.2, (List.map iF q.2).length, true, 1, true⟩)]) (Wk.trans (wk_nil (t := 3) (l := 920003) (z := 1) J J) (WP (fun l => if l = 910003 then 920003 else l))) fun q21 x20 h hx15 => ?_
  obtain ⟨s18, s19⟩ := q21
  refine pw_seq <| S3 3 J <| nL J Ty.e40 <| S2 1 J ?_
  refine cN h (fun hc h => ?_) fun hc h => ?_
  ·refine pw_skip ?_
   refine jq h (fun j26 => St.of [(1, .ptr 1 0 0), (3, .sl 30), (4, .I s18)] [(30, ⟨List.map iF j26, (List.map iF j26).length, true, 1, true⟩), (1, vR (r06_Store.Pv a0) 3)]) (fun j26 h => ?_) fun κ25 h => ?_
   ·refine S6 3 J ?_
    exact eL h (Wk.trans (wk_frz _ [30]) (WP (fun l => if l = 910003 then 30 else l)))
   ·refine pw_block ?_
    refine S3 3 J <| iL h J J Ty.e40 Ty.s139 fun v27 hv20 h => S2 3 J ?_
    refine cN h (fun hc h => ?_) fun hc h => ?_
    ·refine S5 5 J ?_
     refine y0 J (o_ixL (f := r06_Cell.Pv) (cs := r06_Cell.Pc v27) hv20 J J Ty.e40 Ty.s139 J J) <| S1 2 J <| cA h r01_Pack_ok J J fun v28 _ h => y0 J (o_bI (f := iF) (l := [v28]) J Ty.e27 Ty.s3 Ty.z3 J J nl J J) <| bnE h fun v29 hv22 h => y_app J (o_apR (f := iF) hv22 J J J J J J (.inl ⟨_, J, J⟩) Ty.e27 Ty.s3 Ty.b3 Ty.z3 J (fun _ => J)) J J J <| S2 1 J ?_
     exact eJ h (Wk.trans (wk_frz _ [30]) W)
    ·refine pw_skip ?_
     exact eJ h (Wk.trans (wk_frz _ [910003]) (WP (fun l => if l = 30 then 910003 else l)))
  ·refine pw_exit ?_
   refine thenQ_exit <| thenQ_exit <| blockQ_exit ?_
   have h := xL hx15 h
   exact eJ h (Wk.trans (wk_frz _ [910003]) W)

theorem r10_Keys_ok {a0} : PO Tryz.prog 232 [.L r10_Place.Pv a0] (r10_Keys a0) fun r => .L iF r := by
 refine pO Tryz.func232 fun r h _ _ => ?_
 refine S4 1 J <| sR <| y0 J (o_nslice J Ty.e27 Ty.s3) <| S2 1 J ?_
 refine jq h (fun j13 => St.of [(3, .sl 910003)] [(910003, ⟨List.map iF j13, (List.map iF j13).length, true, 1, true⟩)]) (fun j13 h => ?_) fun κ12 h => ?_
 ·refine S4 2 J ?_
  refine pw_ret ?_
  cases h
  exact f1
 ·refine S4 1 J ?_
  refine pw_block <| lq h (fun q => St.of [(0, .L r10_Place.Pv a0), (3, .sl 910003), (4, .I q.1)] [(910003, ⟨List.map iF q.2, (List.map iF q.2).length, true, 1, true⟩)]) (Wk.trans (wk_nil (t := 3) (l := 920003) (z := 1) J J) (WP (fun l => if l = 910003 then 920003 else l))) fun q18 x17 h hx12 => ?_
  obtain ⟨s15, s16⟩ := q18
  refine pw_seq <| S3 2 J <| nL J Ty.e44 <| S2 1 J ?_
  refine cN h (fun hc h => ?_) fun hc h => ?_
  ·refine pw_skip ?_
   refine jq h (fun j22 => St.of [(0, .L r10_Place.Pv a0), (3, .sl 25), (4, .I s15)] [(25, ⟨List.map iF j22, (List.map iF j22).length, true, 1, true⟩)]) (fun j22 h => ?_) fun κ21 h => ?_
   ·refine S6 3 J ?_
    exact eL h (Wk.trans (wk_frz _ [25]) (WP (fun l => if l = 910003 then 25 else l)))
   ·refine pw_block ?_
    refine S3 2 J <| iL h J J Ty.e44 Ty.s182 fun v23 hv16 h => S2 3 J ?_
    refine cN h (fun hc h => ?_) fun hc h => ?_
    ·refine S5 3 J ?_
     refine y0 J (o_ixL (f := r10_Place.Pv) (cs := r10_Place.Pc v23) hv16 J J Ty.e44 Ty.s182 J J) <| S1 2 J <| y0 J (o_bI (f := iF) (l := [v23.Key]) J Ty.e27 Ty.s3 Ty.z3 J J nl J J) <| bnE h fun v24 hv17 h => y_app J (o_apR (f := iF) hv17 J J J J J J (.inl ⟨_, J, J⟩) Ty.e27 Ty.s3 Ty.b3 Ty.z3 J (fun _ => J)) J J J <| S2 1 J ?_
     exact eJ h (Wk.trans (wk_frz _ [25]) W)
    ·refine pw_skip ?_
     exact eJ h (Wk.trans (wk_frz _ [910003]) (WP (fun l => if l = 25 then 910003 else l)))
  ·refine pw_exit ?_
   refine thenQ_exit <| thenQ_exit <| blockQ_exit ?_
   have h := xL hx12 h
   exact eJ h (Wk.trans (wk_frz _ [910003]) W)

theorem r10_Get_ok {a0 a1} : PO Tryz.prog 172 [.L r10_Place.Pv a0, .I a1] (r10_Get a0 a1) fun r => .tup [.I r.1, .I r.2] := by
 refine pO Tryz.func172 fun r h _ _ => ?_
 refine S4 2 J <| S3 2 J <| cA h r10_Find_ok J J fun v1 _ h => S2 1 J <| pw_seq <| S4 2 J ?_
 refine cN h (fun hc h => ?_) fun hc h => ?_
 ·refine S4 2 J ?_
  refine pw_ret ?_
  cases h
  exact f2
 ·refine pw_skip ?_
  refine S3 2 J <| iL h J J Ty.e44 Ty.s182 fun v2 _ h => S2 4 J <| pw_ret ?_
  cases h
  exact f2

theorem r11_Pairs_ok {a0} : PO Tryz.prog 182 [.L r10_Place.Pv a0] (r11_Pairs a0) fun r => .L r11_Pair.Pv r := by
 refine pO Tryz.func182 fun r h _ _ => ?_
 refine S4 1 J <| sR <| y0 J (o_nslice J Ty.e212 Ty.s215) <| S2 1 J <| S3 1 J <| cF h r10_Keys_ok J J fun v1 _ h => S2 1 J ?_
 refine jq h (fun j11 => St.of [(3, .sl 910003)] [(910003, ⟨List.map r11_Pair.Pv j11, (List.map r11_Pair.Pv j11).length, true, 2, true⟩)]) (fun j11 h => ?_) fun κ10 h => ?_
 ·refine S4 2 J ?_
  refine pw_ret ?_
  cases h
  exact f1
 ·refine S4 1 J ?_
  refine pw_block <| lq h (fun q => St.of [(0, .L r10_Place.Pv a0), (3, .sl 910003), (4, .L iF v1), (5, .I q.1)] [(910003, ⟨List.map r11_Pair.Pv q.2, (List.map r11_Pair.Pv q.2).length, true, 2, true⟩)]) (Wk.trans (wk_nil (t := 3) (l := 920003) (z := 2) J J) (WP (fun l => if l = 910003 then 920003 else l))) fun q16 x15 h hx11 => ?_
  obtain ⟨s13, s14⟩ := q16
  refine pw_seq <| S3 2 J <| nL J Ty.e27 <| S2 1 J ?_
  refine cN h (fun hc h => ?_) fun hc h => ?_
  ·refine pw_skip ?_
   refine pw_seq <| pw_block <| S3 3 J <| iL h J J Ty.e27 Ty.s3 fun v17 hv12 h => S1 1 J <| cA h r10_Get_ok J J fun v18 _ h => S2 5 J <| S5 3 J <| y0 J (o_ixL (f := iF) (cs := [.I v17]) hv12 J J Ty.e27 Ty.s3 J J) <| S1 2 J <| y0 J (o_build (cs := [.I v17, .I v18.1]) J Ty.p215 Ty.z215 J J J) <| y0 J (o_bI (f := r11_Pair.Pv) (l := [(⟨v17, v18.1⟩ : r11_Pair)]) J Ty.e212 Ty.s215 Ty.z215 J J nl J J) <| bnE h fun v19 hv14 h => y_app J (o_apR (f := r11_Pair.Pv) hv14 J J J J J J (.inl ⟨_, J, J⟩) Ty.e212 Ty.s215 Ty.b215 Ty.z215 J (fun _ => J)) J J J <| S2 1 J <| S6 3 J ?_
   exact eL h (Wk.trans (wk_frz _ [34]) (WP (fun l => if l = 910003 then 34 else l)))
  ·refine pw_exit ?_
   refine thenQ_exit <| thenQ_exit <| blockQ_exit ?_
   have h := xL hx11 h
   exact eJ h (Wk.trans (wk_frz _ [910003]) W)

theorem r15_names_ok {a0} : PO Tryz.prog 102 [r15_Heap.Pv a0] (r15_names a0) fun r => .bool r := by
 refine pO Tryz.func102 fun r h _ _ => ?_
 refine S4 2 J ?_
 refine jq h (fun _ => St.of [(1, .ptr 1 0 0)] [(1, vR (r15_Heap.Pv a0) 8)]) (fun q7 h => ?_) fun κ6 h => ?_
 ·refine S3 2 J ?_
  refine cF h r06_Live_ok J J fun v8 _ h => S2 1 J ?_
  refine jq h (fun _ => St.of [(1, .ptr 1 0 0)] [(1, vR (r15_Heap.Pv a0) 8)]) (fun q29 h => ?_) fun κ28 h => ?_
  ·refine S3 2 J ?_
   refine cF h r11_Pairs_ok J J fun v30 _ h => S2 1 J ?_
   refine jq h (fun _ => St.of [] []) (fun q38 h => ?_) fun κ37 h => ?_
   ·refine S4 1 J ?_
    refine pw_ret ?_
    cases h
    exact f1
   ·refine S4 1 J ?_
    refine pw_block <| lq h (fun s40 => St.of [(1, .ptr 1 0 0), (9, .L r11_Pair.Pv v30), (10, .I s40)] [(1, vR (r15_Heap.Pv a0) 8)]) W fun s40 x41 h hx37 => pw_seq <| S3 2 J <| nL J Ty.e212 <| S2 1 J ?_
    refine cN h (fun hc h => ?_) fun hc h => ?_
    ·refine pw_skip ?_
     refine pw_seq <| pw_block <| dr [] Ty.mix (by kernel_rfl) (by kernel_rfl) <| S7 3 J <| bnE h fun v42 hv38 h => d0 J (o_ixL (f := r11_Pair.Pv) (cs := r11_Pair.Pc v42) hv38 J J Ty.e212 Ty.s215 J J) J <| S7 2 J <| bnE h fun v43 hv39 h => d2 J (o_cl J r15_Lives_ok J hv39) J <| S7 2 J <| d_if0 J (fun hg => oL J J J Ty.a49 Ty.s49 nl J) J <| d_if7 J (fun hg _ hN => om (d := .L r11_Pair.Pv v30) J) J <| d_if7 J (fun hg _ hN => mI J) J <| d_if0 J (fun hg => o_ixL (f := r11_Pair.Pv) (cs := r11_Pair.Pc v42) hv38 (ct hg) (ct hg) Ty.e212 Ty.s215 J J) J <| d_if7 J (fun hg _ hN => o_fieldAddrR (ct hg) Ty.f215_1 J) J <| d_if0 J (fun hg => o_loadRS (ct hg) Ty.a3 J) J <| bnE h fun v44 hv40 h => d_if2 J (fun hg => o_cl J r15_Lives_ok (consE (ct hg) (consE (ct hg) J)) (onlyE hv40 hg)) J <| d_if7 J (fun hg _ hN => o_not (ct hg) J) J <| d7 J (fun _ hN => pk_or J J J (fun q => eqF q)) J <| d_nil ?_
     refine cN h (fun hc h => ?_) fun hc h => ?_
     ·refine S4 1 J ?_
      refine pw_ret ?_
      have h := xL hx37 h
      cases h
      exact f1
     ·refine pw_skip ?_
      refine S6 3 J ?_
      exact eL h W
    ·refine pw_exit ?_
     refine thenQ_exit <| thenQ_exit <| blockQ_exit ?_
     have h := xL hx37 h
     exact eJ h W
  ·refine S4 1 J ?_
   refine pw_block <| lq h (fun s46 => St.of [(1, .ptr 1 0 0), (4, .L iF v8), (5, .I s46)] [(1, vR (r15_Heap.Pv a0) 8)]) W fun s46 x47 h hx43 => pw_seq <| S3 2 J <| nL J Ty.e27 <| S2 1 J ?_
   refine cN h (fun hc h => ?_) fun hc h => ?_
   ·refine pw_skip ?_
    refine jq h (fun _ => St.of [(1, .ptr 1 0 0), (4, .L iF v8), (5, .I s46)] [(1, vR (r15_Heap.Pv a0) 8)]) (fun q56 h => ?_) fun κ55 h => ?_
    ·refine S6 3 J ?_
     exact eL h W
    ·refine pw_block ?_
     refine dr [] Ty.mix (by kernel_rfl) (by kernel_rfl) <| S7 4 J <| bnE h fun v57 hv52 h => d0 J (o_ixL (f := iF) (cs := [.I v57]) hv52 J J Ty.e27 Ty.s3 J J) J <| S7 1 J <| bnE h fun v58 hv53 h => d2f J (o_clF J r06_Get_ok J hv53) J <| S7 4 J <| d_sto (x' := r06_Obj.Pv v58.1) (cl' := true) J J (.inr J) Ty.s63 <| S8 1 J <| S4 1 J <| pw_block <| lq h (fun s60 => St.of [(1, .ptr 1 0 0), (4, .L iF v8), (5, .I s46), (6, .ptr 6 0 0), (8, .I s60)] [(6, vR (r06_Obj.Pv v58.1) 6), (1, vR (r15_Heap.Pv a0) 8)]) W fun s60 x61 h hx56 => pw_seq <| S3 3 J <| nL J Ty.e27 <| S2 1 J ?_
     refine cN h (fun hc h => ?_) fun hc h => ?_
     ·refine pw_skip ?_
      refine pw_seq <| pw_block <| dr [] Ty.mix (by kernel_rfl) (by kernel_rfl) <| S7 4 J <| bnE h fun v62 hv57 h => d0 J (o_ixL (f := iF) (cs := [.I v62]) hv57 J J Ty.e27 Ty.s3 J J) J <| S7 1 J <| bnE h fun v63 hv58 h => d2 J (o_cl J r15_maybe_ok J hv58) J <| S8 1 J ?_
      refine cN h (fun hc h => ?_) fun hc h => ?_
      ·refine S4 1 J ?_
       refine pw_ret ?_
       have h := xL hx56 h
       have h := xL hx43 h
       cases h
       exact f1
      ·refine pw_skip ?_
       refine S6 3 J ?_
       exact eL h W
     ·refine pw_exit ?_
      refine thenQ_exit <| thenQ_exit <| blockQ_exit ?_
      have h := xL hx56 h
      exact eJ h W
   ·refine pw_exit ?_
    refine thenQ_exit <| thenQ_exit <| blockQ_exit ?_
    have h := xL hx43 h
    exact eJ h W
 ·refine S4 1 J ?_
  refine pw_block <| lq h (fun s65 => St.of [(1, .ptr 1 0 0), (3, .I s65)] [(1, vR (r15_Heap.Pv a0) 8)]) W fun s65 x66 h hx61 => pw_seq <| S3 3 J <| nL J Ty.e27 <| S2 1 J ?_
  refine cN h (fun hc h => ?_) fun hc h => ?_
  ·refine pw_skip ?_
   refine pw_seq <| pw_block <| dr [] Ty.mix (by kernel_rfl) (by kernel_rfl) <| S7 4 J <| bnE h fun v67 hv62 h => d0 J (o_ixL (f := iF) (cs := [.I v67]) hv62 J J Ty.e27 Ty.s3 J J) J <| S7 1 J <| bnE h fun v68 hv63 h => d2 J (o_cl J r15_maybe_ok J hv63) J <| S8 1 J ?_
   refine cN h (fun hc h => ?_) fun hc h => ?_
   ·refine S4 1 J ?_
    refine pw_ret ?_
    have h := xL hx61 h
    cases h
    exact f1
   ·refine pw_skip ?_
    refine S6 3 J ?_
    exact eL h W
  ·refine pw_exit ?_
   refine thenQ_exit <| thenQ_exit <| blockQ_exit ?_
   have h := xL hx61 h
   exact eJ h W

theorem r14_Waits_ok {a0 a1} : PO Tryz.prog 84 [r14_Queue.Pv a0, .I a1] (r14_Waits a0 a1) fun r => .bool r := by
 refine pO Tryz.func84 fun r h _ _ => ?_
 refine S4 2 J ?_
 refine jq h (fun _ => St.of [] []) (fun q6 h => ?_) fun κ5 h => ?_
 ·refine S4 1 J ?_
  refine pw_ret ?_
  cases h
  exact f1
 ·refine S4 1 J ?_
  refine pw_block <| lq h (fun s8 => St.of [(1, .I a1), (2, .ptr 2 0 0), (5, .I s8)] [(2, vR (r14_Queue.Pv a0) 2)]) W fun s8 x9 h hx8 => pw_seq <| S3 3 J <| nL J Ty.e45 <| S2 1 J ?_
  refine cN h (fun hc h => ?_) fun hc h => ?_
  ·refine pw_skip ?_
   refine pw_seq <| pw_block <| S3 3 J <| iL h J J Ty.e45 Ty.s151 fun v10 hv9 h => S1 4 J <| y_if J (fun hg => oF J Ty.f47_0 J) <| y_if J (fun hg => oS (ct hg) J J Ty.a45 J) <| y_if J (fun hg => mI J) <| y_if J (fun hg => o_ixL (f := r14_Task.Pv) (cs := r14_Task.Pc v10) hv9 (ct hg) (ct hg) Ty.e45 Ty.s151 J J) <| y_if J (fun hg => o_fieldAddrR (ct hg) Ty.f151_1 J) <| y_if J (fun hg => o_loadRS (ct hg) Ty.a3 J) <| y_if J (fun hg => mI J) <| y_if J (fun hg => o_cmp (ct hg) (ct hg) J) <| y0 J (pk_and J J J (fun q => eqT q)) <| yN ?_
   refine cN h (fun hc h => ?_) fun hc h => ?_
   ·refine S4 1 J ?_
    refine pw_ret ?_
    have h := xL hx8 h
    cases h
    exact f1
   ·refine pw_skip ?_
    refine S6 3 J ?_
    exact eL h W
  ·refine pw_exit ?_
   refine thenQ_exit <| thenQ_exit <| blockQ_exit ?_
   have h := xL hx8 h
   exact eJ h W

theorem r15_cells_ok {a0} : PO Tryz.prog 103 [r15_Heap.Pv a0] (r15_cells a0) fun r => .bool r := by
 refine pO Tryz.func103 fun r h _ _ => ?_
 refine S4 2 J ?_
 refine jq h (fun _ => St.of [] []) (fun q10 h => ?_) fun κ9 h => ?_
 ·refine S4 1 J ?_
  refine pw_ret ?_
  cases h
  exact f1
 ·refine S4 1 J ?_
  refine pw_block <| lq h (fun s12 => St.of [(1, .ptr 1 0 0), (3, .I s12)] [(1, vR (r15_Heap.Pv a0) 8)]) W fun s12 x13 h hx12 => pw_seq <| S3 3 J <| nL J Ty.e43 <| S2 1 J ?_
  refine cN h (fun hc h => ?_) fun hc h => ?_
  ·refine pw_skip ?_
   refine pw_seq <| pw_block <| S3 3 J <| iL h J J Ty.e43 Ty.s160 fun v14 _ h => S2 3 J <| dr [] Ty.mix (by kernel_rfl) (by kernel_rfl) <| S7 2 J <| bnE h fun v15 hv14 h => d2f J (o_clF J r06_Plain_ok J hv14) J <| S7 2 J <| bnE h fun v16 hv15 h => d2 J (o_cl J r03_Find_ok J hv15) J <| S8 5 J <| S3 4 J <| y_if J (fun hg => oF J Ty.f160_2 J) <| y_if J (fun hg => oS (ct hg) J J Ty.a3 J) <| y_if J (fun hg => o_cmp (ct hg) J J) <| y0 J (pk_or J J J (fun q => eqF q)) <| S1 1 J <| y_if J (fun hg => oF J Ty.f160_0 J) <| y_if J (fun hg => oS (ct hg) J J Ty.a3 J) <| y_if J (fun hg => o_cmp (ct hg) J J) <| y_if J (fun hg => om (d := .bool (v14.Target == 0)) (ct hg)) <| y_if (want2 J J J) (fun hg => oF J Ty.f160_1 J) <| y_if (want2 J J J) (fun hg => oS (ct hg) J J Ty.a4 J) <| y_if J (fun hg => pk_and (ct hg) J J (fun q => andI hg (eqT q))) <| y0 J (pk_or J J J (fun q => eqF q)) <| S1 1 J <| y_if J (fun hg => oF J Ty.f160_0 J) <| y_if J (fun hg => oS (ct hg) J J Ty.a3 J) <| y_if J (fun hg => o_cmp (ct hg) J J) <| y_if J (fun hg => om (d := .bool (v14.Target != 0)) (ct hg)) <| y_if (want2 J J J) (fun hg => mI J) <| y_if (want2 J J J) (fun hg => o_cmp (ct hg) J J) <| y_if J (fun hg => pk_and (ct hg) J J (fun q => andI hg (eqT q))) <| y0 J (pk_or J J J (fun q => eqF q)) <| S1 1 J <| y_if J (fun hg => oF J Ty.f160_1 J) <| y_if J (fun hg => oS (ct hg) J J Ty.a4 J) <| y_if J (fun hg => om (d := .bool v14.Intact) (ct hg)) <| y_if (want2 J J J) (fun hg => oL J J J Ty.a49 Ty.s49 nl J) ?_
   refine y_if (want2 J J J) (fun hg => oF J Ty.f160_0 J) <| y_if (want2 J J J) (fun hg => oS (ct hg) J J Ty.a3 J) <| bnE h fun v17 hv16 h => y_if (want2 J J J) (fun hg => o_cl J r15_Lives_ok (consE (ct hg) (consE (ct hg) J)) (onlyE hv16 hg)) <| y_if (want2 J J J) (fun hg => o_not (ct hg) J) <| y_if (want2 J J J) (fun hg => om (d := .bool (!v17)) (ct hg)) <| y_if (want2 J J J) (fun hg => oF J Ty.f49_4 J) <| y_if (want2 J J J) (fun hg => oL (ct hg) J J Ty.a47 Ty.s47 nl J) <| y_if (want2 J J J) (fun hg => mI J) <| bnE h fun v18 hv17 h => y_if (want2 J J J) (fun hg => o_cl J r14_Waits_ok (consE (ct hg) (consE (ct hg) J)) (onlyE hv17 hg)) <| y_if (want2 J J J) (fun hg => pk_or (ct hg) J J (fun q => andI hg (eqF q))) <| y_if J (fun hg => pk_and (ct hg) J J (fun q => andI hg (eqT q))) <| y0 J (pk_or J J J (fun q => eqF q)) <| yN ?_
   refine cN h (fun hc h => ?_) fun hc h => ?_
   ·refine S4 1 J ?_
    refine pw_ret ?_
    have h := xL hx12 h
    cases h
    exact f1
   ·refine pw_skip ?_
    refine S6 3 J ?_
    exact eL h W
  ·refine pw_exit ?_
   refine thenQ_exit <| thenQ_exit <| blockQ_exit ?_
   have h := xL hx12 h
   exact eJ h W

theorem r03_Handle_ok {a0 a1} : PO Tryz.prog 183 [.I a0, .I a1] (r03_Handle a0 a1) fun r => .I r := by
 refine pO Tryz.func183 fun r h _ _ => ?_
 refine S4 1 J <| S3 2 J <| cA h r01_Pack_ok J J fun v1 _ h => S2 1 J <| pw_ret ?_
 cases h
 exact f1

theorem r09_Naming_ok {a0 a1} : PO Tryz.prog 184 [.L r09_Cell.Pv a0, .I a1] (r09_Naming a0 a1) fun r => .I r := by
 refine pO Tryz.func184 fun r h _ _ => ?_
 refine S4 1 J <| S4 1 J ?_
 refine jq h (fun j11 => St.of [(5, .I j11)] []) (fun j11 h => ?_) fun κ10 h => ?_
 ·refine S4 2 J ?_
  refine pw_ret ?_
  cases h
  exact f1
 ·refine S4 1 J ?_
  refine pw_block <| lq h (fun q => St.of [(0, .L r09_Cell.Pv a0), (1, .I a1), (5, .I q.1), (6, .I q.2)] []) W fun q16 x15 h hx10 => ?_
  obtain ⟨s13, s14⟩ := q16
  refine pw_seq <| S3 2 J <| nL J Ty.e43 <| S2 1 J ?_
  refine cN h (fun hc h => ?_) fun hc h => ?_
  ·refine pw_skip ?_
   refine jq h (fun j19 => St.of [(0, .L r09_Cell.Pv a0), (1, .I a1), (5, .I j19), (6, .I s14)] []) (fun j19 h => ?_) fun κ18 h => ?_
   ·refine S6 3 J ?_
    exact eL h W
   ·refine pw_block ?_
    refine S3 2 J <| iL h J J Ty.e43 Ty.s160 fun v20 _ h => S1 5 J <| y_if J (fun hg => mI J) <| y_if J (fun hg => o_cmp (ct hg) J J) <| y0 J (pk_and J J J (fun q => eqT q)) <| yN ?_
    refine cN h (fun hc h => ?_) fun hc h => ?_
    ·refine S6 3 J ?_
     exact eJ h W
    ·refine pw_skip ?_
     exact eJ h W
  ·refine pw_exit ?_
   refine thenQ_exit <| thenQ_exit <| blockQ_exit ?_
   have h := xL hx10 h
   exact eJ h W

theorem r15_weaks_ok {a0} : PO Tryz.prog 104 [r15_Heap.Pv a0] (r15_weaks a0) fun r => .bool r := by
 refine pO Tryz.func104 fun r h _ _ => ?_
 refine S4 2 J ?_
 refine jq h (fun _ => St.of [] []) (fun q13 h => ?_) fun κ12 h => ?_
 ·refine S4 1 J ?_
  refine pw_ret ?_
  cases h
  exact f1
 ·refine S4 1 J ?_
  refine pw_block <| lq h (fun s15 => St.of [(1, .ptr 1 0 0), (3, .I s15)] [(1, vR (r15_Heap.Pv a0) 8)]) W fun s15 x16 h hx14 => pw_seq <| S3 4 J <| nL J Ty.e40 <| S2 1 J ?_
  refine cN h (fun hc h => ?_) fun hc h => ?_
  ·refine pw_skip ?_
   refine jq h (fun _ => St.of [(1, .ptr 1 0 0), (3, .I s15)] [(1, vR (r15_Heap.Pv a0) 8)]) (fun q21 h => ?_) fun κ20 h => ?_
   ·refine S6 3 J ?_
    exact eL h W
   ·refine pw_block ?_
    refine S3 4 J <| iL h J J Ty.e40 Ty.s139 fun v22 _ h => S2 3 J <| pw_seq <| S3 4 J <| y_if J (fun hg => oF J Ty.f139_0 J) <| y_if J (fun hg => oS (ct hg) J J Ty.a3 J) <| y_if J (fun hg => o_cmp (ct hg) J J) <| y0 J (pk_and J J J (fun q => eqT q)) <| yN ?_
    refine cN h (fun hc h => ?_) fun hc h => ?_
    ·refine pw_exit ?_
     refine thenQ_exit <| blockQ_exit ?_
     exact eJ h W
    ·refine pw_skip ?_
     refine S3 3 J <| cA h r03_Handle_ok J J fun v23 _ h => S2 1 J <| dr [] Ty.mix (by kernel_rfl) (by kernel_rfl) <| S7 6 J <| bnE h fun v24 hv21 h => d2 J (o_cl J r09_Naming_ok J hv21) J <| S7 2 J <| d_if7 J (fun hg _ hN => oF J Ty.f139_0 J) J <| d_if0 J (fun hg => oS (ct hg) J J Ty.a3 J) J <| d_if7 J (fun hg _ hN => o_cmp (ct hg) J J) J <| d_if7 J (fun hg _ hN => om (d := .bool (v22.State == 2)) (ct hg)) J <| d_if7 (want2 J J J) (fun hg _ hN => oF J Ty.f139_2 J) J <| d_if7 (want2 J J J) (fun hg _ hN => oF (ct hg) Ty.f63_2 J) J <| d_if0 (want2 J J J) (fun hg => oS (ct hg) J J Ty.a3 J) J <| d_if7 (want2 J J J) (fun hg _ hN => o_cmp (ct hg) J J) J <| d_if7 (want2 J J J) (fun hg _ hN => om (d := .bool (decide (v22.Val.Weak < 1))) (ct hg)) J <| d_if7 (want2 J J J) (fun hg _ hN => oF J Ty.f139_2 J) J <| d_if7 (want2 J J J) (fun hg _ hN => oF (ct hg) Ty.f63_5 J) J <| d_if0 (want2 J J J) (fun hg => oS (ct hg) J J Ty.a27 J) J <| d_if0 (want2 J J J) (fun hg => o_lnL (f := iF) (ct hg) Ty.e27) J <| d_if7 (want2 J J J) (fun hg _ hN => o_cmp (ct hg) J J) J <| d_if7 (want2 J J J) (fun hg _ hN => pk_or (ct hg) J J (fun q => andI hg (eqF q))) J <| d_if7 (want2 J J J) (fun hg _ hN => om (d := .bool ((decide (v22.Val.Weak < 1)) || (decide ((v22.Val.Fields.length : Int) > 0)))) (ct hg)) J <| d_if7 (want2 J J J) (fun hg _ hN => oF J Ty.f139_2 J) J <| d_if7 (want2 J J J) (fun hg _ hN => oF (ct hg) Ty.f63_1 J) J <| d_if0 (want2 J J J) (fun hg => oS (ct hg) J J Ty.a3 J) J <| d_if7 (want2 J J J) (fun hg _ hN => o_cmp (ct hg) J J) J <| d_if7 (want2 J J J) (fun hg _ hN => pk_or (ct hg) J J (fun q => andI hg (eqF q))) J <| d_if7 J (fun hg _ hN => pk_and (ct hg) J J (fun q => andI hg (eqT q))) J <| d7 J (fun _ hN => pk_or J J J (fun q => eqF q)) J <| d_nil ?_
     refine cN h (fun hc h => ?_) fun hc h => ?_
     ·refine S4 1 J ?_
      refine pw_ret ?_
      have h := xL hx14 h
      cases h
      exact f1
     ·refine pw_skip ?_
      exact eJ h W
  ·refine pw_exit ?_
   refine thenQ_exit <| thenQ_exit <| blockQ_exit ?_
   have h := xL hx14 h
   exact eJ h W

theorem r14_Held_ok {a0} : PO Tryz.prog 48 [r14_Queue.Pv a0] (r14_Held a0) fun r => .L iF r := by
 refine pO Tryz.func48 fun r h _ _ => ?_
 refine S4 2 J <| sR <| y0 J (o_nslice J Ty.e27 Ty.s3) <| S2 1 J ?_
 refine jq h (fun j13 => St.of [(3, .sl 910003)] [(910003, ⟨List.map iF j13, (List.map iF j13).length, true, 1, true⟩)]) (fun j13 h => ?_) fun κ12 h => ?_
 ·refine S4 2 J ?_
  refine pw_ret ?_
  cases h
  exact f1
 ·refine S4 1 J ?_
  refine pw_block <| lq h (fun q => St.of [(1, .ptr 1 0 0), (3, .sl 910003), (4, .I q.1)] [(1, vR (r14_Queue.Pv a0) 2), (910003, ⟨List.map iF q.2, (List.map iF q.2).length, true, 1, true⟩)]) (Wk.trans (wk_nil (t := 3) (l := 920003) (z := 1) J J) (WP (fun l => if l = 910003 then 920003 else l))) fun q18 x17 h hx12 => ?_
  obtain ⟨s15, s16⟩ := q18
  refine pw_seq <| S3 3 J <| nL J Ty.e45 <| S2 1 J ?_
  refine cN h (fun hc h => ?_) fun hc h => ?_
  ·refine pw_skip ?_
   refine jq h (fun j22 => St.of [(1, .ptr 1 0 0), (3, .sl 28), (4, .I s15)] [(28, ⟨List.map iF j22, (List.map iF j22).length, true, 1, true⟩), (1, vR (r14_Queue.Pv a0) 2)]) (fun j22 h => ?_) fun κ21 h => ?_
   ·refine S6 3 J ?_
    exact eL h (Wk.trans (wk_frz _ [28]) (WP (fun l => if l = 910003 then 28 else l)))
   ·refine pw_block ?_
    refine S3 3 J <| iL h J J Ty.e45 Ty.s151 fun v23 hv16 h => S2 3 J ?_
    refine cN h (fun hc h => ?_) fun hc h => ?_
    ·refine S5 4 J ?_
     refine y0 J (o_ixL (f := r14_Task.Pv) (cs := r14_Task.Pc v23) hv16 J J Ty.e45 Ty.s151 J J) <| S1 2 J <| y0 J (o_bI (f := iF) (l := [v23.At]) J Ty.e27 Ty.s3 Ty.z3 J J nl J J) <| bnE h fun v24 hv17 h => y_app J (o_apR (f := iF) hv17 J J J J J J (.inl ⟨_, J, J⟩) Ty.e27 Ty.s3 Ty.b3 Ty.z3 J (fun _ => J)) J J J <| S2 1 J ?_
     exact eJ h (Wk.trans (wk_frz _ [28]) W)
    ·refine pw_skip ?_
     exact eJ h (Wk.trans (wk_frz _ [910003]) (WP (fun l => if l = 28 then 910003 else l)))
  ·refine pw_exit ?_
   refine thenQ_exit <| thenQ_exit <| blockQ_exit ?_
   have h := xL hx12 h
   exact eJ h (Wk.trans (wk_frz _ [910003]) W)

theorem r15_Outer_ok {a0} : PO Tryz.prog 55 [r15_Heap.Pv a0] (r15_Outer a0) fun r => .L iF r := by
 refine pO Tryz.func55 fun r h _ _ => ?_
 refine S4 2 J <| sR <| y0 J (o_nslice J Ty.e27 Ty.s3) <| S2 1 J ?_
 refine jq h (fun j13 => St.of [(1, .ptr 1 0 0), (3, .sl 910003)] [(910003, ⟨List.map iF j13, (List.map iF j13).length, true, 1, true⟩), (1, vR (r15_Heap.Pv a0) 8)]) (fun j13 h => ?_) fun κ12 h => ?_
 ·refine S3 3 J ?_
  refine cF h r14_Held_ok J J fun v14 _ h => bnE h fun v15 hv11 h => y_app J (o_apR (f := iF) hv11 J J J J J J (.inl ⟨_, J, J⟩) Ty.e27 Ty.s3 Ty.b3 Ty.z3 J (fun _ => J)) J J J <| S2 1 J <| pw_ret ?_
  cases h
  exact f1
 ·refine S4 1 J ?_
  refine pw_block <| lq h (fun q => St.of [(1, .ptr 1 0 0), (3, .sl 910003), (4, .I q.1)] [(1, vR (r15_Heap.Pv a0) 8), (910003, ⟨List.map iF q.2, (List.map iF q.2).length, true, 1, true⟩)]) (Wk.trans (wk_nil (t := 3) (l := 920003) (z := 1) J J) (WP (fun l => if l = 910003 then 920003 else l))) fun q20 x19 h hx14 => ?_
  obtain ⟨s17, s18⟩ := q20
  refine pw_seq <| S3 3 J <| nL J Ty.e27 <| S2 1 J ?_
  refine cN h (fun hc h => ?_) fun hc h => ?_
  ·refine pw_skip ?_
   refine jq h (fun j24 => St.of [(1, .ptr 1 0 0), (3, .sl 26), (4, .I s17)] [(26, ⟨List.map iF j24, (List.map iF j24).length, true, 1, true⟩), (1, vR (r15_Heap.Pv a0) 8)]) (fun j24 h => ?_) fun κ23 h => ?_
   ·refine S6 3 J ?_
    exact eL h (Wk.trans (wk_frz _ [26]) (WP (fun l => if l = 910003 then 26 else l)))
   ·refine pw_block ?_
    refine S3 3 J <| iL h J J Ty.e27 Ty.s3 fun v25 hv18 h => S2 2 J ?_
    refine cN h (fun hc h => ?_) fun hc h => ?_
    ·refine S5 4 J ?_
     refine y0 J (o_ixL (f := iF) (cs := [.I v25]) hv18 J J Ty.e27 Ty.s3 J J) <| S1 1 J <| y0 J (o_bI (f := iF) (l := [v25]) J Ty.e27 Ty.s3 Ty.z3 J J nl J J) <| bnE h fun v26 hv19 h => y_app J (o_apR (f := iF) hv19 J J J J J J (.inl ⟨_, J, J⟩) Ty.e27 Ty.s3 Ty.b3 Ty.z3 J (fun _ => J)) J J J <| S2 1 J ?_
     exact eJ h (Wk.trans (wk_frz _ [26]) W)
    ·refine pw_skip ?_
     exact eJ h (Wk.trans (wk_frz _ [910003]) (WP (fun l => if l = 26 then 910003 else l)))
  ·refine pw_exit ?_
   refine thenQ_exit <| thenQ_exit <| blockQ_exit ?_
   have h := xL hx14 h
   exact eJ h (Wk.trans (wk_frz _ [910003]) W)

theorem r04_Stuck_ok {a0} : PO Tryz.prog 177 [.I a0] (r04_Stuck a0) fun r => .bool r := by
 refine pO Tryz.func177 fun r h _ _ => ?_
 unfold r04_Stuck at h
 refine S4 1 J <| S4 3 J <| pw_ret ?_
 cases h
 exact f1

theorem r13_stuck_ok {a0 a1} : PO Tryz.prog 185 [r06_Store.Pv a0, .I a1] (r13_stuck a0 a1) fun r => .bool r := by
 refine pO Tryz.func185 fun r h _ _ => ?_
 refine S4 2 J <| S3 2 J <| cF h r06_Get_ok J J fun v1 _ h => S2 6 J <| S3 2 J <| cA h r04_Stuck_ok J J fun v2 _ h => S2 1 J <| pw_ret ?_
 cases h
 exact f1

theorem r05_Names_ok {a0} : PO Tryz.prog 126 [.L iF a0] (r05_Names a0) fun r => .L iF r := by
 refine pO Tryz.func126 fun r h _ _ => ?_
 refine S4 1 J <| sR <| y0 J (o_nslice J Ty.e27 Ty.s3) <| S2 1 J ?_
 refine jq h (fun j13 => St.of [(3, .sl 910003)] [(910003, ⟨List.map iF j13, (List.map iF j13).length, true, 1, true⟩)]) (fun j13 h => ?_) fun κ12 h => ?_
 ·refine S4 2 J ?_
  refine pw_ret ?_
  cases h
  exact f1
 ·refine S4 1 J ?_
  refine pw_block <| lq h (fun q => St.of [(0, .L iF a0), (3, .sl 910003), (4, .I q.1)] [(910003, ⟨List.map iF q.2, (List.map iF q.2).length, true, 1, true⟩)]) (Wk.trans (wk_nil (t := 3) (l := 920003) (z := 1) J J) (WP (fun l => if l = 910003 then 920003 else l))) fun q18 x17 h hx12 => ?_
  obtain ⟨s15, s16⟩ := q18
  refine pw_seq <| S3 2 J <| nL J Ty.e27 <| S2 1 J ?_
  refine cN h (fun hc h => ?_) fun hc h => ?_
  ·refine pw_skip ?_
   refine jq h (fun j22 => St.of [(0, .L iF a0), (3, .sl 23), (4, .I s15)] [(23, ⟨List.map iF j22, (List.map iF j22).length, true, 1, true⟩)]) (fun j22 h => ?_) fun κ21 h => ?_
   ·refine S6 3 J ?_
    exact eL h (Wk.trans (wk_frz _ [23]) (WP (fun l => if l = 910003 then 23 else l)))
   ·refine pw_block ?_
    refine S3 2 J <| iL h J J Ty.e27 Ty.s3 fun v23 hv16 h => S2 2 J ?_
    refine cN h (fun hc h => ?_) fun hc h => ?_
    ·refine S5 3 J ?_
     refine y0 J (o_ixL (f := iF) (cs := [.I v23]) hv16 J J Ty.e27 Ty.s3 J J) <| S1 1 J <| y0 J (o_bI (f := iF) (l := [v23]) J Ty.e27 Ty.s3 Ty.z3 J J nl J J) <| bnE h fun v24 hv17 h => y_app J (o_apR (f := iF) hv17 J J J J J J (.inl ⟨_, J, J⟩) Ty.e27 Ty.s3 Ty.b3 Ty.z3 J (fun _ => J)) J J J <| S2 1 J ?_
     exact eJ h (Wk.trans (wk_frz _ [23]) W)
    ·refine pw_skip ?_
     exact eJ h (Wk.trans (wk_frz _ [910003]) (WP (fun l => if l = 23 then 910003 else l)))
  ·refine pw_exit ?_
   refine thenQ_exit <| thenQ_exit <| blockQ_exit ?_
   have h := xL hx12 h
   exact eJ h (Wk.trans (wk_frz _ [910003]) W)

theorem r07_Out_ok {a0 a1} : PO Tryz.prog 130 [r06_Store.Pv a0, .I a1] (r07_Out a0 a1) fun r => .L iF r := by
 refine pO Tryz.func130 fun r h _ _ => ?_
 refine S4 2 J <| S3 2 J <| cF h r06_Get_ok J J fun v1 _ h => S2 6 J <| pw_seq <| S4 2 J ?_
 refine cN h (fun hc h => ?_) fun hc h => ?_
 ·refine S4 1 J ?_
  refine pw_ret ?_
  cases h
  exact f1
 ·refine pw_skip ?_
  refine S3 2 J <| cF h r05_Names_ok J J fun v2 _ h => S2 1 J <| pw_ret ?_
  cases h
  exact f1

theorem r07_Times_ok {a0 a1} : PO Tryz.prog 57 [.L iF a0, .I a1] (r07_Times a0 a1) fun r => .I r := by
 refine pO Tryz.func57 fun r h _ _ => ?_
 refine S4 1 J <| S4 1 J ?_
 refine jq h (fun j11 => St.of [(5, .I j11)] []) (fun j11 h => ?_) fun κ10 h => ?_
 ·refine S4 2 J ?_
  refine pw_ret ?_
  cases h
  exact f1
 ·refine S4 1 J ?_
  refine pw_block <| lq h (fun q => St.of [(0, .L iF a0), (1, .I a1), (5, .I q.1), (6, .I q.2)] []) W fun q16 x15 h hx10 => ?_
  obtain ⟨s13, s14⟩ := q16
  refine pw_seq <| S3 2 J <| nL J Ty.e27 <| S2 1 J ?_
  refine cN h (fun hc h => ?_) fun hc h => ?_
  ·refine pw_skip ?_
   refine jq h (fun j19 => St.of [(0, .L iF a0), (1, .I a1), (5, .I j19), (6, .I s14)] []) (fun j19 h => ?_) fun κ18 h => ?_
   ·refine S6 3 J ?_
    exact eL h W
   ·refine pw_block ?_
    refine S3 2 J <| iL h J J Ty.e27 Ty.s3 fun v20 _ h => S1 4 J <| y_if J (fun hg => mI J) <| y_if J (fun hg => o_cmp (ct hg) J J) <| y0 J (pk_and J J J (fun q => eqT q)) <| yN ?_
    refine cN h (fun hc h => ?_) fun hc h => ?_
    ·refine S6 3 J ?_
     exact eJ h W
    ·refine pw_skip ?_
     exact eJ h W
  ·refine pw_exit ?_
   refine thenQ_exit <| thenQ_exit <| blockQ_exit ?_
   have h := xL hx10 h
   exact eJ h W

theorem r07_In_ok {a0 a1} : PO Tryz.prog 267 [r06_Store.Pv a0, .I a1] (r07_In a0 a1) fun r => .I r := by
 refine pO Tryz.func267 fun r h _ _ => ?_
 refine S4 2 J <| S4 1 J <| S3 1 J <| cF h r06_Live_ok J J fun v1 _ h => S2 1 J ?_
 refine jq h (fun j11 => St.of [(5, .I j11)] []) (fun j11 h => ?_) fun κ10 h => ?_
 ·refine S4 2 J ?_
  refine pw_ret ?_
  cases h
  exact f1
 ·refine S4 1 J ?_
  refine pw_block <| lq h (fun q => St.of [(1, .I a1), (2, .ptr 2 0 0), (5, .I q.1), (6, .L iF v1), (7, .I q.2)] [(2, vR (r06_Store.Pv a0) 3)]) W fun q16 x15 h hx11 => ?_
  obtain ⟨s13, s14⟩ := q16
  refine pw_seq <| S3 2 J <| nL J Ty.e27 <| S2 1 J ?_
  refine cN h (fun hc h => ?_) fun hc h => ?_
  ·refine pw_skip ?_
   refine pw_seq <| pw_block <| pw_drw [] Ty.mix (by kernel_rfl) (by kernel_rfl) <| S7 4 J <| bnE h fun v17 hv12 h => d0 J (o_ixL (f := iF) (cs := [.I v17]) hv12 J J Ty.e27 Ty.s3 J J) J <| S7 1 J <| bnE h fun v18 hv13 h => d2f J (o_clF J r07_Out_ok J hv13) J <| S7 1 J <| bnE h fun v19 hv14 h => d2 J (o_cl J r07_Times_ok J hv14) J <| S8 2 J <| S6 3 J ?_
   exact eL h W
  ·refine pw_exit ?_
   refine thenQ_exit <| thenQ_exit <| blockQ_exit ?_
   have h := xL hx11 h
   exact eJ h W

theorem r11_Owned_ok {a0 a1} : PO Tryz.prog 268 [.L r10_Place.Pv a0, .I a1] (r11_Owned a0 a1) fun r => .I r := by
 refine pO Tryz.func268 fun r h _ _ => ?_
 refine S4 1 J <| S4 1 J <| S3 1 J <| cF h r11_Pairs_ok J J fun v1 _ h => S2 1 J ?_
 refine jq h (fun j12 => St.of [(5, .I j12)] []) (fun j12 h => ?_) fun κ11 h => ?_
 ·refine S4 2 J ?_
  refine pw_ret ?_
  cases h
  exact f1
 ·refine S4 1 J ?_
  refine pw_block <| lq h (fun q => St.of [(1, .I a1), (5, .I q.1), (6, .L r11_Pair.Pv v1), (7, .I q.2)] []) W fun q17 x16 h hx11 => ?_
  obtain ⟨s14, s15⟩ := q17
  refine pw_seq <| S3 2 J <| nL J Ty.e212 <| S2 1 J ?_
  refine cN h (fun hc h => ?_) fun hc h => ?_
  ·refine pw_skip ?_
   refine jq h (fun j20 => St.of [(1, .I a1), (5, .I j20), (6, .L r11_Pair.Pv v1), (7, .I s15)] []) (fun j20 h => ?_) fun κ19 h => ?_
   ·refine S6 3 J ?_
    exact eL h W
   ·refine pw_block ?_
    refine S3 2 J <| iL h J J Ty.e212 Ty.s215 fun v21 _ h => S1 5 J <| y_if J (fun hg => mI J) <| y_if J (fun hg => o_cmp (ct hg) J J) <| y0 J (pk_and J J J (fun q => eqT q)) <| yN ?_
    refine cN h (fun hc h => ?_) fun hc h => ?_
    ·refine S6 3 J ?_
     exact eJ h W
    ·refine pw_skip ?_
     exact eJ h W
  ·refine pw_exit ?_
   refine thenQ_exit <| thenQ_exit <| blockQ_exit ?_
   have h := xL hx11 h
   exact eJ h W

theorem r13_Inner_ok {a0 a1 a2} : PO Tryz.prog 233 [r06_Store.Pv a0, .L r10_Place.Pv a1, .I a2] (r13_Inner a0 a1 a2) fun r => .I r := by
 refine pO Tryz.func233 fun r h _ _ => ?_
 refine S4 2 J <| S3 2 J <| cA h r07_In_ok J J fun v1 _ h => S1 2 J <| cA h r11_Owned_ok J J fun v2 _ h => S2 2 J <| pw_ret ?_
 cases h
 exact f1

theorem r13_Rest_ok {a0 a1 a2} : PO Tryz.prog 186 [r06_Store.Pv a0, .L r10_Place.Pv a1, .I a2] (r13_Rest a0 a1 a2) fun r => .I r := by
 refine pO Tryz.func186 fun r h _ _ => ?_
 refine S4 2 J <| S3 2 J <| cF h r06_Get_ok J J fun v1 _ h => S2 6 J <| pw_seq <| S4 2 J ?_
 refine cN h (fun hc h => ?_) fun hc h => ?_
 ·refine S4 1 J ?_
  refine pw_ret ?_
  cases h
  exact f1
 ·refine pw_skip ?_
  refine dr [] Ty.mix (by kernel_rfl) (by kernel_rfl) <| S7 5 J <| bnE h fun v2 hv2 h => d2 J (o_cl J r13_Inner_ok J hv2) J <| S8 2 J <| pw_ret ?_
  cases h
  exact f1

theorem r13_Fair_ok {a0 a1 a2} : PO Tryz.prog 105 [r06_Store.Pv a0, .L r10_Place.Pv a1, .L iF a2] (r13_Fair a0 a1 a2) fun r => .bool r := by
 refine pO Tryz.func105 fun r h _ _ => ?_
 refine S4 2 J <| S3 1 J <| cF h r06_Live_ok J J fun v1 _ h => S2 1 J ?_
 refine jq h (fun _ => St.of [] []) (fun q10 h => ?_) fun κ9 h => ?_
 ·refine S4 1 J ?_
  refine pw_ret ?_
  cases h
  exact f1
 ·refine S4 1 J ?_
  refine pw_block <| lq h (fun s12 => St.of [(1, .L r10_Place.Pv a1), (2, .L iF a2), (3, .ptr 3 0 0), (7, .L iF v1), (8, .I s12)] [(3, vR (r06_Store.Pv a0) 3)]) W fun s12 x13 h hx12 => pw_seq <| S3 2 J <| nL J Ty.e27 <| S2 1 J ?_
  refine cN h (fun hc h => ?_) fun hc h => ?_
  ·refine pw_skip ?_
   refine pw_seq <| pw_block <| dr [] Ty.mix (by kernel_rfl) (by kernel_rfl) <| S7 3 J <| bnE h fun v14 hv13 h => d0 J (o_ixL (f := iF) (cs := [.I v14]) hv13 J J Ty.e27 Ty.s3 J J) J <| S7 1 J <| bnE h fun v15 hv14 h => d2 J (o_cl J r13_stuck_ok J hv14) J <| S7 2 J <| d_if0 J (fun hg => oL J J J Ty.a42 Ty.s42 nl J) J <| d_if7 J (fun hg _ hN => om (d := .L r10_Place.Pv a1) J) J <| d_if7 J (fun hg _ hN => om (d := .L iF v1) J) J <| d_if7 J (fun hg _ hN => mI J) J <| d_if0 J (fun hg => o_ixL (f := iF) (cs := [.I v14]) hv13 (ct hg) (ct hg) Ty.e27 Ty.s3 J J) J <| d_if0 J (fun hg => o_loadRS (ct hg) Ty.a3 J) J <| bnE h fun v16 hv15 h => d_if2 J (fun hg => o_cl J r13_Rest_ok (consE (ct hg) (consE (ct hg) (consE (ct hg) J))) (onlyE hv15 hg)) J <| d_if7 J (fun hg _ hN => om (d := .L iF a2) J) J <| d_if7 J (fun hg _ hN => om (d := .L iF v1) J) J <| d_if7 J (fun hg _ hN => mI J) J <| d_if0 J (fun hg => o_ixL (f := iF) (cs := [.I v14]) hv13 (ct hg) (ct hg) Ty.e27 Ty.s3 J J) J <| d_if0 J (fun hg => o_loadRS (ct hg) Ty.a3 J) J <| bnE h fun v17 hv16 h => d_if2 J (fun hg => o_cl J r07_Times_ok (consE (ct hg) (consE (ct hg) J)) (onlyE hv16 hg)) J <| d_if7 J (fun hg _ hN => o_cmp (ct hg) (ct hg) J) J <| d7 J (fun _ hN => pk_and J J J (fun q => eqT q)) J <| d_nil ?_
   refine cN h (fun hc h => ?_) fun hc h => ?_
   ·refine S4 1 J ?_
    refine pw_ret ?_
    have h := xL hx12 h
    cases h
    exact f1
   ·refine pw_skip ?_
    refine S6 3 J ?_
    exact eL h W
  ·refine pw_exit ?_
   refine thenQ_exit <| thenQ_exit <| blockQ_exit ?_
   have h := xL hx12 h
   exact eJ h W

theorem r15_Right_ok {a0} : PO Tryz.prog 32 [r15_Heap.Pv a0] (r15_Right a0) fun r => .bool r := by
 refine pO Tryz.func32 fun r h _ _ => ?_
 refine S4 2 J <| pw_seq <| S3 2 J <| cA h r06_Right_ok J J fun v1 _ h => S1 2 J <| y_if J (fun hg => oF J Ty.f49_3 J) <| y_if J (fun hg => oS (ct hg) J J Ty.a44 J) <| bnE h fun v2 hv2 h => y_if J (fun hg => o_cl J r10_Right_ok (consE (ct hg) J) (onlyE hv2 hg)) <| y_if J (fun hg => o_not (ct hg) J) <| y0 J (pk_or J J J (fun q => eqF q)) <| S1 1 J <| y_if J (fun hg => oF J Ty.f49_1 J) <| y_if J (fun hg => oS (ct hg) J J Ty.a27 J) <| y_if J (fun hg => o_lnL (f := iF) (ct hg) Ty.e27) <| y_if J (fun hg => o_cmp (ct hg) J J) <| y0 J (pk_or J J J (fun q => eqF q)) <| S1 1 J <| y_if J (fun hg => oF J Ty.f49_2 J) <| y_if J (fun hg => oS (ct hg) J J Ty.a43 J) <| y_if J (fun hg => o_lnL (f := r09_Cell.Pv) (ct hg) Ty.e43) <| y_if J (fun hg => o_cmp (ct hg) J J) <| y0 J (pk_or J J J (fun q => eqF q)) <| yN ?_
 refine cN h (fun hc h => ?_) fun hc h => ?_
 ·refine S4 1 J ?_
  refine pw_ret ?_
  cases h
  exact f1
 ·refine pw_skip ?_
  refine dr [] Ty.mix (by kernel_rfl) (by kernel_rfl) <| S7 1 J <| bnE h fun v3 hv3 h => d2 J (o_cl J r15_tasks_ok J hv3) J <| S7 1 J <| d_if0 J (fun hg => oL J J J Ty.a49 Ty.s49 nl J) J <| bnE h fun v4 hv4 h => d_if2 J (fun hg => o_cl J r15_names_ok (consE (ct hg) J) (onlyE hv4 hg)) J <| d7 J (fun _ hN => pk_and J J J (fun q => eqT q)) J <| S7 1 J <| d_if0 J (fun hg => oL J J J Ty.a49 Ty.s49 nl J) J <| bnE h fun v5 hv5 h => d_if2 J (fun hg => o_cl J r15_cells_ok (consE (ct hg) J) (onlyE hv5 hg)) J <| d7 J (fun _ hN => pk_and J J J (fun q => eqT q)) J <| S7 1 J <| d_if0 J (fun hg => oL J J J Ty.a49 Ty.s49 nl J) J <| bnE h fun v6 hv6 h => d_if2 J (fun hg => o_cl J r15_weaks_ok (consE (ct hg) J) (onlyE hv6 hg)) J <| d7 J (fun _ hN => pk_and J J J (fun q => eqT q)) J <| S7 1 J <| d_if7 J (fun hg _ hN => oF J Ty.f49_0 J) J <| d_if0 J (fun hg => oL (ct hg) J J Ty.a42 Ty.s42 nl J) J <| d_if7 J (fun hg _ hN => oF J Ty.f49_3 J) J <| d_if0 J (fun hg => oS (ct hg) J J Ty.a44 J) J <| d_if0 J (fun hg => oL J J J Ty.a49 Ty.s49 nl J) J <| bnE h fun v7 hv7 h => d_if2f J (fun hg => o_clF J r15_Outer_ok (consE (ct hg) J) (onlyE hv7 hg)) J <| bnE h fun v8 hv8 h => d_if2 J (fun hg => o_cl J r13_Fair_ok (consE (ct hg) (consE (ct hg) (consE (ct hg) J))) (onlyE hv8 hg)) J <| d7 J (fun _ hN => pk_and J J J (fun q => eqT q)) J <| S8 1 J <| pw_ret ?_
  cases h
  exact f1

theorem w16_sound_ok {a0} : PO Tryz.prog 35 [hold_Heap.Pv a0] (w16_sound a0) fun r => .bool r := by
 refine pO Tryz.func35 fun r h _ _ => ?_
 refine S4 2 J <| S3 1 J <| cA h w16_few_ok J J fun v1 _ h => S1 1 J <| y_if J (fun hg => oF J Ty.f34_0 J) <| y_if J (fun hg => oF (ct hg) Ty.f26_1 J) <| y_if J (fun hg => oS (ct hg) J J Ty.a3 J) <| y_if J (fun hg => o_cmp (ct hg) J J) <| y0 J (pk_and J J J (fun q => eqT q)) <| S1 1 J <| y_if J (fun hg => oL J J J Ty.a34 Ty.s34 nl J) <| bnE h fun v2 hv2 h => y_ifc J (fun hg => o_clF J w16_heap_ok (consE (ct hg) J) (onlyE hv2 hg)) <| bnE h fun v3 hv3 h => y_if J (fun hg => o_cl J r15_Right_ok (consE (ct hg) J) (onlyE hv3 hg)) <| y0 J (pk_and J J J (fun q => eqT q)) <| S2 1 J <| pw_ret ?_
 cases h
 exact f1

theorem slab_New_store_Obj_ok {a0 a1} : PO Tryz.prog 193 [.I a0, .I a1] (slab_New_store_Obj a0 a1) fun r => slab_Slab_store_Obj.Pv r := by
 refine pO Tryz.func193 fun r h _ _ => ?_
 refine S4 1 J <| pw_seq <| S3 3 J <| y_if J (fun hg => mI J) <| y_if J (fun hg => o_cmp (ct hg) J J) <| y0 J (pk_or J J J (fun q => eqF q)) <| S1 1 J <| y_if J (fun hg => mI J) <| y_if J (fun hg => o_cmp (ct hg) J J) <| y0 J (pk_or J J J (fun q => eqF q)) <| S1 1 J <| y_if J (fun hg => mI J) <| y_if J (fun hg => o_cmp (ct hg) J J) <| y0 J (pk_or J J J (fun q => eqF q)) <| yN ?_
 refine cN h (fun hc h => ?_) fun hc h => ?_
 ·refine sR ?_
  refine y0 J (o_build (cs := [.nl, .I 0]) J Ty.p24 Ty.z24 J J J) <| y_sto (x' := .agg [.nl, .I 0]) (cl' := true) J J (.inl J) Ty.s24 <| yN <| pw_ret ?_
  cases h
  exact ⟨J, [_], ⟨oL J J J Ty.a24 Ty.s24 nl J, tr⟩, J, io⟩
 ·refine pw_skip ?_
  refine S3 1 J <| bnE h fun v1 hv1 h => y1 J (o_mk (f := slab_Cell_store_Obj.Pv) hv1 J J J Ty.e22 Ty.s141 Ty.z141 Ty.b141 J J J) J <| S1 1 J <| y0 J (o_build (cs := [.sl 21, .I a1]) J Ty.p24 Ty.z24 J J J) <| S2 1 J <| pw_ret ?_
  cases h
  exact ⟨J, [_], ⟨oL J J J Ty.a24 Ty.s24 nl J, tr⟩, J, io⟩

theorem store_New_ok {a0 a1} : PO Tryz.prog 134 [.I a0, .I a1] (store_New a0 a1) fun r => store_Store.Pv r := by
 refine pO Tryz.func134 fun r h _ _ => ?_
 refine S4 1 J <| S3 2 J <| cF h slab_New_store_Obj_ok J J fun v1 _ h => y0 J (o_build (cs := [.L slab_Cell_store_Obj.Pv v1.Cells, .I v1.Last, .I 0]) J Ty.p26 Ty.z26 J J J) <| S2 1 J <| pw_ret ?_
 cases h
 exact ⟨J, [_], ⟨oL J J J Ty.a26 Ty.s26 nl J, tr⟩, J, io⟩

theorem weak_New_ok {a0} : PO Tryz.prog 135 [.I a0] (weak_New a0) fun r => .L weak_Cell.Pv r := by
 refine pO Tryz.func135 fun r h _ _ => ?_
 refine S4 1 J <| pw_seq <| S3 3 J <| y_if J (fun hg => mI J) <| y_if J (fun hg => o_cmp (ct hg) J J) <| y0 J (pk_or J J J (fun q => eqF q)) <| yN ?_
 refine cN h (fun hc h => ?_) fun hc h => ?_
 ·refine S4 1 J ?_
  refine pw_ret ?_
  cases h
  exact f1
 ·refine pw_skip ?_
  refine S3 1 J <| bnE h fun v1 hv1 h => y1 J (o_mk (f := weak_Cell.Pv) hv1 J J J Ty.e28 Ty.s84 Ty.z84 Ty.b84 J J J) J <| S2 1 J ?_
  refine jq h (fun j9 => St.of [(3, .sl 12)] [(12, ⟨List.map weak_Cell.Pv j9, 0, true, 3, true⟩)]) (fun j9 h => ?_) fun κ8 h => ?_
  ·refine S4 2 J ?_
   refine pw_ret ?_
   cases h
   exact f1
  ·refine S3 1 J ?_
   refine y0 J (o_lnR (f := weak_Cell.Pv) J J J Ty.e28) <| S2 1 J <| pw_block <| lq h (fun q => St.of [(3, .sl 12), (14, .I (v1.length : Int)), (15, .I q.1)] [(12, ⟨List.map weak_Cell.Pv q.2, 0, true, 3, true⟩)]) W fun q14 x13 h hx9 => ?_
   obtain ⟨s11, s12⟩ := q14
   refine S4 1 J <| pw_seq ?_
   refine cN h (fun hc h => ?_) fun hc h => ?_
   ·refine pw_skip ?_
    refine pw_seq <| pw_block <| S4 2 J <| S5 2 J <| bnE h fun v15 hv10 h => y0 J (o_ixR (f := weak_Cell.Pv) hv10 J J J J Ty.e28 Ty.s84 J) <| S1 1 J <| y_stE (f := weak_Cell.Pv) (v := (⟨v15.Target, v15.Intact, (-1)⟩ : weak_Cell)) hv10 J J (.inl J) Ty.s3 <| yN <| S6 2 J ?_
    exact eL h W
   ·refine pw_exit ?_
    refine thenQ_exit <| thenQ_exit <| blockQ_exit ?_
    have h := xL hx9 h
    exact eJ h W

theorem hash_New_ok {a0} : PO Tryz.prog 136 [.I a0] (hash_New a0) fun r => .L hash_Place.Pv r := by
 refine pO Tryz.func136 fun r h _ _ => ?_
 refine S4 1 J <| pw_seq <| S3 3 J <| y_if J (fun hg => mI J) <| y_if J (fun hg => o_cmp (ct hg) J J) <| y0 J (pk_or J J J (fun q => eqF q)) <| yN ?_
 refine cN h (fun hc h => ?_) fun hc h => ?_
 ·refine S4 1 J ?_
  refine pw_ret ?_
  cases h
  exact f1
 ·refine pw_skip ?_
  refine S3 1 J <| bnE h fun v1 hv1 h => y1 J (o_mk (f := hash_Place.Pv) hv1 J J J Ty.e29 Ty.s183 Ty.z183 Ty.b183 J J J) J <| S2 1 J <| pw_ret ?_
  cases h
  exact f1

theorem queue_New_task_Task_ok {a0} : PO Tryz.prog 194 [.I a0] (queue_New_task_Task a0) fun r => queue_Queue_task_Task.Pv r := by
 refine pO Tryz.func194 fun r h _ _ => ?_
 unfold queue_New_task_Task at h
 refine S4 1 J <| S3 1 J <| y0 J (o_build (cs := [.nl, .I a0]) J Ty.p32 Ty.z32 J J J) <| y_sto (x' := .agg [.nl, .I a0]) (cl' := true) J J (.inl J) Ty.s32 <| yN <| pw_ret ?_
 cases h
 exact ⟨J, [_], ⟨oL J J J Ty.a32 Ty.s32 nl J, tr⟩, J, io⟩

theorem task_New_ok : PO Tryz.prog 137 [] (task_New) fun r => queue_Queue_task_Task.Pv r := by
 refine pO Tryz.func137 fun r h _ _ => ?_
 refine S4 1 J <| sR <| cF h queue_New_task_Task_ok J J fun v1 _ h => S2 1 J <| pw_ret ?_
 cases h
 exact ⟨J, [_], ⟨oL J J J Ty.a32 Ty.s32 nl J, tr⟩, J, io⟩

theorem hold_New_ok {a0 a1 a2} : PO Tryz.prog 58 [.I a0, .I a1, .I a2] (hold_New a0 a1 a2) fun r => hold_Heap.Pv r := by
 refine pO Tryz.func58 fun r h _ _ => ?_
 refine S4 1 J <| pw_seq <| S3 3 J <| y_if J (fun hg => mI J) <| y_if J (fun hg => o_cmp (ct hg) J J) <| y0 J (pk_or J J J (fun q => eqF q)) <| S1 1 J <| y_if J (fun hg => mI J) <| y_if J (fun hg => o_cmp (ct hg) J J) <| y0 J (pk_or J J J (fun q => eqF q)) <| S1 1 J <| y_if J (fun hg => mI J) <| y_if J (fun hg => o_cmp (ct hg) J J) <| y0 J (pk_or J J J (fun q => eqF q)) <| S1 1 J <| y_if J (fun hg => mI J) <| y_if J (fun hg => o_cmp (ct hg) J J) <| y0 J (pk_or J J J (fun q => eqF q)) <| S1 1 J <| y_if J (fun hg => mI J) <| y_if J (fun hg => o_cmp (ct hg) J J) <| y0 J (pk_or J J J (fun q => eqF q)) <| yN ?_
 refine cN h (fun hc h => ?_) fun hc h => ?_
 ·refine sR ?_
  refine y0 J (o_build (cs := [.nl, .I 0, .I 0, .nl, .nl, .nl, .nl, .I 0]) J Ty.p34 Ty.z34 J J J) <| y_sto (x' := .agg [.nl, .I 0, .I 0, .nl, .nl, .nl, .nl, .I 0]) (cl' := true) J J (.inl J) Ty.s34 <| yN <| pw_ret ?_
  cases h
  exact ⟨J, [_], ⟨oL J J J Ty.a34 Ty.s34 nl J, tr⟩, J, io⟩
 ·refine pw_skip ?_
  refine dr [] Ty.mix (by kernel_rfl) (by kernel_rfl) <| S7 2 J <| bnE h fun v1 hv1 h => d2f J (o_clF J store_New_ok J hv1) J <| bnE h fun v2 hv2 h => d1 J (o_mk (f := iF) hv2 J J J Ty.e27 Ty.s3 Ty.z3 Ty.b3 J J J) J J J <| bnE h fun v3 hv3 h => d2f J (o_clF J weak_New_ok J hv3) J <| S7 1 J <| bnE h fun v4 hv4 h => d2f J (o_clF J hash_New_ok J hv4) J <| bnE h fun v5 hv5 h => d2f J (o_clF J task_New_ok J hv5) J <| d7 J (fun _ hN => o_build (cs := [.L slab_Cell_store_Obj.Pv v1.S.Cells, .I v1.S.Last, .I v1.Serial, .sl 33, .L weak_Cell.Pv v3, .L hash_Place.Pv v4, .L task_Task.Pv v5.L, .I v5.Cap]) J Ty.p34 Ty.z34 J J J) J <| d_sto (x' := .agg [.L slab_Cell_store_Obj.Pv v1.S.Cells, .I v1.S.Last, .I v1.Serial, .sl 33, .L weak_Cell.Pv v3, .L hash_Place.Pv v4, .L task_Task.Pv v5.L, .I v5.Cap]) (cl' := false) J J (.inr J) Ty.s34 <| d_nil <| pw_ret ?_
  cases h
  exact ⟨J, [_], ⟨oL J J J Ty.a34 Ty.s34 nl J, tr⟩, J, io⟩

theorem vec_New_ok {a0} : PO Tryz.prog 138 [.I a0] (vec_New a0) fun r => .tup [.L iF r.1, .I r.2] := by
 refine pO Tryz.func138 fun r h _ _ => ?_
 refine S4 2 J <| pw_seq <| S3 3 J <| y_if J (fun hg => mI J) <| y_if J (fun hg => o_cmp (ct hg) J J) <| y0 J (pk_or J J J (fun q => eqF q)) <| yN ?_
 refine cN h (fun hc h => ?_) fun hc h => ?_
 ·refine S4 2 J ?_
  refine pw_ret ?_
  cases h
  exact f2
 ·refine pw_skip ?_
  refine S3 1 J <| bnE h fun v1 hv1 h => y1 J (o_mk (f := iF) hv1 J J J Ty.e27 Ty.s3 Ty.z3 Ty.b3 J J J) J <| S2 2 J <| pw_ret ?_
  cases h
  exact f2

theorem store_programFits_ok {a0} : PO Tryz.prog 139 [.I a0] (store_programFits a0) fun r => .bool r := by
 refine pO Tryz.func139 fun r h _ _ => ?_
 unfold store_programFits at h
 refine S4 1 J <| S3 3 J <| y_if J (fun hg => mI J) <| y_if J (fun hg => o_cmp (ct hg) J J) <| y0 J (pk_and J J J (fun q => eqT q)) <| S2 1 J <| pw_ret ?_
 cases h
 exact f1

theorem slab_free_store_Obj_ok {a0} : PO Tryz.prog 195 [slab_Slab_store_Obj.Pv a0] (slab_free_store_Obj a0) fun r => .fn (.func 241) [.rptr (slab_Slab_store_Obj.Pc r)] := by
 refine pO Tryz.func195 fun r h _ _ => ?_
 unfold slab_free_store_Obj at h
 refine S4 2 J <| S4 2 J <| pw_ret ?_
 cases h
 exact f1

theorem slices_Clone_slab_Cell_store_Obj_slab_Cell_store_Obj_okN {a0} : PON Tryz.prog 242 [.L slab_Cell_store_Obj.Pv a0] (slices_Clone_slab_Cell_store_Obj_slab_Cell_store_Obj a0) fun r => ⟨List.map slab_Cell_store_Obj.Pv r, 0, true, 8, true⟩ := by
 refine pON Tryz.func242 fun r h _ _ => ?_
 unfold slices_Clone_slab_Cell_store_Obj_slab_Cell_store_Obj at h
 refine S4 1 J <| pw_seq <| S3 1 J <| y_eqnil J Ty.e22 fun b hb => yN ?_
 refine pw_cond b J (fun hc => ?_) (fun hc => ?_)
 ·obtain rfl : a0 = [] := by simpa using hb hc
  refine S4 1 J <| pw_wk (wk_nil (t := 2) (l := 920000) (z := 8) J J) <| pw_ret ?_
  cases h
  exact ⟨J, _, _, J, J, J, J⟩
 ·refine pw_skip ?_
  refine sR <| y0 J (o_nslice J Ty.e22 Ty.s141) <| S1 1 J <| y1 J (o_apT (f := slab_Cell_store_Obj.Pv) h J J (.inl ⟨_, J, J⟩) Ty.e22 Ty.s141 Ty.b141 Ty.z141 J (fun _ => J)) J <| S2 1 J <| pw_ret ?_
  exact ⟨J, _, _, J, J, J, J⟩

theorem slab_with_store_Obj_ok {a0 a1 a2} : PO Tryz.prog 196 [slab_Slab_store_Obj.Pv a0, .I a1, slab_Cell_store_Obj.Pv a2] (slab_with_store_Obj a0 a1 a2) fun r => slab_Slab_store_Obj.Pv r := by
 refine pO Tryz.func196 fun r h _ _ => ?_
 unfold slab_with_store_Obj at h
 refine S4 3 J <| S3 2 J <| bnE h fun v1 hv1 h => ycN J (o_clN J slices_Clone_slab_Cell_store_Obj_slab_Cell_store_Obj_okN J hv1) J J <| S2 2 J <| S3 4 J <| bnE h fun v2 hv2 h => y0 J (o_ixR (f := slab_Cell_store_Obj.Pv) hv2 J J J J Ty.e22 Ty.s141 J) <| y_stE (f := slab_Cell_store_Obj.Pv) (v := a2) hv2 J J (.inr J) Ty.s141 <| yN <| S4 2 J <| pw_ret ?_
 cases h
 exact ⟨J, [_], ⟨oL J J J Ty.a24 Ty.s24 nl J, tr⟩, J, io⟩

theorem handle_Pack_ok {a0 a1} : PO Tryz.prog 141 [.I a0, .I a1] (handle_Pack a0 a1) fun r => .I r := by
 refine pO Tryz.func141 fun r h _ _ => ?_
 refine S4 1 J <| pw_seq <| S3 3 J <| y_if J (fun hg => mI J) <| y_if J (fun hg => o_cmp (ct hg) J J) <| y0 J (pk_or J J J (fun q => eqF q)) <| S1 1 J <| y_if J (fun hg => mI J) <| y_if J (fun hg => o_cmp (ct hg) J J) <| y0 J (pk_or J J J (fun q => eqF q)) <| S1 1 J <| y_if J (fun hg => mI J) <| y_if J (fun hg => o_cmp (ct hg) J J) <| y0 J (pk_or J J J (fun q => eqF q)) <| yN ?_
 refine cN h (fun hc h => ?_) fun hc h => ?_
 ·refine S4 1 J ?_
  refine pw_ret ?_
  cases h
  exact f1
 ·refine pw_skip ?_
  refine S4 7 J <| pw_ret ?_
  cases h
  exact f1

theorem slab_Take_store_Obj_ok {a0 a1} : PO Tryz.prog 140 [slab_Slab_store_Obj.Pv a0, store_Obj.Pv a1] (slab_Take_store_Obj a0 a1) fun r => .tup [slab_Slab_store_Obj.Pv r.1, .I r.2.1, .I r.2.2] := by
 refine pO Tryz.func140 fun r h _ _ => ?_
 refine S4 5 J ?_
 refine jq h (fun _ => St.of [(2, .ptr 2005 0 0), (4, .ptr 2003 0 0), (5, .ptr 2002 0 0), (6, .ptr 2001 0 0)] [(2001, vR (.I 0) 1), (2002, vR (.I 0) 1), (2003, vR (.agg [.nl, .I 0]) 2), (2005, vR (slab_Slab_store_Obj.Pv a0) 2)]) (fun q10 h => ?_) fun κ9 h => ?_
 ·refine S4 4 J ?_
  refine pw_ret ?_
  cases h
  exact ⟨J, [_, _, _], ⟨oL J J J Ty.a24 Ty.s24 nl J, ⟨oS J J J Ty.a3 J, ⟨oS J J J Ty.a37 J, tr⟩⟩⟩, J, io⟩
 ·refine S3 1 J ?_
  refine cF h slab_free_store_Obj_ok J J fun v11 _ h => yN <| pw_block <| pw_wk (WPE (fun l => if l = 2006 then 6 else if l = 2007 then 5 else if l = 2008 then 4 else if l = 2009 then 3 else if l = 2010 then 2 else l) [(2, .ptr 2010 0 0), (3, .ptr 2009 0 0), (4, .ptr 2008 0 0), (5, .ptr 2007 0 0), (6, .ptr 2006 0 0), (10, .fn (.func 241) [.rptr (slab_Slab_store_Obj.Pc v11)])] [(2006, vR (.I 0) 1), (2007, vR (.I 0) 1), (2008, vR (.agg [.nl, .I 0]) 2), (2009, vR (store_Obj.Pv a1) 6), (2010, vR (slab_Slab_store_Obj.Pv a0) 2)]) ?_
  refine pw_range (fn := Tryz.f241) (N1 := 23) J Tryz.func241 J J nl J Ty.k241 J J (fun l19 e20 o21 hR22 => ?_)
  refine S3 2 J <| nL J Ty.e22 <| S2 1 J <| pw_block <| lq h (fun s13 => St.of [(1000002, .ptr 2010 0 0), (1000003, .ptr 2009 0 0), (1000004, .ptr 2008 0 0), (1000005, .ptr 2007 0 0), (1000006, .ptr 2006 0 0), (1000010, .fn (.func 241) [.rptr (slab_Slab_store_Obj.Pc v11)]), (0, .fn (.yield l19) []), (6, .L slab_Cell_store_Obj.Pv v11.Cells), (7, .I (v11.Cells.length : Int)), (8, .I s13)] [(2006, vR (.I 0) 1), (2007, vR (.I 0) 1), (2008, vR (.agg [.nl, .I 0]) 2), (2009, vR (store_Obj.Pv a1) 6), (2010, vR (slab_Slab_store_Obj.Pv a0) 2)]) W fun s13 x14 h hx25 => S4 1 J <| pw_seq ?_
  refine cN h (fun hc h => ?_) fun hc h => ?_
  ·refine pw_skip ?_
   refine pw_seq <| pw_block <| S3 1 J <| iL h J J Ty.e22 Ty.s141 fun v15 _ h => S2 4 J <| S3 4 J <| y_if J (fun hg => om (d := .fn (.yield l19) []) J) <| y_if J (fun hg => mI J) ?_
   rcases Bool.eq_false_or_eq_true ((v15.State == 0) == true) with hg27 | hg27
   ·have h := ifT h hg27
    refine y_wk (WE [(1000002, .ptr 2010 0 0), (1000003, .ptr 2009 0 0), (1000004, .ptr 2008 0 0), (1000005, .ptr 2007 0 0), (1000006, .ptr 2006 0 0), (1000010, .fn (.func 241) [.rptr (slab_Slab_store_Obj.Pc v11)]), (0, .fn (.yield l19) []), (6, .L slab_Cell_store_Obj.Pv v11.Cells), (7, .I (v11.Cells.length : Int)), (8, .I s13), (16, .bool (v15.State == 0)), (17, .fn (.yield l19) []), (18, .I s13)] [(2006, vR (.I 0) 1), (2007, vR (.I 0) 1), (2008, vR (.agg [.nl, .I 0]) 2), (2009, vR (store_Obj.Pv a1) 6), (2010, vR (slab_Slab_store_Obj.Pv a0) 2)]) ?_
    refine y_yield hR22 (congrArg some hg27) J J J J J (fun e28 o29 o30 => ?_)
    refine S6 1 J ?_
    refine ⟨J, ?_⟩
    refine pw_block <| S3 3 J <| iL h J J Ty.e22 Ty.s141 fun v16 _ h => S2 3 J <| S3 4 J <| y0 J (o_build (cs := [.I 1, .I v16.Gen, .I a1.Serial, .I a1.Strong, .I a1.Weak, .I a1.Prog, .bool a1.Started, .L iF a1.Fields]) J Ty.p141 Ty.z141 J J J) <| cF h slab_with_store_Obj_ok J J fun v17 _ h => S1 2 J <| cA h handle_Pack_ok J J fun v18 _ h => S2 3 J <| pw_ret ?_
    refine ⟨J, ?_⟩
    refine y_wk (WE [(1000002, .ptr 2010 0 0), (1000003, .ptr 2009 0 0), (1000004, .ptr 2008 0 0), (1000005, .ptr 2007 0 0), (1000006, .ptr 2006 0 0), (1000010, .fn (.func 241) [.rptr (slab_Slab_store_Obj.Pc v11)]), (0, .fn (.yield l19) []), (6, .L slab_Cell_store_Obj.Pv v11.Cells), (7, .I (v11.Cells.length : Int)), (8, .I s13), (16, .bool (v15.State == 0)), (19, .bool false)] [(2006, vR (.I 0) 1), (2007, vR (.I v18) 1), (2008, vR (slab_Slab_store_Obj.Pv v17) 2), (2009, vR (store_Obj.Pv a1) 6), (2010, vR (slab_Slab_store_Obj.Pv a0) 2)]) <| y0 (congrArg some hg27) (o_not J J) <| y0 J (pk_andT J J hg27) <| yN ?_
    refine pw_cond true J (fun _ => ?_) (fun q => nomatch q)
    refine pw_ret ?_
    refine .inr ⟨.ret, J, jmpR ?_⟩
    have h := xL hx25 h
    cases h
    exact ⟨J, [_, _, _], ⟨oL J J J Ty.a24 Ty.s24 nl J, ⟨oS J J J Ty.a3 J, ⟨oS J J J Ty.a37 J, tr⟩⟩⟩, J, io⟩
   ·have h := ifF h hg27
    refine y_skip (congrArg some hg27) <| y_skip (congrArg some hg27) <| y0 J (pk_andF J J hg27) <| yN ?_
    refine pw_cond false J (fun q => nomatch q) (fun _ => ?_)
    refine pw_skip <| S6 2 J ?_
    exact eL h W
  ·refine pw_exit ?_
   refine thenQ_exit <| thenQ_exit <| blockQ_exit ?_
   refine .inl ⟨J, ?_⟩
   have h := xL hx25 h
   exact eJ h (WP (fun l => if l = 2005 then 2010 else if l = 2003 then 2008 else if l = 2002 then 2007 else if l = 2001 then 2006 else l))

theorem store_Make_ok {a0 a1 a2} : PO Tryz.prog 59 [store_Store.Pv a0, .I a1, .I a2] (store_Make a0 a1 a2) fun r => .tup [store_Store.Pv r.1, .I r.2.1, .I r.2.2] := by
 refine pO Tryz.func59 fun r h _ _ => ?_
 refine S4 4 J <| S3 1 J <| cF h vec_New_ok J J fun v1 _ h => S2 5 J <| pw_seq <| S4 2 J ?_
 refine cN h (fun hc h => ?_) fun hc h => ?_
 ·refine S4 5 J ?_
  refine pw_ret ?_
  cases h
  exact ⟨J, [_, _, _], ⟨oL J J J Ty.a26 Ty.s26 nl J, ⟨J, ⟨J, tr⟩⟩⟩, J, io⟩
 ·refine pw_skip ?_
  refine pw_seq <| S3 1 J <| cA h store_programFits_ok J J fun v2 _ h => S2 1 J ?_
  refine cN h (fun hc h => ?_) fun hc h => ?_
  ·refine S4 4 J ?_
   refine pw_ret ?_
   cases h
   exact ⟨J, [_, _, _], ⟨oL J J J Ty.a26 Ty.s26 nl J, ⟨J, ⟨J, tr⟩⟩⟩, J, io⟩
  ·refine pw_skip ?_
   refine S3 7 J <| y0 J (o_build (cs := [.I (w64 (a0.Serial + 1)), .I 0, .I 0, .I a2, .bool false, .L iF v1.1]) J Ty.p91 Ty.z91 J J J) <| cF h slab_Take_store_Obj_ok J J fun v3 _ h => S2 8 J <| pw_seq <| S4 2 J ?_
   refine cN h (fun hc h => ?_) fun hc h => ?_
   ·refine S4 5 J ?_
    refine pw_ret ?_
    cases h
    exact ⟨J, [_, _, _], ⟨oL J J J Ty.a26 Ty.s26 nl J, ⟨J, ⟨J, tr⟩⟩⟩, J, io⟩
   ·refine pw_skip ?_
    refine S3 4 J <| y0 J (o_build (cs := [.L slab_Cell_store_Obj.Pv v3.1.Cells, .I v3.1.Last, .I (w64 (a0.Serial + 1))]) J Ty.p26 Ty.z26 J J J) <| S2 4 J <| pw_ret ?_
    cases h
    exact ⟨J, [_, _, _], ⟨oL J J J Ty.a26 Ty.s26 nl J, ⟨J, ⟨J, tr⟩⟩⟩, J, io⟩

theorem handle_parts_ok {a0} : PO Tryz.prog 261 [.I a0] (handle_parts a0) fun r => .tup [.I r.1, .I r.2.1, .bool r.2.2] := by
 refine pO Tryz.func261 fun r h _ _ => ?_
 refine S4 3 J <| pw_seq <| S4 2 J ?_
 refine cN h (fun hc h => ?_) fun hc h => ?_
 ·refine S4 3 J ?_
  refine pw_ret ?_
  cases h
  exact f3
 ·refine pw_skip ?_
  refine S3 2 J <| bnE h fun v1 hv1 h => y0 J (o_ari J J hv1) <| bnE h fun v2 hv2 h => y0 J (o_ari J J hv2) <| S1 2 J <| bnE h fun v3 hv3 h => y0 J (o_ari J J hv3) <| S2 2 J <| pw_seq <| S3 3 J <| y_if J (fun hg => mI J) <| y_if J (fun hg => o_cmp (ct hg) J J) <| y0 J (pk_or J J J (fun q => eqF q)) <| yN ?_
  refine cN h (fun hc h => ?_) fun hc h => ?_
  ·refine S4 3 J ?_
   refine pw_ret ?_
   cases h
   exact f3
  ·refine pw_skip ?_
   refine S4 5 J <| pw_ret ?_
   cases h
   exact f3

theorem handle_Slot_ok {a0} : PO Tryz.prog 221 [.I a0] (handle_Slot a0) fun r => .I r := by
 refine pO Tryz.func221 fun r h _ _ => ?_
 refine S4 1 J <| S3 1 J <| cA h handle_parts_ok J J fun v1 _ h => S2 7 J <| S4 2 J <| pw_ret ?_
 cases h
 exact f1

theorem handle_Gen_ok {a0} : PO Tryz.prog 222 [.I a0] (handle_Gen a0) fun r => .I r := by
 refine pO Tryz.func222 fun r h _ _ => ?_
 refine S4 1 J <| S3 1 J <| cA h handle_parts_ok J J fun v1 _ h => S2 7 J <| S4 2 J <| pw_ret ?_
 cases h
 exact f1

theorem slab_Find_store_Obj_ok {a0 a1} : PO Tryz.prog 164 [slab_Slab_store_Obj.Pv a0, .I a1] (slab_Find_store_Obj a0 a1) fun r => .tup [.I r.1, .I r.2] := by
 refine pO Tryz.func164 fun r h _ _ => ?_
 refine S4 3 J <| pw_seq <| S4 2 J ?_
 refine cN h (fun hc h => ?_) fun hc h => ?_
 ·refine S4 2 J ?_
  refine pw_ret ?_
  cases h
  exact f2
 ·refine pw_skip ?_
  refine S3 1 J <| cA h handle_Slot_ok J J fun v1 _ h => S2 1 J <| pw_seq <| S3 3 J <| y_if J (fun hg => mI J) <| y_if J (fun hg => oF J Ty.f24_0 J) <| y_if J (fun hg => oS (ct hg) J J Ty.a22 J) <| y_if J (fun hg => o_lnL (f := slab_Cell_store_Obj.Pv) (ct hg) Ty.e22) <| y_if J (fun hg => o_cmp (ct hg) (ct hg) J) <| y0 J (pk_or J J J (fun q => eqF q)) <| yN ?_
  refine cN h (fun hc h => ?_) fun hc h => ?_
  ·refine S4 2 J ?_
   refine pw_ret ?_
   cases h
   exact f2
  ·refine pw_skip ?_
   refine S3 3 J <| iL h J J Ty.e22 Ty.s141 fun v2 _ h => S2 3 J <| pw_seq <| dr [] Ty.mix (by kernel_rfl) (by kernel_rfl) <| S7 3 J <| bnE h fun v3 hv3 h => d2 J (o_cl J handle_Gen_ok J hv3) J <| S7 2 J <| d_if7 J (fun hg _ hN => oF J Ty.f141_0 J) J <| d_if0 J (fun hg => oS (ct hg) J J Ty.a3 J) J <| d_if7 J (fun hg _ hN => o_cmp (ct hg) J J) J <| d_if7 J (fun hg _ hN => om (d := .bool (v2.State != 1)) (ct hg)) J <| d_if7 (want2 J J J) (fun hg _ hN => oF J Ty.f141_0 J) J <| d_if0 (want2 J J J) (fun hg => oS (ct hg) J J Ty.a3 J) J <| d_if7 (want2 J J J) (fun hg _ hN => o_cmp (ct hg) J J) J <| d_if7 J (fun hg _ hN => pk_and (ct hg) J J (fun q => andI hg (eqT q))) J <| d7 J (fun _ hN => pk_or J J J (fun q => eqF q)) J <| d_nil ?_
   refine cN h (fun hc h => ?_) fun hc h => ?_
   ·refine S4 2 J ?_
    refine pw_ret ?_
    cases h
    exact f2
   ·refine pw_skip ?_
    refine S4 3 J <| pw_ret ?_
    cases h
    exact f2

theorem slab_Get_store_Obj_ok {a0 a1} : PO Tryz.prog 145 [slab_Slab_store_Obj.Pv a0, .I a1] (slab_Get_store_Obj a0 a1) fun r => .tup [store_Obj.Pv r.1, .I r.2] := by
 refine pO Tryz.func145 fun r h _ _ => ?_
 refine S4 3 J <| S4 1 J <| S3 2 J <| cA h slab_Find_store_Obj_ok J J fun v1 _ h => S2 5 J <| pw_seq <| S4 2 J ?_
 refine cN h (fun hc h => ?_) fun hc h => ?_
 ·refine S3 2 J ?_
  refine y_sto (x' := .agg [.I 0, .I 0, .I 0, .I 0, .bool false, .nl]) (cl' := true) J J (.inl J) Ty.s91 <| S2 1 J <| pw_ret ?_
  cases h
  exact ⟨J, [_, _], ⟨oL J J J Ty.a91 Ty.s91 nl J, ⟨J, tr⟩⟩, J, io⟩
 ·refine pw_skip ?_
  refine pw_seq <| S3 3 J <| iL h J J Ty.e22 Ty.s141 fun v2 hv2 h => S2 3 J ?_
  refine cN h (fun hc h => ?_) fun hc h => ?_
  ·refine S3 1 J ?_
   refine y_sto (x' := .agg [.I 0, .I 0, .I 0, .I 0, .bool false, .nl]) (cl' := true) J J (.inl J) Ty.s91 <| S2 1 J <| pw_ret ?_
   cases h
   exact ⟨J, [_, _], ⟨oL J J J Ty.a91 Ty.s91 nl J, ⟨J, tr⟩⟩, J, io⟩
  ·refine pw_skip ?_
   refine S3 3 J <| y0 J (o_ixL (f := slab_Cell_store_Obj.Pv) (cs := slab_Cell_store_Obj.Pc v2) hv2 J J Ty.e22 Ty.s141 J J) <| S2 4 J <| pw_ret ?_
   cases h
   exact ⟨J, [_, _], ⟨oL J J J Ty.a91 Ty.s91 nl J, ⟨J, tr⟩⟩, J, io⟩

theorem store_Get_ok {a0 a1} : PO Tryz.prog 61 [store_Store.Pv a0, .I a1] (store_Get a0 a1) fun r => .tup [store_Obj.Pv r.1, .I r.2] := by
 refine pO Tryz.func61 fun r h _ _ => ?_
 refine S4 3 J <| S3 3 J <| cF h slab_Get_store_Obj_ok J J fun v1 _ h => S2 4 J <| pw_ret ?_
 cases h
 exact ⟨J, [_, _], ⟨oL J J J Ty.a91 Ty.s91 nl J, ⟨J, tr⟩⟩, J, io⟩

theorem vec_has_ok {a0 a1} : PO Tryz.prog 218 [.L iF a0, .I a1] (vec_has a0 a1) fun r => .bool r := by
 refine pO Tryz.func218 fun r h _ _ => ?_
 unfold vec_has at h
 refine S4 1 J <| S3 3 J <| y_if J (fun hg => mI J) <| y_if J (fun hg => om (d := .L iF a0) J) <| y_if J (fun hg => o_lnL (f := iF) (ct hg) Ty.e27) <| y_if J (fun hg => o_cmp (ct hg) (ct hg) J) <| y0 J (pk_and J J J (fun q => eqT q)) <| S2 1 J <| pw_ret ?_
 cases h
 exact f1

theorem vec_At_ok {a0 a1} : PO Tryz.prog 156 [.L iF a0, .I a1] (vec_At a0 a1) fun r => .tup [.I r.1, .I r.2] := by
 refine pO Tryz.func156 fun r h _ _ => ?_
 refine S4 2 J <| pw_seq <| S3 2 J <| cA h vec_has_ok J J fun v1 _ h => S2 1 J ?_
 refine cN h (fun hc h => ?_) fun hc h => ?_
 ·refine S4 2 J ?_
  refine pw_ret ?_
  cases h
  exact f2
 ·refine pw_skip ?_
  refine S3 2 J <| iL h J J Ty.e27 Ty.s3 fun v2 _ h => S2 3 J <| pw_ret ?_
  cases h
  exact f2

theorem store_Field_ok {a0 a1 a2} : PO Tryz.prog 71 [store_Store.Pv a0, .I a1, .I a2] (store_Field a0 a1 a2) fun r => .tup [.I r.1, .I r.2] := by
 refine pO Tryz.func71 fun r h _ _ => ?_
 refine S4 3 J <| S3 2 J <| cF h store_Get_ok J J fun v1 _ h => S2 6 J <| pw_seq <| S4 2 J ?_
 refine cN h (fun hc h => ?_) fun hc h => ?_
 ·refine S4 3 J ?_
  refine pw_ret ?_
  cases h
  exact f2
 ·refine pw_skip ?_
  refine S3 3 J <| cA h vec_At_ok J J fun v2 _ h => S2 4 J <| pw_ret ?_
  cases h
  exact f2

theorem hold_isLive_ok {a0 a1} : PO Tryz.prog 154 [hold_Heap.Pv a0, .I a1] (hold_isLive a0 a1) fun r => .bool r := by
 refine pO Tryz.func154 fun r h _ _ => ?_
 refine S4 2 J <| S3 3 J <| cF h store_Get_ok J J fun v1 _ h => S2 6 J <| S4 3 J <| pw_ret ?_
 cases h
 exact f1

theorem hold_nameable_ok {a0 a1} : PO Tryz.prog 64 [hold_Heap.Pv a0, .I a1] (hold_nameable a0 a1) fun r => .bool r := by
 refine pO Tryz.func64 fun r h _ _ => ?_
 unfold hold_nameable at h
 refine S4 2 J <| S3 3 J <| y_if J (fun hg => oL J J J Ty.a34 Ty.s34 nl J) <| y_if J (fun hg => mI J) <| bnE h fun v1 hv1 h => y_if J (fun hg => o_cl J hold_isLive_ok (consE (ct hg) (consE (ct hg) J)) (onlyE hv1 hg)) <| y0 J (pk_or J J J (fun q => eqF q)) <| S2 1 J <| pw_ret ?_
 cases h
 exact f1

theorem count_tally_stuck_ok {a0} : PO Tryz.prog 231 [.I a0] (count_tally_stuck a0) fun r => .bool r := by
 refine pO Tryz.func231 fun r h _ _ => ?_
 unfold count_tally_stuck at h
 refine S4 1 J <| S4 3 J <| pw_ret ?_
 cases h
 exact f1

theorem count_tally_up_ok {a0} : PO Tryz.prog 175 [.I a0] (count_tally_up a0) fun r => .tup [.I r.1, .I r.2] := by
 refine pO Tryz.func175 fun r h _ _ => ?_
 refine S4 2 J <| pw_seq <| S3 1 J <| cA h count_tally_stuck_ok J J fun v1 _ h => yN ?_
 refine cN h (fun hc h => ?_) fun hc h => ?_
 ·refine S4 2 J ?_
  refine pw_ret ?_
  cases h
  exact f2
 ·refine pw_skip ?_
  refine S3 1 J <| y0 J (o_max J J J) <| S2 3 J <| pw_ret ?_
  cases h
  exact f2

theorem count_Inc_ok {a0} : PO Tryz.prog 93 [.I a0] (count_Inc a0) fun r => .I r := by
 refine pO Tryz.func93 fun r h _ _ => ?_
 refine S4 1 J <| S3 1 J <| cA h count_tally_up_ok J J fun v1 _ h => S2 5 J <| S4 2 J <| pw_ret ?_
 cases h
 exact f1

theorem slab_Set_store_Obj_ok {a0 a1 a2} : PO Tryz.prog 187 [slab_Slab_store_Obj.Pv a0, .I a1, store_Obj.Pv a2] (slab_Set_store_Obj a0 a1 a2) fun r => .tup [slab_Slab_store_Obj.Pv r.1, .I r.2] := by
 refine pO Tryz.func187 fun r h _ _ => ?_
 refine S4 4 J <| S3 2 J <| cA h slab_Find_store_Obj_ok J J fun v1 _ h => S2 5 J <| pw_seq <| S4 2 J ?_
 refine cN h (fun hc h => ?_) fun hc h => ?_
 ·refine S4 4 J ?_
  refine pw_ret ?_
  cases h
  exact ⟨J, [_, _], ⟨oL J J J Ty.a24 Ty.s24 nl J, ⟨J, tr⟩⟩, J, io⟩
 ·refine pw_skip ?_
  refine S3 3 J <| iL h J J Ty.e22 Ty.s141 fun v2 _ h => S2 3 J <| S4 3 J <| S3 3 J <| cF h slab_with_store_Obj_ok J J fun v3 _ h => S2 2 J <| pw_ret ?_
  cases h
  exact ⟨J, [_, _], ⟨oL J J J Ty.a24 Ty.s24 nl J, ⟨J, tr⟩⟩, J, io⟩

theorem store_Set_ok {a0 a1 a2} : PO Tryz.prog 113 [store_Store.Pv a0, .I a1, store_Obj.Pv a2] (store_Set a0 a1 a2) fun r => .tup [store_Store.Pv r.1, .I r.2] := by
 refine pO Tryz.func113 fun r h _ _ => ?_
 refine S4 4 J <| S4 1 J <| S3 4 J <| cF h slab_Set_store_Obj_ok J J fun v1 _ h => S2 6 J <| S4 4 J <| pw_ret ?_
 cases h
 exact ⟨J, [_, _], ⟨oL J J J Ty.a26 Ty.s26 nl J, ⟨J, tr⟩⟩, J, io⟩

theorem hold_counted__count_Inc_ok {a0 a1} : PO Tryz.prog 92 [hold_Heap.Pv a0, .I a1, .fn (.func 93) []] (hold_counted__count_Inc a0 a1) fun r => hold_Heap.Pv r := by
 refine pO Tryz.func92 fun r h _ _ => ?_
 refine S4 2 J <| S3 3 J <| cF h store_Get_ok J J fun v1 _ h => S2 6 J <| pw_seq <| S4 2 J ?_
 refine cN h (fun hc h => ?_) fun hc h => ?_
 ·refine S3 3 J ?_
  refine cA h count_Inc_ok J J fun v2 _ h => S2 2 J <| S5 4 J <| cF h store_Set_ok J J fun v3 _ h => S2 5 J <| S4 2 J <| pw_ret ?_
  cases h
  exact ⟨J, [_], ⟨oL J J J Ty.a34 Ty.s34 nl J, tr⟩, J, io⟩
 ·refine pw_skip ?_
  refine S4 2 J <| pw_ret ?_
  cases h
  exact ⟨J, [_], ⟨oL J J J Ty.a34 Ty.s34 nl J, tr⟩, J, io⟩

theorem hold_Retain_ok {a0 a1} : PO Tryz.prog 28 [hold_Heap.Pv a0, .I a1] (hold_Retain a0 a1) fun r => hold_Heap.Pv r := by
 refine pO Tryz.func28 fun r h _ _ => ?_
 refine S4 2 J <| S3 2 J <| cF h hold_counted__count_Inc_ok J J fun v1 _ h => S2 1 J <| pw_ret ?_
 cases h
 exact ⟨J, [_], ⟨oL J J J Ty.a34 Ty.s34 nl J, tr⟩, J, io⟩

theorem vec_With_ok {a0 a1 a2} : PO Tryz.prog 219 [.L iF a0, .I a1, .I a2] (vec_With a0 a1 a2) fun r => .tup [.L iF r.1, .I r.2] := by
 refine pO Tryz.func219 fun r h _ _ => ?_
 refine S4 2 J <| pw_seq <| S3 2 J <| cA h vec_has_ok J J fun v1 _ h => S2 1 J ?_
 refine cN h (fun hc h => ?_) fun hc h => ?_
 ·refine S4 3 J ?_
  refine pw_ret ?_
  cases h
  exact f2
 ·refine pw_skip ?_
  refine S3 1 J <| nL J Ty.e27 <| bnE h fun v2 hv2 h => y1 J (o_mk (f := iF) hv2 J J J Ty.e27 Ty.s3 Ty.z3 Ty.b3 J J J) J <| S2 1 J <| S3 2 J <| bnE h fun v3 hv3 h => y_cp (f := iF) hv3 J J J (.inl ⟨_, J, J⟩) Ty.e27 Ty.s3 (fun _ => J) (by decide) <| yN <| S3 3 J <| bnE h fun v4 hv4 h => y0 J (o_ixR (f := iF) hv4 J J J J Ty.e27 Ty.s3 J) <| y_stE (f := iF) (v := a2) hv4 J J (.inl J) Ty.s3 <| yN <| S4 3 J <| pw_ret ?_
  cases h
  exact f2

theorem store_Put_ok {a0 a1 a2 a3} : PO Tryz.prog 157 [store_Store.Pv a0, .I a1, .I a2, .I a3] (store_Put a0 a1 a2 a3) fun r => .tup [store_Store.Pv r.1, .I r.2] := by
 refine pO Tryz.func157 fun r h _ _ => ?_
 refine S4 3 J <| S3 2 J <| cF h store_Get_ok J J fun v1 _ h => S2 6 J <| pw_seq <| S4 2 J ?_
 refine cN h (fun hc h => ?_) fun hc h => ?_
 ·refine S4 4 J ?_
  refine pw_ret ?_
  cases h
  exact ⟨J, [_, _], ⟨oL J J J Ty.a26 Ty.s26 nl J, ⟨J, tr⟩⟩, J, io⟩
 ·refine pw_skip ?_
  refine pw_seq <| S3 4 J <| cF h vec_With_ok J J fun v2 _ h => S2 6 J <| S4 2 J ?_
  refine cN h (fun hc h => ?_) fun hc h => ?_
  ·refine S4 4 J ?_
   refine pw_ret ?_
   cases h
   exact ⟨J, [_, _], ⟨oL J J J Ty.a26 Ty.s26 nl J, ⟨J, tr⟩⟩, J, io⟩
  ·refine pw_skip ?_
   refine S3 3 J <| cF h store_Set_ok J J fun v3 _ h => S2 4 J <| pw_ret ?_
   cases h
   exact ⟨J, [_, _], ⟨oL J J J Ty.a26 Ty.s26 nl J, ⟨J, tr⟩⟩, J, io⟩

theorem hold_fieldPlace_say_ok {a0 a1} : PO Tryz.prog 72 [hold_fieldPlace.Pv a0, hold_Heap.Pv a1] (hold_fieldPlace_say a0 a1) fun r => hold_Heap.Pv r := by
 refine pO Tryz.func72 fun r h _ _ => ?_
 refine S4 3 J <| S3 8 J <| cF h store_Put_ok J J fun v1 _ h => S2 5 J <| S4 2 J <| pw_ret ?_
 cases h
 exact ⟨J, [_], ⟨oL J J J Ty.a34 Ty.s34 nl J, tr⟩, J, io⟩

theorem count_tally_down_ok {a0} : PO Tryz.prog 176 [.I a0] (count_tally_down a0) fun r => .tup [.I r.1, .I r.2] := by
 refine pO Tryz.func176 fun r h _ _ => ?_
 refine S4 2 J <| pw_seq <| S3 1 J <| cA h count_tally_stuck_ok J J fun v1 _ h => yN ?_
 refine cN h (fun hc h => ?_) fun hc h => ?_
 ·refine S4 2 J ?_
  refine pw_ret ?_
  cases h
  exact f2
 ·refine pw_skip ?_
  refine pw_seq <| S4 2 J ?_
  refine cN h (fun hc h => ?_) fun hc h => ?_
  ·refine S4 2 J ?_
   refine pw_ret ?_
   cases h
   exact f2
  ·refine pw_skip ?_
   refine S4 4 J <| pw_ret ?_
   cases h
   exact f2

theorem count_Dec_ok {a0} : PO Tryz.prog 95 [.I a0] (count_Dec a0) fun r => .tup [.I r.1, .I r.2] := by
 refine pO Tryz.func95 fun r h _ _ => ?_
 refine S4 2 J <| S3 1 J <| cA h count_tally_down_ok J J fun v1 _ h => S2 5 J <| S4 4 J <| pw_ret ?_
 cases h
 exact f2

theorem hold_Release_1_ok {a0} : PO Tryz.prog 94 [.I a0] (hold_Release_1 a0) fun r => .I r := by
 refine pO Tryz.func94 fun r h _ _ => ?_
 refine S4 1 J <| S3 1 J <| cA h count_Dec_ok J J fun v1 _ h => S2 5 J <| pw_seq <| S4 2 J ?_
 refine cN h (fun hc h => ?_) fun hc h => ?_
 ·refine S4 2 J ?_
  refine pw_ret ?_
  cases h
  exact f1
 ·refine pw_skip ?_
  refine S4 2 J <| pw_ret ?_
  cases h
  exact f1

theorem hold_counted__hold_Release_1_ok {a0 a1} : PO Tryz.prog 92 [hold_Heap.Pv a0, .I a1, .fn (.func 94) []] (hold_counted__hold_Release_1 a0 a1) fun r => hold_Heap.Pv r := by
 refine pO Tryz.func92 fun r h _ _ => ?_
 refine S4 2 J <| S3 3 J <| cF h store_Get_ok J J fun v1 _ h => S2 6 J <| pw_seq <| S4 2 J ?_
 refine cN h (fun hc h => ?_) fun hc h => ?_
 ·refine S3 3 J ?_
  refine cA h hold_Release_1_ok J J fun v2 _ h => S2 2 J <| S5 4 J <| cF h store_Set_ok J J fun v3 _ h => S2 5 J <| S4 2 J <| pw_ret ?_
  cases h
  exact ⟨J, [_], ⟨oL J J J Ty.a34 Ty.s34 nl J, tr⟩, J, io⟩
 ·refine pw_skip ?_
  refine S4 2 J <| pw_ret ?_
  cases h
  exact ⟨J, [_], ⟨oL J J J Ty.a34 Ty.s34 nl J, tr⟩, J, io⟩

theorem hold_Release_ok {a0 a1} : PO Tryz.prog 29 [hold_Heap.Pv a0, .I a1] (hold_Release a0 a1) fun r => hold_Heap.Pv r := by
 refine pO Tryz.func29 fun r h _ _ => ?_
 refine S4 2 J <| S3 2 J <| cF h hold_counted__hold_Release_1_ok J J fun v1 _ h => S2 1 J <| pw_ret ?_
 cases h
 exact ⟨J, [_], ⟨oL J J J Ty.a34 Ty.s34 nl J, tr⟩, J, io⟩

theorem hold_turned__hold_fieldPlace_say_ok {a0 a1 a2 a3} : PO Tryz.prog 65 [hold_Heap.Pv a0, .I a1, .I a2, .abs (BFn 72 [hold_fieldPlace.Pv a3])] (hold_turned__hold_fieldPlace_say a0 a1 a2 a3) fun r => hold_Heap.Pv r := by
 refine pO Tryz.func65 fun r h _ _ => ?_
 refine S4 2 J <| S3 3 J <| cF h hold_Retain_ok J J fun v1 _ h => bnE h fun v2 hv2 h => y_callB (xs := [hold_Heap.Pv v1]) J J Ty.k72 J (hold_fieldPlace_say_ok.2 _ hv2) <| S1 1 J <| cF h hold_Release_ok J J fun v3 _ h => S2 1 J <| pw_ret ?_
 cases h
 exact ⟨J, [_], ⟨oL J J J Ty.a34 Ty.s34 nl J, tr⟩, J, io⟩

theorem hold_Field_ok {a0 a1 a2 a3} : PO Tryz.prog 20 [hold_Heap.Pv a0, .I a1, .I a2, .I a3] (hold_Field a0 a1 a2 a3) fun r => .tup [hold_Heap.Pv r.1, .I r.2] := by
 refine pO Tryz.func20 fun r h _ _ => ?_
 refine S4 3 J <| S3 4 J <| cA h store_Field_ok J J fun v1 _ h => S2 5 J <| pw_seq <| S4 2 J ?_
 refine cN h (fun hc h => ?_) fun hc h => ?_
 ·refine S4 4 J ?_
  refine pw_ret ?_
  cases h
  exact ⟨J, [_, _], ⟨oL J J J Ty.a34 Ty.s34 nl J, ⟨J, tr⟩⟩, J, io⟩
 ·refine pw_skip ?_
  refine pw_seq <| S3 2 J <| cA h hold_nameable_ok J J fun v2 _ h => S2 1 J ?_
  refine cN h (fun hc h => ?_) fun hc h => ?_
  ·refine S4 3 J ?_
   refine pw_ret ?_
   cases h
   exact ⟨J, [_, _], ⟨oL J J J Ty.a34 Ty.s34 nl J, ⟨J, tr⟩⟩, J, io⟩
  ·refine pw_skip ?_
   refine S3 6 J <| y0 J (o_build (cs := [.I a1, .I a2, .I a3]) J Ty.p103 Ty.z103 J J J) <| y0 J (o_mkFuncB (d := .agg [.I a1, .I a2, .I a3]) J) <| cF h hold_turned__hold_fieldPlace_say_ok J J fun v3 _ h => S2 2 J <| pw_ret ?_
   cases h
   exact ⟨J, [_, _], ⟨oL J J J Ty.a34 Ty.s34 nl J, ⟨J, tr⟩⟩, J, io⟩

theorem task_of_ok {a0 a1} : PO Tryz.prog 161 [queue_Queue_task_Task.Pv a0, .I a1] (task_of a0 a1) fun r => .fn (.func 220) [.rptr (queue_Queue_task_Task.Pc r.1), .rptr [.I r.2]] := by
 refine pO Tryz.func161 fun r h _ _ => ?_
 unfold task_of at h
 refine S4 3 J <| S4 2 J <| pw_ret ?_
 cases h
 exact f1

theorem task_Waits_ok {a0 a1} : PO Tryz.prog 80 [queue_Queue_task_Task.Pv a0, .I a1] (task_Waits a0 a1) fun r => .bool r := by
 refine pO Tryz.func80 fun r h _ _ => ?_
 refine S4 3 J ?_
 refine jq h (fun _ => St.of [(4, .ptr 2001 0 0)] [(2001, vR (.bool false) 1)]) (fun q7 h => ?_) fun κ6 h => ?_
 ·refine S4 1 J ?_
  refine pw_ret ?_
  cases h
  exact ⟨J, [_], ⟨oS J J J Ty.a4 J, tr⟩, J, io⟩
 ·refine S3 1 J ?_
  refine cF h task_of_ok J J fun v8 _ h => yN <| pw_block <| pw_wk (WPE (fun l => if l = 2003 then 4 else if l = 2004 then 3 else l) [(3, .ptr 2004 0 0), (4, .ptr 2003 0 0), (7, .fn (.func 220) [.rptr (queue_Queue_task_Task.Pc v8.1), .rptr [.I v8.2]])] [(2003, vR (.bool false) 1), (2004, vR (.I a1) 1)]) ?_
  refine pw_range (fn := Tryz.f220) (N1 := 24) J Tryz.func220 J J nl J Ty.k220 J J (fun l16 e17 o18 hR19 => ?_)
  refine S3 2 J <| nL J Ty.e30 <| S2 1 J <| pw_block <| lq h (fun s10 => St.of [(1000003, .ptr 2004 0 0), (1000004, .ptr 2003 0 0), (1000007, .fn (.func 220) [.rptr (queue_Queue_task_Task.Pc v8.1), .rptr [.I v8.2]]), (0, .fn (.yield l16) []), (2, .rptr [.I v8.2]), (7, .L task_Task.Pv v8.1.L), (8, .I (v8.1.L.length : Int)), (9, .I s10)] [(2003, vR (.bool false) 1), (2004, vR (.I a1) 1)]) W fun s10 x11 h hx22 => S4 1 J <| pw_seq ?_
  refine cN h (fun hc h => ?_) fun hc h => ?_
  ·refine pw_skip ?_
   refine pw_seq <| pw_block <| sR <| iL h J J Ty.e30 Ty.s82 fun v12 _ h => S2 3 J <| S3 5 J <| y_if J (fun hg => om (d := .fn (.yield l16) []) J) <| y_if J (fun hg => oL J J J Ty.a82 Ty.s82 nl J) ?_
   rcases Bool.eq_false_or_eq_true ((v12.Kind == v8.2) == true) with hg24 | hg24
   ·have h := ifT h hg24
    refine y_wk (WE [(1000003, .ptr 2004 0 0), (1000004, .ptr 2003 0 0), (1000007, .fn (.func 220) [.rptr (queue_Queue_task_Task.Pc v8.1), .rptr [.I v8.2]]), (0, .fn (.yield l16) []), (2, .rptr [.I v8.2]), (7, .L task_Task.Pv v8.1.L), (8, .I (v8.1.L.length : Int)), (9, .I s10), (17, .bool (v12.Kind == v8.2)), (18, .fn (.yield l16) []), (19, task_Task.Pv v12)] [(2003, vR (.bool false) 1), (2004, vR (.I a1) 1)]) ?_
    refine y_yield hR19 (congrArg some hg24) J J J J J (fun e25 o26 o27 => ?_)
    refine S6 2 J ?_
    refine ⟨J, ?_⟩
    refine pw_block <| S4 4 J ?_
    refine cN h (fun hc h => ?_) fun hc h => ?_
    ·refine S4 1 J ?_
     refine pw_ret ?_
     refine ⟨J, ?_⟩
     refine y_wk (WE [(1000003, .ptr 2004 0 0), (1000004, .ptr 2003 0 0), (1000007, .fn (.func 220) [.rptr (queue_Queue_task_Task.Pc v8.1), .rptr [.I v8.2]]), (0, .fn (.yield l16) []), (2, .rptr [.I v8.2]), (7, .L task_Task.Pv v8.1.L), (8, .I (v8.1.L.length : Int)), (9, .I s10), (17, .bool (v12.Kind == v8.2)), (20, .bool false)] [(2003, vR (.bool true) 1), (2004, vR (.I a1) 1)]) <| y0 (congrArg some hg24) (o_not J J) <| y0 J (pk_andT J J hg24) <| yN ?_
     refine pw_cond true J (fun _ => ?_) (fun q => nomatch q)
     refine pw_ret ?_
     refine .inr ⟨.ret, J, jmpR ?_⟩
     have h := xL hx22 h
     cases h
     exact ⟨J, [_], ⟨oS J J J Ty.a4 J, tr⟩, J, io⟩
    ·refine pw_skip ?_
     refine ⟨J, ?_⟩
     refine y_wk (WE [(1000003, .ptr 2004 0 0), (1000004, .ptr 2003 0 0), (1000007, .fn (.func 220) [.rptr (queue_Queue_task_Task.Pc v8.1), .rptr [.I v8.2]]), (0, .fn (.yield l16) []), (2, .rptr [.I v8.2]), (7, .L task_Task.Pv v8.1.L), (8, .I (v8.1.L.length : Int)), (9, .I s10), (17, .bool (v12.Kind == v8.2)), (20, .bool true)] [(2003, vR (.bool false) 1), (2004, vR (.I a1) 1)]) <| y0 (congrArg some hg24) (o_not J J) <| y0 J (pk_andT J J hg24) <| yN ?_
     refine pw_cond false J (fun q => nomatch q) (fun _ => ?_)
     refine pw_skip <| S6 2 J ?_
     exact eL h W
   ·have h := ifF h hg24
    refine y_skip (congrArg some hg24) <| y_skip (congrArg some hg24) <| y0 J (pk_andF J J hg24) <| yN ?_
    refine pw_cond false J (fun q => nomatch q) (fun _ => ?_)
    refine pw_skip <| S6 2 J ?_
    exact eL h W
  ·refine pw_exit ?_
   refine thenQ_exit <| thenQ_exit <| blockQ_exit ?_
   refine .inl ⟨J, ?_⟩
   have h := xL hx22 h
   exact eJ h (WP (fun l => if l = 2001 then 2003 else l))

theorem weak_has_ok {a0 a1} : PO Tryz.prog 162 [.L weak_Cell.Pv a0, .I a1] (weak_has a0 a1) fun r => .bool r := by
 refine pO Tryz.func162 fun r h _ _ => ?_
 unfold weak_has at h
 refine S4 1 J <| S3 3 J <| y_if J (fun hg => mI J) <| y_if J (fun hg => om (d := .L weak_Cell.Pv a0) J) <| y_if J (fun hg => o_lnL (f := weak_Cell.Pv) (ct hg) Ty.e28) <| y_if J (fun hg => o_cmp (ct hg) (ct hg) J) <| y0 J (pk_and J J J (fun q => eqT q)) <| S2 1 J <| pw_ret ?_
 cases h
 exact f1

theorem weak_copied_okN {a0} : PON Tryz.prog 163 [.L weak_Cell.Pv a0] (weak_copied a0) fun r => ⟨List.map weak_Cell.Pv r, 0, true, 3, true⟩ := by
 refine pON Tryz.func163 fun r h _ _ => ?_
 unfold weak_copied at h
 refine S4 1 J <| S3 1 J <| nL J Ty.e28 <| bnE h fun v1 hv1 h => y1 J (o_mk (f := weak_Cell.Pv) hv1 J J J Ty.e28 Ty.s84 Ty.z84 Ty.b84 J J J) J <| S2 1 J <| S3 2 J <| bnE h fun v2 hv2 h => y_cp (f := weak_Cell.Pv) hv2 J J J (.inl ⟨_, J, J⟩) Ty.e28 Ty.s84 (fun _ => J) (by decide) <| yN <| S4 2 J <| pw_ret ?_
 cases h
 exact ⟨J, _, _, J, J, J, J⟩

theorem weak_Set_ok {a0 a1 a2 a3} : PO Tryz.prog 81 [.L weak_Cell.Pv a0, .I a1, .I a2, .I a3] (weak_Set a0 a1 a2 a3) fun r => .tup [.L weak_Cell.Pv r.1, .I r.2.1, .I r.2.2] := by
 refine pO Tryz.func81 fun r h _ _ => ?_
 refine S4 3 J <| pw_seq <| S3 2 J <| cA h weak_has_ok J J fun v1 _ h => S2 1 J ?_
 refine cN h (fun hc h => ?_) fun hc h => ?_
 ·refine S4 4 J ?_
  refine pw_ret ?_
  cases h
  exact f3
 ·refine pw_skip ?_
  refine S3 1 J <| bnE h fun v2 hv2 h => ycN J (o_clN J weak_copied_okN J hv2) J J <| S2 1 J <| S3 6 J <| y0 J (o_build (cs := [.I a2, .bool (a2 != 0), .I a3]) J Ty.p84 Ty.z84 J J J) <| bnE h fun v3 hv3 h => y0 J (o_ixR (f := weak_Cell.Pv) hv3 J J J J Ty.e28 Ty.s84 J) <| y_stE (f := weak_Cell.Pv) (v := (⟨a2, (a2 != 0), a3⟩ : weak_Cell)) hv3 J J (.inl J) Ty.s84 <| yN <| dr [] Ty.mix (by kernel_rfl) (by kernel_rfl) <| S7 3 J <| bnE h fun v4 hv4 h => d0 J (o_ixL (f := weak_Cell.Pv) (cs := weak_Cell.Pc v4) hv4 J J Ty.e28 Ty.s84 J J) J <| S8 5 J <| pw_ret ?_
  cases h
  exact f3

theorem hold_marked_ok {a0 a1 a2} : PO Tryz.prog 83 [hold_Heap.Pv a0, .I a1, .I a2] (hold_marked a0 a1 a2) fun r => hold_Heap.Pv r := by
 refine pO Tryz.func83 fun r h _ _ => ?_
 refine S4 2 J <| S3 4 J <| cA h slab_Find_store_Obj_ok J J fun v1 _ h => S2 5 J <| pw_seq <| S4 2 J ?_
 refine cN h (fun hc h => ?_) fun hc h => ?_
 ·refine S3 5 J ?_
  refine iL h J J Ty.e22 Ty.s141 fun v2 _ h => S2 4 J <| S4 6 J <| S5 4 J <| cF h store_Set_ok J J fun v3 _ h => S2 5 J <| S4 2 J <| pw_ret ?_
  cases h
  exact ⟨J, [_], ⟨oL J J J Ty.a34 Ty.s34 nl J, tr⟩, J, io⟩
 ·refine pw_skip ?_
  refine S4 2 J <| pw_ret ?_
  cases h
  exact ⟨J, [_], ⟨oL J J J Ty.a34 Ty.s34 nl J, tr⟩, J, io⟩

end Go.Proofs.YtnfmdpblilpcbaaGreat.Ok
