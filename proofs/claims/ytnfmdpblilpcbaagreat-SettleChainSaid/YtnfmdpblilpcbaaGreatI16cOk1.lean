/-
 The functions of the program do as the plain functions do.
-/
import Derived.Test.YtnfmdpblilpcbaaGreatI16cPwC
import Derived.Test.YtnfmdpblilpcbaaGreatI16cPwD
import Derived.Test.YtnfmdpblilpcbaaGreatSrt
import Derived.Test.YtnfmdpblilpcbaaGreatI16cSh
import Derived.Test.YtnfmdpblilpcbaaGreatProg
namespace Go.Proofs.YtnfmdpblilpcbaaGreat.Ok
open Go Go.Pw Go.Sh Go.Proofs
set_option linter.unusedVariables false
set_option maxRecDepth 100000
set_option maxHeartbeats 4000000
abbrev _root_.Go.Sh.store_Obj.Pc (x : store_Obj) : List PV := [.I x.Serial, .I x.Strong, .I x.Weak, .I x.Prog, .bool x.Started, .L iF x.Fields]
abbrev _root_.Go.Sh.store_Obj.Pv (x : store_Obj) : PV := .agg x.Pc
abbrev _root_.Go.Sh.slab_Cell_store_Obj.Pc (x : slab_Cell_store_Obj) : List PV := [.I x.State, .I x.Gen, .I x.Val.Serial, .I x.Val.Strong, .I x.Val.Weak, .I x.Val.Prog, .bool x.Val.Started, .L iF x.Val.Fields]
abbrev _root_.Go.Sh.slab_Cell_store_Obj.Pv (x : slab_Cell_store_Obj) : PV := .agg x.Pc
abbrev _root_.Go.Sh.slab_Slab_store_Obj.Pc (x : slab_Slab_store_Obj) : List PV := [.L slab_Cell_store_Obj.Pv x.Cells, .I x.Last]
abbrev _root_.Go.Sh.slab_Slab_store_Obj.Pv (x : slab_Slab_store_Obj) : PV := .agg x.Pc
abbrev _root_.Go.Sh.store_Store.Pc (x : store_Store) : List PV := [.L slab_Cell_store_Obj.Pv x.S.Cells, .I x.S.Last, .I x.Serial]
abbrev _root_.Go.Sh.store_Store.Pv (x : store_Store) : PV := .agg x.Pc
abbrev _root_.Go.Sh.weak_Cell.Pc (x : weak_Cell) : List PV := [.I x.Target, .bool x.Intact, .I x.Call]
abbrev _root_.Go.Sh.weak_Cell.Pv (x : weak_Cell) : PV := .agg x.Pc
abbrev _root_.Go.Sh.hash_Place.Pc (x : hash_Place) : List PV := [.I x.State, .I x.Key, .I x.Val]
abbrev _root_.Go.Sh.hash_Place.Pv (x : hash_Place) : PV := .agg x.Pc
abbrev _root_.Go.Sh.task_Task.Pc (x : task_Task) : List PV := [.I x.Kind, .I x.At, .I x.Prog]
abbrev _root_.Go.Sh.task_Task.Pv (x : task_Task) : PV := .agg x.Pc
abbrev _root_.Go.Sh.queue_Queue_task_Task.Pc (x : queue_Queue_task_Task) : List PV := [.L task_Task.Pv x.L, .I x.Cap]
abbrev _root_.Go.Sh.queue_Queue_task_Task.Pv (x : queue_Queue_task_Task) : PV := .agg x.Pc
abbrev _root_.Go.Sh.hold_Heap.Pc (x : hold_Heap) : List PV := [.L slab_Cell_store_Obj.Pv x.S.S.Cells, .I x.S.S.Last, .I x.S.Serial, .L iF x.Roots, .L weak_Cell.Pv x.Cells, .L hash_Place.Pv x.T, .L task_Task.Pv x.Q.L, .I x.Q.Cap]
abbrev _root_.Go.Sh.hold_Heap.Pv (x : hold_Heap) : PV := .agg x.Pc
abbrev _root_.Go.Sh.r06_Obj.Pc (x : r06_Obj) : List PV := [.I x.Serial, .I x.Strong, .I x.Weak, .I x.Prog, .bool x.Started, .L iF x.Fields]
abbrev _root_.Go.Sh.r06_Obj.Pv (x : r06_Obj) : PV := .agg x.Pc
abbrev _root_.Go.Sh.r06_Cell.Pc (x : r06_Cell) : List PV := [.I x.State, .I x.Gen, .I x.Val.Serial, .I x.Val.Strong, .I x.Val.Weak, .I x.Val.Prog, .bool x.Val.Started, .L iF x.Val.Fields]
abbrev _root_.Go.Sh.r06_Cell.Pv (x : r06_Cell) : PV := .agg x.Pc
abbrev _root_.Go.Sh.r09_Cell.Pc (x : r09_Cell) : List PV := [.I x.Target, .bool x.Intact, .I x.Call]
abbrev _root_.Go.Sh.r09_Cell.Pv (x : r09_Cell) : PV := .agg x.Pc
abbrev _root_.Go.Sh.r10_Place.Pc (x : r10_Place) : List PV := [.I x.State, .I x.Key, .I x.Val]
abbrev _root_.Go.Sh.r10_Place.Pv (x : r10_Place) : PV := .agg x.Pc
abbrev _root_.Go.Sh.r14_Task.Pc (x : r14_Task) : List PV := [.I x.Kind, .I x.At, .I x.Prog]
abbrev _root_.Go.Sh.r14_Task.Pv (x : r14_Task) : PV := .agg x.Pc
abbrev _root_.Go.Sh.r06_Store.Pc (x : r06_Store) : List PV := [.L r06_Cell.Pv x.Cells, .I x.Last, .I x.Serial]
abbrev _root_.Go.Sh.r06_Store.Pv (x : r06_Store) : PV := .agg x.Pc
abbrev _root_.Go.Sh.r14_Queue.Pc (x : r14_Queue) : List PV := [.L r14_Task.Pv x.L, .I x.Cap]
abbrev _root_.Go.Sh.r14_Queue.Pv (x : r14_Queue) : PV := .agg x.Pc
abbrev _root_.Go.Sh.r15_Heap.Pc (x : r15_Heap) : List PV := [.L r06_Cell.Pv x.S.Cells, .I x.S.Last, .I x.S.Serial, .L iF x.Roots, .L r09_Cell.Pv x.Cells, .L r10_Place.Pv x.T, .L r14_Task.Pv x.Q.L, .I x.Q.Cap]
abbrev _root_.Go.Sh.r15_Heap.Pv (x : r15_Heap) : PV := .agg x.Pc
abbrev _root_.Go.Sh.r03_Cell.Pc (x : r03_Cell) : List PV := [.I x.State, .I x.Gen, .I x.Val]
abbrev _root_.Go.Sh.r03_Cell.Pv (x : r03_Cell) : PV := .agg x.Pc
abbrev _root_.Go.Sh.r03_Slab.Pc (x : r03_Slab) : List PV := [.L r03_Cell.Pv x.Cells, .I x.Last]
abbrev _root_.Go.Sh.r03_Slab.Pv (x : r03_Slab) : PV := .agg x.Pc
abbrev _root_.Go.Sh.r11_Pair.Pc (x : r11_Pair) : List PV := [.I x.Key, .I x.Val]
abbrev _root_.Go.Sh.r11_Pair.Pv (x : r11_Pair) : PV := .agg x.Pc
abbrev _root_.Go.Sh.hold_fieldPlace.Pc (x : hold_fieldPlace) : List PV := [.I x.h, .I x.k, .I x.v]
abbrev _root_.Go.Sh.hold_fieldPlace.Pv (x : hold_fieldPlace) : PV := .agg x.Pc
abbrev _root_.Go.Sh.store_rule.Pc (x : store_rule) : List PV := [fvE x.kept]
abbrev _root_.Go.Sh.store_rule.Pv (x : store_rule) : PV := .agg x.Pc
abbrev _root_.Go.Sh.ephem_Pair.Pc (x : ephem_Pair) : List PV := [.I x.Key, .I x.Val]
abbrev _root_.Go.Sh.ephem_Pair.Pv (x : ephem_Pair) : PV := .agg x.Pc
abbrev _root_.Go.Sh.hold_rootPlace.Pc (x : hold_rootPlace) : List PV := [.I x.r, .I x.h]
abbrev _root_.Go.Sh.hold_rootPlace.Pv (x : hold_rootPlace) : PV := .agg x.Pc
namespace Ty
theorem a3 : tagg Tryz.prog 3 = some false := by kernel_rfl
theorem a4 : tagg Tryz.prog 4 = some false := by kernel_rfl
theorem a22 : tagg Tryz.prog 22 = some false := by kernel_rfl
theorem a24 : tagg Tryz.prog 24 = some true := by kernel_rfl
theorem a26 : tagg Tryz.prog 26 = some true := by kernel_rfl
theorem a27 : tagg Tryz.prog 27 = some false := by kernel_rfl
theorem a28 : tagg Tryz.prog 28 = some false := by kernel_rfl
theorem a29 : tagg Tryz.prog 29 = some false := by kernel_rfl
theorem a30 : tagg Tryz.prog 30 = some false := by kernel_rfl
theorem a32 : tagg Tryz.prog 32 = some true := by kernel_rfl
theorem a34 : tagg Tryz.prog 34 = some true := by kernel_rfl
theorem a37 : tagg Tryz.prog 37 = some false := by kernel_rfl
theorem a82 : tagg Tryz.prog 82 = some true := by kernel_rfl
theorem a91 : tagg Tryz.prog 91 = some true := by kernel_rfl
theorem a183 : tagg Tryz.prog 183 = some true := by kernel_rfl
theorem a303 : tagg Tryz.prog 303 = some true := by kernel_rfl
theorem b3 : tbytes Tryz.prog 3 = some 8 := by kernel_rfl
theorem b82 : tbytes Tryz.prog 82 = some 24 := by kernel_rfl
theorem b84 : tbytes Tryz.prog 84 = some 24 := by kernel_rfl
theorem b141 : tbytes Tryz.prog 141 = some 80 := by kernel_rfl
theorem b183 : tbytes Tryz.prog 183 = some 24 := by kernel_rfl
theorem b238 : tbytes Tryz.prog 238 = some 16 := by kernel_rfl
theorem e22 : telem Tryz.prog 22 = some 141 := by kernel_rfl
theorem e27 : telem Tryz.prog 27 = some 3 := by kernel_rfl
theorem e28 : telem Tryz.prog 28 = some 84 := by kernel_rfl
theorem e29 : telem Tryz.prog 29 = some 183 := by kernel_rfl
theorem e30 : telem Tryz.prog 30 = some 82 := by kernel_rfl
theorem e178 : telem Tryz.prog 178 = some 35 := by kernel_rfl
theorem e239 : telem Tryz.prog 239 = some 238 := by kernel_rfl
theorem e277 : telem Tryz.prog 277 = some 281 := by kernel_rfl
theorem f24_0 : foff Tryz.prog 24 0 = some (0, 22) := by kernel_rfl
theorem f24_1 : foff Tryz.prog 24 1 = some (1, 3) := by kernel_rfl
theorem f26_0 : foff Tryz.prog 26 0 = some (0, 24) := by kernel_rfl
theorem f26_1 : foff Tryz.prog 26 1 = some (2, 3) := by kernel_rfl
theorem f32_0 : foff Tryz.prog 32 0 = some (0, 30) := by kernel_rfl
theorem f32_1 : foff Tryz.prog 32 1 = some (1, 3) := by kernel_rfl
theorem f34_0 : foff Tryz.prog 34 0 = some (0, 26) := by kernel_rfl
theorem f34_1 : foff Tryz.prog 34 1 = some (3, 27) := by kernel_rfl
theorem f34_2 : foff Tryz.prog 34 2 = some (4, 28) := by kernel_rfl
theorem f34_3 : foff Tryz.prog 34 3 = some (5, 29) := by kernel_rfl
theorem f34_4 : foff Tryz.prog 34 4 = some (6, 32) := by kernel_rfl
theorem f82_1 : foff Tryz.prog 82 1 = some (1, 3) := by kernel_rfl
theorem f82_2 : foff Tryz.prog 82 2 = some (2, 3) := by kernel_rfl
theorem f84_0 : foff Tryz.prog 84 0 = some (0, 3) := by kernel_rfl
theorem f84_1 : foff Tryz.prog 84 1 = some (1, 4) := by kernel_rfl
theorem f84_2 : foff Tryz.prog 84 2 = some (2, 3) := by kernel_rfl
theorem f91_0 : foff Tryz.prog 91 0 = some (0, 3) := by kernel_rfl
theorem f91_1 : foff Tryz.prog 91 1 = some (1, 3) := by kernel_rfl
theorem f91_2 : foff Tryz.prog 91 2 = some (2, 3) := by kernel_rfl
theorem f91_3 : foff Tryz.prog 91 3 = some (3, 3) := by kernel_rfl
theorem f91_4 : foff Tryz.prog 91 4 = some (4, 4) := by kernel_rfl
theorem f91_5 : foff Tryz.prog 91 5 = some (5, 27) := by kernel_rfl
theorem f141_0 : foff Tryz.prog 141 0 = some (0, 3) := by kernel_rfl
theorem f141_1 : foff Tryz.prog 141 1 = some (1, 3) := by kernel_rfl
theorem f141_2 : foff Tryz.prog 141 2 = some (2, 91) := by kernel_rfl
theorem f183_0 : foff Tryz.prog 183 0 = some (0, 3) := by kernel_rfl
theorem f183_1 : foff Tryz.prog 183 1 = some (1, 3) := by kernel_rfl
theorem f238_1 : foff Tryz.prog 238 1 = some (1, 3) := by kernel_rfl
theorem i3 : tint Tryz.prog 3 = some .i64 := by kernel_rfl
theorem k66 : Callable Tryz.prog 66 := kC Tryz.func66 J
theorem k72 : Callable Tryz.prog 72 := kC Tryz.func72 J
theorem k120 : Callable Tryz.prog 120 := kC Tryz.func120 J
theorem k142 : Callable Tryz.prog 142 := kC Tryz.func142 J
theorem k143 : Callable Tryz.prog 143 := kC Tryz.func143 J
theorem k207 : Callable Tryz.prog 207 := kC Tryz.func207 J
theorem k208 : Callable Tryz.prog 208 := kC Tryz.func208 J
theorem k217 : Callable Tryz.prog 217 := kC Tryz.func217 J
theorem k220 : Callable Tryz.prog 220 := kC Tryz.func220 J
theorem k239 : Callable Tryz.prog 239 := kC Tryz.func239 J
theorem k241 : Callable Tryz.prog 241 := kC Tryz.func241 J
theorem k265 : Callable Tryz.prog 265 := kC Tryz.func265 J
theorem k280 : Callable Tryz.prog 280 := kC Tryz.func280 J
theorem k287 : Callable Tryz.prog 287 := kC Tryz.func287 J
theorem mm175 : tmap Tryz.prog 175 = some (3, 3) := by kernel_rfl
theorem mm222 : tmap Tryz.prog 222 = some (3, 4) := by kernel_rfl
theorem mm242 : tmap Tryz.prog 242 = some (82, 4) := by kernel_rfl
theorem p24 : bplaces Tryz.prog 24 = some (fun i => (#[(0, 1), (1, 1)] : Array (Nat × Nat))[i]?) := by kernel_rfl
theorem p26 : bplaces Tryz.prog 26 = some (fun i => (#[(0, 2), (2, 1)] : Array (Nat × Nat))[i]?) := by kernel_rfl
theorem p32 : bplaces Tryz.prog 32 = some (fun i => (#[(0, 1), (1, 1)] : Array (Nat × Nat))[i]?) := by kernel_rfl
theorem p34 : bplaces Tryz.prog 34 = some (fun i => (#[(0, 3), (3, 1), (4, 1), (5, 1), (6, 2)] : Array (Nat × Nat))[i]?) := by kernel_rfl
theorem p82 : bplaces Tryz.prog 82 = some (fun i => (#[(0, 1), (1, 1), (2, 1)] : Array (Nat × Nat))[i]?) := by kernel_rfl
theorem p84 : bplaces Tryz.prog 84 = some (fun i => (#[(0, 1), (1, 1), (2, 1)] : Array (Nat × Nat))[i]?) := by kernel_rfl
theorem p91 : bplaces Tryz.prog 91 = some (fun i => (#[(0, 1), (1, 1), (2, 1), (3, 1), (4, 1), (5, 1)] : Array (Nat × Nat))[i]?) := by kernel_rfl
theorem p96 : bplaces Tryz.prog 96 = some (fun i => (#[(0, 1), (1, 1)] : Array (Nat × Nat))[i]?) := by kernel_rfl
theorem p103 : bplaces Tryz.prog 103 = some (fun i => (#[(0, 1), (1, 1), (2, 1)] : Array (Nat × Nat))[i]?) := by kernel_rfl
theorem p141 : bplaces Tryz.prog 141 = some (fun i => (#[(0, 1), (1, 1), (2, 6)] : Array (Nat × Nat))[i]?) := by kernel_rfl
theorem p183 : bplaces Tryz.prog 183 = some (fun i => (#[(0, 1), (1, 1), (2, 1)] : Array (Nat × Nat))[i]?) := by kernel_rfl
theorem p238 : bplaces Tryz.prog 238 = some (fun i => (#[(0, 1), (1, 1)] : Array (Nat × Nat))[i]?) := by kernel_rfl
theorem p252 : bplaces Tryz.prog 252 = some (fun i => (#[(0, 1)] : Array (Nat × Nat))[i]?) := by kernel_rfl
theorem p281 : bplaces Tryz.prog 281 = some (fun i => (#[(0, 1)] : Array (Nat × Nat))[i]?) := by kernel_rfl
theorem p303 : bplaces Tryz.prog 303 = some (fun i => some (i * 1, 1)) := by kernel_rfl
theorem q82 : fkinds Tryz.prog 82 = some [1, 1, 1] := by kernel_rfl
theorem q183 : fkinds Tryz.prog 183 = some [1, 1, 1] := by kernel_rfl
theorem q303 : fkinds Tryz.prog 303 = some [1, 1, 1, 1] := by kernel_rfl
theorem s3 : tsize Tryz.prog 3 = some 1 := by kernel_rfl
theorem s4 : tsize Tryz.prog 4 = some 1 := by kernel_rfl
theorem s24 : tsize Tryz.prog 24 = some 2 := by kernel_rfl
theorem s26 : tsize Tryz.prog 26 = some 3 := by kernel_rfl
theorem s27 : tsize Tryz.prog 27 = some 1 := by kernel_rfl
theorem s30 : tsize Tryz.prog 30 = some 1 := by kernel_rfl
theorem s32 : tsize Tryz.prog 32 = some 2 := by kernel_rfl
theorem s34 : tsize Tryz.prog 34 = some 8 := by kernel_rfl
theorem s35 : tsize Tryz.prog 35 = some 1 := by kernel_rfl
theorem s82 : tsize Tryz.prog 82 = some 3 := by kernel_rfl
theorem s84 : tsize Tryz.prog 84 = some 3 := by kernel_rfl
theorem s91 : tsize Tryz.prog 91 = some 6 := by kernel_rfl
theorem s141 : tsize Tryz.prog 141 = some 8 := by kernel_rfl
theorem s183 : tsize Tryz.prog 183 = some 3 := by kernel_rfl
theorem s238 : tsize Tryz.prog 238 = some 2 := by kernel_rfl
theorem s281 : tsize Tryz.prog 281 = some 1 := by kernel_rfl
theorem s303 : tsize Tryz.prog 303 = some 4 := by kernel_rfl
theorem u3 : Tryz.prog.underlying 3 = some (.int .i64) := by kernel_rfl
theorem u5 : Tryz.prog.underlying 5 = some (.int .u8) := by kernel_rfl
theorem z3 : tzero Tryz.prog 3 = some ((.I 0)) := by kernel_rfl
theorem z4 : tzero Tryz.prog 4 = some ((.bool false)) := by kernel_rfl
theorem z24 : tzero Tryz.prog 24 = some ((.agg #[(.slice none 0 0), (.I 0)])) := by kernel_rfl
theorem z26 : tzero Tryz.prog 26 = some ((.agg #[(.slice none 0 0), (.I 0), (.I 0)])) := by kernel_rfl
theorem z32 : tzero Tryz.prog 32 = some ((.agg #[(.slice none 0 0), (.I 0)])) := by kernel_rfl
theorem z34 : tzero Tryz.prog 34 = some ((.agg #[(.slice none 0 0), (.I 0), (.I 0), (.slice none 0 0), (.slice none 0 0), (.slice none 0 0), (.slice none 0 0), (.I 0)])) := by kernel_rfl
theorem z35 : tzero Tryz.prog 35 = some (.nilFunc) := by kernel_rfl
theorem z82 : tzero Tryz.prog 82 = some ((.agg #[(.I 0), (.I 0), (.I 0)])) := by kernel_rfl
theorem z84 : tzero Tryz.prog 84 = some ((.agg #[(.I 0), (.bool false), (.I 0)])) := by kernel_rfl
theorem z91 : tzero Tryz.prog 91 = some ((.agg #[(.I 0), (.I 0), (.I 0), (.I 0), (.bool false), (.slice none 0 0)])) := by kernel_rfl
theorem z96 : tzero Tryz.prog 96 = some ((.agg #[(.I 0), (.I 0)])) := by kernel_rfl
theorem z103 : tzero Tryz.prog 103 = some ((.agg #[(.I 0), (.I 0), (.I 0)])) := by kernel_rfl
theorem z141 : tzero Tryz.prog 141 = some ((.agg #[(.I 0), (.I 0), (.I 0), (.I 0), (.I 0), (.I 0), (.bool false), (.slice none 0 0)])) := by kernel_rfl
theorem z183 : tzero Tryz.prog 183 = some ((.agg #[(.I 0), (.I 0), (.I 0)])) := by kernel_rfl
theorem z238 : tzero Tryz.prog 238 = some ((.agg #[(.I 0), (.I 0)])) := by kernel_rfl
theorem z252 : tzero Tryz.prog 252 = some ((.agg #[.nilFunc])) := by kernel_rfl
theorem z281 : tzero Tryz.prog 281 = some ((.agg #[.nilFunc])) := by kernel_rfl
theorem z303 : tzero Tryz.prog 303 = some ((.agg #[(.I 0), (.I 0), (.I 0), (.I 0)])) := by kernel_rfl
theorem mix : Tryz.prog.follows .mixedOrders = true := by kernel_rfl
end Ty
def tb : TB := ⟨[((24, 0), (0, 22)), ((24, 1), (1, 3)), ((26, 0), (0, 24)), ((26, 1), (2, 3)), ((32, 0), (0, 30)), ((32, 1), (1, 3)), ((34, 0), (0, 26)), ((34, 1), (3, 27)), ((34, 2), (4, 28)), ((34, 3), (5, 29)), ((34, 4), (6, 32)), ((82, 0), (0, 3)), ((82, 1), (1, 3)), ((84, 0), (0, 3)), ((84, 1), (1, 4)), ((84, 2), (2, 3)), ((91, 0), (0, 3)), ((91, 1), (1, 3)), ((91, 2), (2, 3)), ((91, 3), (3, 3)), ((91, 4), (4, 4)), ((91, 5), (5, 27)), ((96, 0), (0, 3)), ((96, 1), (1, 3)), ((103, 0), (0, 3)), ((103, 1), (1, 3)), ((103, 2), (2, 3)), ((141, 0), (0, 3)), ((141, 1), (1, 3)), ((141, 2), (2, 91)), ((183, 0), (0, 3)), ((183, 1), (1, 3)), ((183, 2), (2, 3)), ((238, 0), (0, 3)), ((252, 0), (0, 250)), ((281, 0), (0, 279))], [(3, false), (4, false), (22, false), (24, true), (26, true), (27, false), (28, false), (29, false), (30, false), (32, true), (34, true), (35, false), (82, true), (84, true), (91, true), (141, true), (175, false), (183, true), (238, true), (239, false), (241, false), (242, false), (250, false), (252, true), (279, false), (281, true)], [(3, 1), (4, 1), (22, 1), (24, 2), (26, 3), (27, 1), (28, 1), (29, 1), (32, 2), (34, 8), (37, 1), (82, 3), (84, 3), (91, 6), (141, 8), (175, 1), (183, 3), (238, 2), (239, 1), (242, 1), (252, 1), (281, 1), (303, 4)], [(3, .I 0), (4, .bool false), (24, .agg [.lst true (List.map slab_Cell_store_Obj.Pv []), .I 0]), (26, .agg [.lst true (List.map slab_Cell_store_Obj.Pv []), .I 0, .I 0]), (27, .lst true (List.map iF [])), (32, .agg [.lst true (List.map task_Task.Pv []), .I 0]), (34, .agg [.lst true (List.map slab_Cell_store_Obj.Pv []), .I 0, .I 0, .lst true (List.map iF []), .lst true (List.map weak_Cell.Pv []), .lst true (List.map hash_Place.Pv []), .lst true (List.map task_Task.Pv []), .I 0]), (37, .I 0), (82, .agg [.I 0, .I 0, .I 0]), (84, .agg [.I 0, .bool false, .I 0]), (91, .agg [.I 0, .I 0, .I 0, .I 0, .bool false, .lst true (List.map iF [])]), (141, .agg [.I 0, .I 0, .I 0, .I 0, .I 0, .I 0, .bool false, .lst true (List.map iF [])]), (175, .abs NilMap), (183, .agg [.I 0, .I 0, .I 0]), (238, .agg [.I 0, .I 0]), (239, .lst true (List.map ephem_Pair.Pv [])), (242, .abs NilMap), (252, .agg [.nilfn]), (281, .agg [.nilfn]), (303, .agg [.I 0, .I 0, .I 0, .I 0])]⟩
theorem Tb : TB.Ok Tryz.prog tb := ⟨by kernel_rfl, by kernel_rfl, by kernel_rfl, by kernel_rfl⟩
section
variable {X : Ctx} {ops : Array Oper} {K : Ctx → St → Prop} {i n : Nat} {l l' : List Oper} {env env' : Nat → PV} {σ σ' : Nat → Option Row} {Q : PX → Ctx → St → Prop} {y : Code} {KD : St → Prop} {bar : List Nat}
theorem S1 (n : Nat) (h : run tb n l env σ = some (l', env', σ')) (k : Sq X ops (i + n) l' K ⟨env', σ'⟩) (hb : TB.Ok X.P tb := by exact Tb) : Sq X ops i l K ⟨env, σ⟩ := seg hb n h k
theorem S2 (n : Nat) (h : run tb n l env σ = some ([], env', σ')) (k : K X ⟨env', σ'⟩) (hb : TB.Ok X.P tb := by exact Tb) : Sq X ops i l K ⟨env, σ⟩ := seg hb n h (yN k)
theorem S3 {id : Nat} (n : Nat) (h : run tb n l env σ = some (l', env', σ')) (k : Sq X l.toArray (0 + n) l' (fun X' s => Pwp X' y Q s) ⟨env', σ'⟩) (hd : dstOK X.N l.toArray = true := by kernel_rfl) (hb : TB.Ok X.P tb := by exact Tb) : Pwp X (.seq (.region id l.toArray false) y) Q ⟨env, σ⟩ := sr hd (seg hb n h k)
theorem S4 {id : Nat} (n : Nat) (h : run tb n l env σ = some ([], env', σ')) (k : Pwp X y Q ⟨env', σ'⟩) (hd : dstOK X.N l.toArray = true := by kernel_rfl) (hb : TB.Ok X.P tb := by exact Tb) : Pwp X (.seq (.region id l.toArray false) y) Q ⟨env, σ⟩ := sr hd (seg hb n h (yN k))
theorem S5 {id : Nat} (n : Nat) (h : run tb n l env σ = some (l', env', σ')) (k : Sq X l.toArray (0 + n) l' (Q .normal) ⟨env', σ'⟩) (hd : dstOK X.N l.toArray = true := by kernel_rfl) (hb : TB.Ok X.P tb := by exact Tb) : Pwp X (.region id l.toArray false) Q ⟨env, σ⟩ := sr1 hd (seg hb n h k)
theorem S6 {id : Nat} (n : Nat) (h : run tb n l env σ = some ([], env', σ')) (k : Q .normal X ⟨env', σ'⟩) (hd : dstOK X.N l.toArray = true := by kernel_rfl) (hb : TB.Ok X.P tb := by exact Tb) : Pwp X (.region id l.toArray false) Q ⟨env, σ⟩ := sr1 hd (seg hb n h (yN k))
theorem S7 (n : Nat) (h : runD tb bar n i l env σ = some (l', env', σ')) (k : Ex X.P ops bar true (i + n) l' ⟨env', σ'⟩ KD) (hb : TB.Ok X.P tb := by exact Tb) : Ex X.P ops bar true i l ⟨env, σ⟩ KD := dG hb n h k
theorem S8 (n : Nat) (h : runD tb bar n i l env σ = some ([], env', σ')) (k : KD ⟨env', σ'⟩) (hb : TB.Ok X.P tb := by exact Tb) : Ex X.P ops bar true i l ⟨env, σ⟩ KD := dG hb n h k
end
theorem sortAt : SortAt Tryz.prog (Tryz.sortF_ren.f 6) := sortAt_of Tryz.sortF
theorem slab_New_store_Obj_ok {a0 a1} : PO Tryz.prog 193 [.I a0, .I a1] (slab_New_store_Obj a0 a1) fun r => slab_Slab_store_Obj.Pv r := by
 refine pO Tryz.func193 fun r h _ _ => ?_
 refine S4 1 J <| pw_seq <| S3 3 J <| y_if J (fun hg => mI J) <| y_if J (fun hg => o_cmp (ct hg) J J) <| y0 J (pk_or J J J (fun q => eqF q)) <| S1 1 J <| y_if J (fun hg => mI J) <| y_if J (fun hg => o_cmp (ct hg) J J) <| y0 J (pk_or J J J (fun q => eqF q)) <| S1 1 J <| y_if J (fun hg => mI J) <| y_if J (fun hg => o_cmp (ct hg) J J) <| y0 J (pk_or J J J (fun q => eqF q)) <| yN ?_
 refine cN h (fun hc h => ?_) fun hc h => ?_
 ·refine sR ?_
  refine y0 J (o_build (cs := [.nl, .I 0]) J Ty.p24 Ty.z24 J J J) <| y_sto (x' := .agg [.nl, .I 0]) (cl' := true) J J (.inl J) Ty.s24 <| yN <| pw_ret ?_
  cases h
  exact ⟨J, [_], ⟨oL J J J Ty.a24 Ty.s24 nl J, tr⟩, J, io⟩
 ·refine pw_skip ?_
  refine S3 1 J <| bnE h fun v1 hv1 h => y1 J (o_mk (f := slab_Cell_store_Obj.Pv) hv1 J J J Ty.e22 Ty.s141 Ty.z141 Ty.b141 J J J) J <| S1 1 J <| y0 J (o_build (cs := [.sl 21, .I a1]) J Ty.p24 Ty.z24 J J J) <| S2 1 J <| pw_ret ?_
  cases h
  exact ⟨J, [_], ⟨oL J J J Ty.a24 Ty.s24 nl J, tr⟩, J, io⟩

theorem store_New_ok {a0 a1} : PO Tryz.prog 134 [.I a0, .I a1] (store_New a0 a1) fun r => store_Store.Pv r := by
 refine pO Tryz.func134 fun r h _ _ => ?_
 refine S4 1 J <| S3 2 J <| cF h slab_New_store_Obj_ok J J fun v1 _ h => y0 J (o_build (cs := [.L slab_Cell_store_Obj.Pv v1.Cells, .I v1.Last, .I 0]) J Ty.p26 Ty.z26 J J J) <| S2 1 J <| pw_ret ?_
 cases h
 exact ⟨J, [_], ⟨oL J J J Ty.a26 Ty.s26 nl J, tr⟩, J, io⟩

theorem weak_New_ok {a0} : PO Tryz.prog 135 [.I a0] (weak_New a0) fun r => .L weak_Cell.Pv r := by
 refine pO Tryz.func135 fun r h _ _ => ?_
 refine S4 1 J <| pw_seq <| S3 3 J <| y_if J (fun hg => mI J) <| y_if J (fun hg => o_cmp (ct hg) J J) <| y0 J (pk_or J J J (fun q => eqF q)) <| yN ?_
 refine cN h (fun hc h => ?_) fun hc h => ?_
 ·refine S4 1 J ?_
  refine pw_ret ?_
  cases h
  exact f1
 ·refine pw_skip ?_
  refine S3 1 J <| bnE h fun v1 hv1 h => y1 J (o_mk (f := weak_Cell.Pv) hv1 J J J Ty.e28 Ty.s84 Ty.z84 Ty.b84 J J J) J <| S2 1 J ?_
  refine jq h (fun j9 => St.of [(3, .sl 12)] [(12, ⟨List.map weak_Cell.Pv j9, 0, true, 3, true⟩)]) (fun j9 h => ?_) fun κ8 h => ?_
  ·refine S4 2 J ?_
   refine pw_ret ?_
   cases h
   exact f1
  ·refine S3 1 J ?_
   refine y0 J (o_lnR (f := weak_Cell.Pv) J J J Ty.e28) <| S2 1 J <| pw_block <| lq h (fun q => St.of [(3, .sl 12), (14, .I (v1.length : Int)), (15, .I q.1)] [(12, ⟨List.map weak_Cell.Pv q.2, 0, true, 3, true⟩)]) W fun q14 x13 h hx9 => ?_
   obtain ⟨s11, s12⟩ := q14
   refine S4 1 J <| pw_seq ?_
   refine cN h (fun hc h => ?_) fun hc h => ?_
   ·refine pw_skip ?_
    refine pw_seq <| pw_block <| S4 2 J <| S5 2 J <| bnE h fun v15 hv10 h => y0 J (o_ixR (f := weak_Cell.Pv) hv10 J J J J Ty.e28 Ty.s84 J) <| S1 1 J <| y_stE (f := weak_Cell.Pv) (v := (⟨v15.Target, v15.Intact, (-1)⟩ : weak_Cell)) hv10 J J (.inl J) Ty.s3 <| yN <| S6 2 J ?_
    exact eL h W
   ·refine pw_exit ?_
    refine thenQ_exit <| thenQ_exit <| blockQ_exit ?_
    have h := xL hx9 h
    exact eJ h W

theorem hash_New_ok {a0} : PO Tryz.prog 136 [.I a0] (hash_New a0) fun r => .L hash_Place.Pv r := by
 refine pO Tryz.func136 fun r h _ _ => ?_
 refine S4 1 J <| pw_seq <| S3 3 J <| y_if J (fun hg => mI J) <| y_if J (fun hg => o_cmp (ct hg) J J) <| y0 J (pk_or J J J (fun q => eqF q)) <| yN ?_
 refine cN h (fun hc h => ?_) fun hc h => ?_
 ·refine S4 1 J ?_
  refine pw_ret ?_
  cases h
  exact f1
 ·refine pw_skip ?_
  refine S3 1 J <| bnE h fun v1 hv1 h => y1 J (o_mk (f := hash_Place.Pv) hv1 J J J Ty.e29 Ty.s183 Ty.z183 Ty.b183 J J J) J <| S2 1 J <| pw_ret ?_
  cases h
  exact f1

theorem queue_New_task_Task_ok {a0} : PO Tryz.prog 194 [.I a0] (queue_New_task_Task a0) fun r => queue_Queue_task_Task.Pv r := by
 refine pO Tryz.func194 fun r h _ _ => ?_
 unfold queue_New_task_Task at h
 refine S4 1 J <| S3 1 J <| y0 J (o_build (cs := [.nl, .I a0]) J Ty.p32 Ty.z32 J J J) <| y_sto (x' := .agg [.nl, .I a0]) (cl' := true) J J (.inl J) Ty.s32 <| yN <| pw_ret ?_
 cases h
 exact ⟨J, [_], ⟨oL J J J Ty.a32 Ty.s32 nl J, tr⟩, J, io⟩

theorem task_New_ok : PO Tryz.prog 137 [] (task_New) fun r => queue_Queue_task_Task.Pv r := by
 refine pO Tryz.func137 fun r h _ _ => ?_
 refine S4 1 J <| sR <| cF h queue_New_task_Task_ok J J fun v1 _ h => S2 1 J <| pw_ret ?_
 cases h
 exact ⟨J, [_], ⟨oL J J J Ty.a32 Ty.s32 nl J, tr⟩, J, io⟩

theorem hold_New_ok {a0 a1 a2} : PO Tryz.prog 58 [.I a0, .I a1, .I a2] (hold_New a0 a1 a2) fun r => hold_Heap.Pv r := by
 refine pO Tryz.func58 fun r h _ _ => ?_
 refine S4 1 J <| pw_seq <| S3 3 J <| y_if J (fun hg => mI J) <| y_if J (fun hg => o_cmp (ct hg) J J) <| y0 J (pk_or J J J (fun q => eqF q)) <| S1 1 J <| y_if J (fun hg => mI J) <| y_if J (fun hg => o_cmp (ct hg) J J) <| y0 J (pk_or J J J (fun q => eqF q)) <| S1 1 J <| y_if J (fun hg => mI J) <| y_if J (fun hg => o_cmp (ct hg) J J) <| y0 J (pk_or J J J (fun q => eqF q)) <| S1 1 J <| y_if J (fun hg => mI J) <| y_if J (fun hg => o_cmp (ct hg) J J) <| y0 J (pk_or J J J (fun q => eqF q)) <| S1 1 J <| y_if J (fun hg => mI J) <| y_if J (fun hg => o_cmp (ct hg) J J) <| y0 J (pk_or J J J (fun q => eqF q)) <| yN ?_
 refine cN h (fun hc h => ?_) fun hc h => ?_
 ·refine sR ?_
  refine y0 J (o_build (cs := [.nl, .I 0, .I 0, .nl, .nl, .nl, .nl, .I 0]) J Ty.p34 Ty.z34 J J J) <| y_sto (x' := .agg [.nl, .I 0, .I 0, .nl, .nl, .nl, .nl, .I 0]) (cl' := true) J J (.inl J) Ty.s34 <| yN <| pw_ret ?_
  cases h
  exact ⟨J, [_], ⟨oL J J J Ty.a34 Ty.s34 nl J, tr⟩, J, io⟩
 ·refine pw_skip ?_
  refine dr [] Ty.mix (by kernel_rfl) (by kernel_rfl) <| S7 2 J <| bnE h fun v1 hv1 h => d2f J (o_clF J store_New_ok J hv1) J <| bnE h fun v2 hv2 h => d1 J (o_mk (f := iF) hv2 J J J Ty.e27 Ty.s3 Ty.z3 Ty.b3 J J J) J J J <| bnE h fun v3 hv3 h => d2f J (o_clF J weak_New_ok J hv3) J <| S7 1 J <| bnE h fun v4 hv4 h => d2f J (o_clF J hash_New_ok J hv4) J <| bnE h fun v5 hv5 h => d2f J (o_clF J task_New_ok J hv5) J <| d7 J (fun _ hN => o_build (cs := [.L slab_Cell_store_Obj.Pv v1.S.Cells, .I v1.S.Last, .I v1.Serial, .sl 33, .L weak_Cell.Pv v3, .L hash_Place.Pv v4, .L task_Task.Pv v5.L, .I v5.Cap]) J Ty.p34 Ty.z34 J J J) J <| d_sto (x' := .agg [.L slab_Cell_store_Obj.Pv v1.S.Cells, .I v1.S.Last, .I v1.Serial, .sl 33, .L weak_Cell.Pv v3, .L hash_Place.Pv v4, .L task_Task.Pv v5.L, .I v5.Cap]) (cl' := false) J J (.inr J) Ty.s34 <| d_nil <| pw_ret ?_
  cases h
  exact ⟨J, [_], ⟨oL J J J Ty.a34 Ty.s34 nl J, tr⟩, J, io⟩

theorem vec_New_ok {a0} : PO Tryz.prog 138 [.I a0] (vec_New a0) fun r => .tup [.L iF r.1, .I r.2] := by
 refine pO Tryz.func138 fun r h _ _ => ?_
 refine S4 2 J <| pw_seq <| S3 3 J <| y_if J (fun hg => mI J) <| y_if J (fun hg => o_cmp (ct hg) J J) <| y0 J (pk_or J J J (fun q => eqF q)) <| yN ?_
 refine cN h (fun hc h => ?_) fun hc h => ?_
 ·refine S4 2 J ?_
  refine pw_ret ?_
  cases h
  exact f2
 ·refine pw_skip ?_
  refine S3 1 J <| bnE h fun v1 hv1 h => y1 J (o_mk (f := iF) hv1 J J J Ty.e27 Ty.s3 Ty.z3 Ty.b3 J J J) J <| S2 2 J <| pw_ret ?_
  cases h
  exact f2

theorem store_programFits_ok {a0} : PO Tryz.prog 139 [.I a0] (store_programFits a0) fun r => .bool r := by
 refine pO Tryz.func139 fun r h _ _ => ?_
 unfold store_programFits at h
 refine S4 1 J <| S3 3 J <| y_if J (fun hg => mI J) <| y_if J (fun hg => o_cmp (ct hg) J J) <| y0 J (pk_and J J J (fun q => eqT q)) <| S2 1 J <| pw_ret ?_
 cases h
 exact f1

theorem slab_free_store_Obj_ok {a0} : PO Tryz.prog 195 [slab_Slab_store_Obj.Pv a0] (slab_free_store_Obj a0) fun r => .fn (.func 241) [.rptr (slab_Slab_store_Obj.Pc r)] := by
 refine pO Tryz.func195 fun r h _ _ => ?_
 unfold slab_free_store_Obj at h
 refine S4 2 J <| S4 2 J <| pw_ret ?_
 cases h
 exact f1

theorem slices_Clone_slab_Cell_store_Obj_slab_Cell_store_Obj_okN {a0} : PON Tryz.prog 242 [.L slab_Cell_store_Obj.Pv a0] (slices_Clone_slab_Cell_store_Obj_slab_Cell_store_Obj a0) fun r => ⟨List.map slab_Cell_store_Obj.Pv r, 0, true, 8, true⟩ := by
 refine pON Tryz.func242 fun r h _ _ => ?_
 unfold slices_Clone_slab_Cell_store_Obj_slab_Cell_store_Obj at h
 refine S4 1 J <| pw_seq <| S3 1 J <| y_eqnil J Ty.e22 fun b hb => yN ?_
 refine pw_cond b J (fun hc => ?_) (fun hc => ?_)
 ·obtain rfl : a0 = [] := by simpa using hb hc
  refine S4 1 J <| pw_wk (wk_nil (t := 2) (l := 920000) (z := 8) J J) <| pw_ret ?_
  cases h
  exact ⟨J, _, _, J, J, J, J⟩
 ·refine pw_skip ?_
  refine sR <| y0 J (o_nslice J Ty.e22 Ty.s141) <| S1 1 J <| y1 J (o_apT (f := slab_Cell_store_Obj.Pv) h J J (.inl ⟨_, J, J⟩) Ty.e22 Ty.s141 Ty.b141 Ty.z141 J (fun _ => J)) J <| S2 1 J <| pw_ret ?_
  exact ⟨J, _, _, J, J, J, J⟩

theorem slab_with_store_Obj_ok {a0 a1 a2} : PO Tryz.prog 196 [slab_Slab_store_Obj.Pv a0, .I a1, slab_Cell_store_Obj.Pv a2] (slab_with_store_Obj a0 a1 a2) fun r => slab_Slab_store_Obj.Pv r := by
 refine pO Tryz.func196 fun r h _ _ => ?_
 unfold slab_with_store_Obj at h
 refine S4 3 J <| S3 2 J <| bnE h fun v1 hv1 h => ycN J (o_clN J slices_Clone_slab_Cell_store_Obj_slab_Cell_store_Obj_okN J hv1) J J <| S2 2 J <| S3 4 J <| bnE h fun v2 hv2 h => y0 J (o_ixR (f := slab_Cell_store_Obj.Pv) hv2 J J J J Ty.e22 Ty.s141 J) <| y_stE (f := slab_Cell_store_Obj.Pv) (v := a2) hv2 J J (.inr J) Ty.s141 <| yN <| S4 2 J <| pw_ret ?_
 cases h
 exact ⟨J, [_], ⟨oL J J J Ty.a24 Ty.s24 nl J, tr⟩, J, io⟩

theorem handle_Pack_ok {a0 a1} : PO Tryz.prog 141 [.I a0, .I a1] (handle_Pack a0 a1) fun r => .I r := by
 refine pO Tryz.func141 fun r h _ _ => ?_
 refine S4 1 J <| pw_seq <| S3 3 J <| y_if J (fun hg => mI J) <| y_if J (fun hg => o_cmp (ct hg) J J) <| y0 J (pk_or J J J (fun q => eqF q)) <| S1 1 J <| y_if J (fun hg => mI J) <| y_if J (fun hg => o_cmp (ct hg) J J) <| y0 J (pk_or J J J (fun q => eqF q)) <| S1 1 J <| y_if J (fun hg => mI J) <| y_if J (fun hg => o_cmp (ct hg) J J) <| y0 J (pk_or J J J (fun q => eqF q)) <| yN ?_
 refine cN h (fun hc h => ?_) fun hc h => ?_
 ·refine S4 1 J ?_
  refine pw_ret ?_
  cases h
  exact f1
 ·refine pw_skip ?_
  refine S4 7 J <| pw_ret ?_
  cases h
  exact f1

theorem slab_Take_store_Obj_ok {a0 a1} : PO Tryz.prog 140 [slab_Slab_store_Obj.Pv a0, store_Obj.Pv a1] (slab_Take_store_Obj a0 a1) fun r => .tup [slab_Slab_store_Obj.Pv r.1, .I r.2.1, .I r.2.2] := by
 refine pO Tryz.func140 fun r h _ _ => ?_
 refine S4 5 J ?_
 refine jq h (fun _ => St.of [(2, .ptr 2005 0 0), (4, .ptr 2003 0 0), (5, .ptr 2002 0 0), (6, .ptr 2001 0 0)] [(2001, vR (.I 0) 1), (2002, vR (.I 0) 1), (2003, vR (.agg [.nl, .I 0]) 2), (2005, vR (slab_Slab_store_Obj.Pv a0) 2)]) (fun q10 h => ?_) fun κ9 h => ?_
 ·refine S4 4 J ?_
  refine pw_ret ?_
  cases h
  exact ⟨J, [_, _, _], ⟨oL J J J Ty.a24 Ty.s24 nl J, ⟨oS J J J Ty.a3 J, ⟨oS J J J Ty.a37 J, tr⟩⟩⟩, J, io⟩
 ·refine S3 1 J ?_
  refine cF h slab_free_store_Obj_ok J J fun v11 _ h => yN <| pw_block <| pw_wk (WPE (fun l => if l = 2006 then 6 else if l = 2007 then 5 else if l = 2008 then 4 else if l = 2009 then 3 else if l = 2010 then 2 else l) [(2, .ptr 2010 0 0), (3, .ptr 2009 0 0), (4, .ptr 2008 0 0), (5, .ptr 2007 0 0), (6, .ptr 2006 0 0), (10, .fn (.func 241) [.rptr (slab_Slab_store_Obj.Pc v11)])] [(2006, vR (.I 0) 1), (2007, vR (.I 0) 1), (2008, vR (.agg [.nl, .I 0]) 2), (2009, vR (store_Obj.Pv a1) 6), (2010, vR (slab_Slab_store_Obj.Pv a0) 2)]) ?_
  refine pw_range (fn := Tryz.f241) (N1 := 23) J Tryz.func241 J J nl J Ty.k241 J J (fun l19 e20 o21 hR22 => ?_)
  refine S3 2 J <| nL J Ty.e22 <| S2 1 J <| pw_block <| lq h (fun s13 => St.of [(1000002, .ptr 2010 0 0), (1000003, .ptr 2009 0 0), (1000004, .ptr 2008 0 0), (1000005, .ptr 2007 0 0), (1000006, .ptr 2006 0 0), (1000010, .fn (.func 241) [.rptr (slab_Slab_store_Obj.Pc v11)]), (0, .fn (.yield l19) []), (6, .L slab_Cell_store_Obj.Pv v11.Cells), (7, .I (v11.Cells.length : Int)), (8, .I s13)] [(2006, vR (.I 0) 1), (2007, vR (.I 0) 1), (2008, vR (.agg [.nl, .I 0]) 2), (2009, vR (store_Obj.Pv a1) 6), (2010, vR (slab_Slab_store_Obj.Pv a0) 2)]) W fun s13 x14 h hx25 => S4 1 J <| pw_seq ?_
  refine cN h (fun hc h => ?_) fun hc h => ?_
  ·refine pw_skip ?_
   refine pw_seq <| pw_block <| S3 1 J <| iL h J J Ty.e22 Ty.s141 fun v15 _ h => S2 4 J <| S3 4 J <| y_if J (fun hg => om (d := .fn (.yield l19) []) J) <| y_if J (fun hg => mI J) ?_
   rcases Bool.eq_false_or_eq_true ((v15.State == 0) == true) with hg27 | hg27
   ·have h := ifT h hg27
    refine y_wk (WE [(1000002, .ptr 2010 0 0), (1000003, .ptr 2009 0 0), (1000004, .ptr 2008 0 0), (1000005, .ptr 2007 0 0), (1000006, .ptr 2006 0 0), (1000010, .fn (.func 241) [.rptr (slab_Slab_store_Obj.Pc v11)]), (0, .fn (.yield l19) []), (6, .L slab_Cell_store_Obj.Pv v11.Cells), (7, .I (v11.Cells.length : Int)), (8, .I s13), (16, .bool (v15.State == 0)), (17, .fn (.yield l19) []), (18, .I s13)] [(2006, vR (.I 0) 1), (2007, vR (.I 0) 1), (2008, vR (.agg [.nl, .I 0]) 2), (2009, vR (store_Obj.Pv a1) 6), (2010, vR (slab_Slab_store_Obj.Pv a0) 2)]) ?_
    refine y_yield hR22 (congrArg some hg27) J J J J J (fun e28 o29 o30 => ?_)
    refine S6 1 J ?_
    refine ⟨J, ?_⟩
    refine pw_block <| S3 3 J <| iL h J J Ty.e22 Ty.s141 fun v16 _ h => S2 3 J <| S3 4 J <| y0 J (o_build (cs := [.I 1, .I v16.Gen, .I a1.Serial, .I a1.Strong, .I a1.Weak, .I a1.Prog, .bool a1.Started, .L iF a1.Fields]) J Ty.p141 Ty.z141 J J J) <| cF h slab_with_store_Obj_ok J J fun v17 _ h => S1 2 J <| cA h handle_Pack_ok J J fun v18 _ h => S2 3 J <| pw_ret ?_
    refine ⟨J, ?_⟩
    refine y_wk (WE [(1000002, .ptr 2010 0 0), (1000003, .ptr 2009 0 0), (1000004, .ptr 2008 0 0), (1000005, .ptr 2007 0 0), (1000006, .ptr 2006 0 0), (1000010, .fn (.func 241) [.rptr (slab_Slab_store_Obj.Pc v11)]), (0, .fn (.yield l19) []), (6, .L slab_Cell_store_Obj.Pv v11.Cells), (7, .I (v11.Cells.length : Int)), (8, .I s13), (16, .bool (v15.State == 0)), (19, .bool false)] [(2006, vR (.I 0) 1), (2007, vR (.I v18) 1), (2008, vR (slab_Slab_store_Obj.Pv v17) 2), (2009, vR (store_Obj.Pv a1) 6), (2010, vR (slab_Slab_store_Obj.Pv a0) 2)]) <| y0 (congrArg some hg27) (o_not J J) <| y0 J (pk_andT J J hg27) <| yN ?_
    refine pw_cond true J (fun _ => ?_) (fun q => nomatch q)
    refine pw_ret ?_
    refine .inr ⟨.ret, J, jmpR ?_⟩
    have h := xL hx25 h
    cases h
    exact ⟨J, [_, _, _], ⟨oL J J J Ty.a24 Ty.s24 nl J, ⟨oS J J J Ty.a3 J, ⟨oS J J J Ty.a37 J, tr⟩⟩⟩, J, io⟩
   ·have h := ifF h hg27
    refine y_skip (congrArg some hg27) <| y_skip (congrArg some hg27) <| y0 J (pk_andF J J hg27) <| yN ?_
    refine pw_cond false J (fun q => nomatch q) (fun _ => ?_)
    refine pw_skip <| S6 2 J ?_
    exact eL h W
  ·refine pw_exit ?_
   refine thenQ_exit <| thenQ_exit <| blockQ_exit ?_
   refine .inl ⟨J, ?_⟩
   have h := xL hx25 h
   exact eJ h (WP (fun l => if l = 2005 then 2010 else if l = 2003 then 2008 else if l = 2002 then 2007 else if l = 2001 then 2006 else l))

theorem store_Make_ok {a0 a1 a2} : PO Tryz.prog 59 [store_Store.Pv a0, .I a1, .I a2] (store_Make a0 a1 a2) fun r => .tup [store_Store.Pv r.1, .I r.2.1, .I r.2.2] := by
 refine pO Tryz.func59 fun r h _ _ => ?_
 refine S4 4 J <| S3 1 J <| cF h vec_New_ok J J fun v1 _ h => S2 5 J <| pw_seq <| S4 2 J ?_
 refine cN h (fun hc h => ?_) fun hc h => ?_
 ·refine S4 5 J ?_
  refine pw_ret ?_
  cases h
  exact ⟨J, [_, _, _], ⟨oL J J J Ty.a26 Ty.s26 nl J, ⟨J, ⟨J, tr⟩⟩⟩, J, io⟩
 ·refine pw_skip ?_
  refine pw_seq <| S3 1 J <| cA h store_programFits_ok J J fun v2 _ h => S2 1 J ?_
  refine cN h (fun hc h => ?_) fun hc h => ?_
  ·refine S4 4 J ?_
   refine pw_ret ?_
   cases h
   exact ⟨J, [_, _, _], ⟨oL J J J Ty.a26 Ty.s26 nl J, ⟨J, ⟨J, tr⟩⟩⟩, J, io⟩
  ·refine pw_skip ?_
   refine S3 7 J <| y0 J (o_build (cs := [.I (w64 (a0.Serial + 1)), .I 0, .I 0, .I a2, .bool false, .L iF v1.1]) J Ty.p91 Ty.z91 J J J) <| cF h slab_Take_store_Obj_ok J J fun v3 _ h => S2 8 J <| pw_seq <| S4 2 J ?_
   refine cN h (fun hc h => ?_) fun hc h => ?_
   ·refine S4 5 J ?_
    refine pw_ret ?_
    cases h
    exact ⟨J, [_, _, _], ⟨oL J J J Ty.a26 Ty.s26 nl J, ⟨J, ⟨J, tr⟩⟩⟩, J, io⟩
   ·refine pw_skip ?_
    refine S3 4 J <| y0 J (o_build (cs := [.L slab_Cell_store_Obj.Pv v3.1.Cells, .I v3.1.Last, .I (w64 (a0.Serial + 1))]) J Ty.p26 Ty.z26 J J J) <| S2 4 J <| pw_ret ?_
    cases h
    exact ⟨J, [_, _, _], ⟨oL J J J Ty.a26 Ty.s26 nl J, ⟨J, ⟨J, tr⟩⟩⟩, J, io⟩

theorem handle_parts_ok {a0} : PO Tryz.prog 261 [.I a0] (handle_parts a0) fun r => .tup [.I r.1, .I r.2.1, .bool r.2.2] := by
 refine pO Tryz.func261 fun r h _ _ => ?_
 refine S4 3 J <| pw_seq <| S4 2 J ?_
 refine cN h (fun hc h => ?_) fun hc h => ?_
 ·refine S4 3 J ?_
  refine pw_ret ?_
  cases h
  exact f3
 ·refine pw_skip ?_
  refine S3 2 J <| bnE h fun v1 hv1 h => y0 J (o_ari J J hv1) <| bnE h fun v2 hv2 h => y0 J (o_ari J J hv2) <| S1 2 J <| bnE h fun v3 hv3 h => y0 J (o_ari J J hv3) <| S2 2 J <| pw_seq <| S3 3 J <| y_if J (fun hg => mI J) <| y_if J (fun hg => o_cmp (ct hg) J J) <| y0 J (pk_or J J J (fun q => eqF q)) <| yN ?_
  refine cN h (fun hc h => ?_) fun hc h => ?_
  ·refine S4 3 J ?_
   refine pw_ret ?_
   cases h
   exact f3
  ·refine pw_skip ?_
   refine S4 5 J <| pw_ret ?_
   cases h
   exact f3

theorem handle_Slot_ok {a0} : PO Tryz.prog 221 [.I a0] (handle_Slot a0) fun r => .I r := by
 refine pO Tryz.func221 fun r h _ _ => ?_
 refine S4 1 J <| S3 1 J <| cA h handle_parts_ok J J fun v1 _ h => S2 7 J <| S4 2 J <| pw_ret ?_
 cases h
 exact f1

theorem handle_Gen_ok {a0} : PO Tryz.prog 222 [.I a0] (handle_Gen a0) fun r => .I r := by
 refine pO Tryz.func222 fun r h _ _ => ?_
 refine S4 1 J <| S3 1 J <| cA h handle_parts_ok J J fun v1 _ h => S2 7 J <| S4 2 J <| pw_ret ?_
 cases h
 exact f1

theorem slab_Find_store_Obj_ok {a0 a1} : PO Tryz.prog 164 [slab_Slab_store_Obj.Pv a0, .I a1] (slab_Find_store_Obj a0 a1) fun r => .tup [.I r.1, .I r.2] := by
 refine pO Tryz.func164 fun r h _ _ => ?_
 refine S4 3 J <| pw_seq <| S4 2 J ?_
 refine cN h (fun hc h => ?_) fun hc h => ?_
 ·refine S4 2 J ?_
  refine pw_ret ?_
  cases h
  exact f2
 ·refine pw_skip ?_
  refine S3 1 J <| cA h handle_Slot_ok J J fun v1 _ h => S2 1 J <| pw_seq <| S3 3 J <| y_if J (fun hg => mI J) <| y_if J (fun hg => oF J Ty.f24_0 J) <| y_if J (fun hg => oS (ct hg) J J Ty.a22 J) <| y_if J (fun hg => o_lnL (f := slab_Cell_store_Obj.Pv) (ct hg) Ty.e22) <| y_if J (fun hg => o_cmp (ct hg) (ct hg) J) <| y0 J (pk_or J J J (fun q => eqF q)) <| yN ?_
  refine cN h (fun hc h => ?_) fun hc h => ?_
  ·refine S4 2 J ?_
   refine pw_ret ?_
   cases h
   exact f2
  ·refine pw_skip ?_
   refine S3 3 J <| iL h J J Ty.e22 Ty.s141 fun v2 _ h => S2 3 J <| pw_seq <| dr [] Ty.mix (by kernel_rfl) (by kernel_rfl) <| S7 3 J <| bnE h fun v3 hv3 h => d2 J (o_cl J handle_Gen_ok J hv3) J <| S7 2 J <| d_if7 J (fun hg _ hN => oF J Ty.f141_0 J) J <| d_if0 J (fun hg => oS (ct hg) J J Ty.a3 J) J <| d_if7 J (fun hg _ hN => o_cmp (ct hg) J J) J <| d_if7 J (fun hg _ hN => om (d := .bool (v2.State != 1)) (ct hg)) J <| d_if7 (want2 J J J) (fun hg _ hN => oF J Ty.f141_0 J) J <| d_if0 (want2 J J J) (fun hg => oS (ct hg) J J Ty.a3 J) J <| d_if7 (want2 J J J) (fun hg _ hN => o_cmp (ct hg) J J) J <| d_if7 J (fun hg _ hN => pk_and (ct hg) J J (fun q => andI hg (eqT q))) J <| d7 J (fun _ hN => pk_or J J J (fun q => eqF q)) J <| d_nil ?_
   refine cN h (fun hc h => ?_) fun hc h => ?_
   ·refine S4 2 J ?_
    refine pw_ret ?_
    cases h
    exact f2
   ·refine pw_skip ?_
    refine S4 3 J <| pw_ret ?_
    cases h
    exact f2

theorem slab_Get_store_Obj_ok {a0 a1} : PO Tryz.prog 145 [slab_Slab_store_Obj.Pv a0, .I a1] (slab_Get_store_Obj a0 a1) fun r => .tup [store_Obj.Pv r.1, .I r.2] := by
 refine pO Tryz.func145 fun r h _ _ => ?_
 refine S4 3 J <| S4 1 J <| S3 2 J <| cA h slab_Find_store_Obj_ok J J fun v1 _ h => S2 5 J <| pw_seq <| S4 2 J ?_
 refine cN h (fun hc h => ?_) fun hc h => ?_
 ·refine S3 2 J ?_
  refine y_sto (x' := .agg [.I 0, .I 0, .I 0, .I 0, .bool false, .nl]) (cl' := true) J J (.inl J) Ty.s91 <| S2 1 J <| pw_ret ?_
  cases h
  exact ⟨J, [_, _], ⟨oL J J J Ty.a91 Ty.s91 nl J, ⟨J, tr⟩⟩, J, io⟩
 ·refine pw_skip ?_
  refine pw_seq <| S3 3 J <| iL h J J Ty.e22 Ty.s141 fun v2 hv2 h => S2 3 J ?_
  refine cN h (fun hc h => ?_) fun hc h => ?_
  ·refine S3 1 J ?_
   refine y_sto (x' := .agg [.I 0, .I 0, .I 0, .I 0, .bool false, .nl]) (cl' := true) J J (.inl J) Ty.s91 <| S2 1 J <| pw_ret ?_
   cases h
   exact ⟨J, [_, _], ⟨oL J J J Ty.a91 Ty.s91 nl J, ⟨J, tr⟩⟩, J, io⟩
  ·refine pw_skip ?_
   refine S3 3 J <| y0 J (o_ixL (f := slab_Cell_store_Obj.Pv) (cs := slab_Cell_store_Obj.Pc v2) hv2 J J Ty.e22 Ty.s141 J J) <| S2 4 J <| pw_ret ?_
   cases h
   exact ⟨J, [_, _], ⟨oL J J J Ty.a91 Ty.s91 nl J, ⟨J, tr⟩⟩, J, io⟩

theorem store_Get_ok {a0 a1} : PO Tryz.prog 61 [store_Store.Pv a0, .I a1] (store_Get a0 a1) fun r => .tup [store_Obj.Pv r.1, .I r.2] := by
 refine pO Tryz.func61 fun r h _ _ => ?_
 refine S4 3 J <| S3 3 J <| cF h slab_Get_store_Obj_ok J J fun v1 _ h => S2 4 J <| pw_ret ?_
 cases h
 exact ⟨J, [_, _], ⟨oL J J J Ty.a91 Ty.s91 nl J, ⟨J, tr⟩⟩, J, io⟩

theorem vec_has_ok {a0 a1} : PO Tryz.prog 218 [.L iF a0, .I a1] (vec_has a0 a1) fun r => .bool r := by
 refine pO Tryz.func218 fun r h _ _ => ?_
 unfold vec_has at h
 refine S4 1 J <| S3 3 J <| y_if J (fun hg => mI J) <| y_if J (fun hg => om (d := .L iF a0) J) <| y_if J (fun hg => o_lnL (f := iF) (ct hg) Ty.e27) <| y_if J (fun hg => o_cmp (ct hg) (ct hg) J) <| y0 J (pk_and J J J (fun q => eqT q)) <| S2 1 J <| pw_ret ?_
 cases h
 exact f1

theorem vec_At_ok {a0 a1} : PO Tryz.prog 156 [.L iF a0, .I a1] (vec_At a0 a1) fun r => .tup [.I r.1, .I r.2] := by
 refine pO Tryz.func156 fun r h _ _ => ?_
 refine S4 2 J <| pw_seq <| S3 2 J <| cA h vec_has_ok J J fun v1 _ h => S2 1 J ?_
 refine cN h (fun hc h => ?_) fun hc h => ?_
 ·refine S4 2 J ?_
  refine pw_ret ?_
  cases h
  exact f2
 ·refine pw_skip ?_
  refine S3 2 J <| iL h J J Ty.e27 Ty.s3 fun v2 _ h => S2 3 J <| pw_ret ?_
  cases h
  exact f2

theorem store_Field_ok {a0 a1 a2} : PO Tryz.prog 71 [store_Store.Pv a0, .I a1, .I a2] (store_Field a0 a1 a2) fun r => .tup [.I r.1, .I r.2] := by
 refine pO Tryz.func71 fun r h _ _ => ?_
 refine S4 3 J <| S3 2 J <| cF h store_Get_ok J J fun v1 _ h => S2 6 J <| pw_seq <| S4 2 J ?_
 refine cN h (fun hc h => ?_) fun hc h => ?_
 ·refine S4 3 J ?_
  refine pw_ret ?_
  cases h
  exact f2
 ·refine pw_skip ?_
  refine S3 3 J <| cA h vec_At_ok J J fun v2 _ h => S2 4 J <| pw_ret ?_
  cases h
  exact f2

theorem hold_isLive_ok {a0 a1} : PO Tryz.prog 154 [hold_Heap.Pv a0, .I a1] (hold_isLive a0 a1) fun r => .bool r := by
 refine pO Tryz.func154 fun r h _ _ => ?_
 refine S4 2 J <| S3 3 J <| cF h store_Get_ok J J fun v1 _ h => S2 6 J <| S4 3 J <| pw_ret ?_
 cases h
 exact f1

theorem hold_nameable_ok {a0 a1} : PO Tryz.prog 64 [hold_Heap.Pv a0, .I a1] (hold_nameable a0 a1) fun r => .bool r := by
 refine pO Tryz.func64 fun r h _ _ => ?_
 unfold hold_nameable at h
 refine S4 2 J <| S3 3 J <| y_if J (fun hg => oL J J J Ty.a34 Ty.s34 nl J) <| y_if J (fun hg => mI J) <| bnE h fun v1 hv1 h => y_if J (fun hg => o_cl J hold_isLive_ok (consE (ct hg) (consE (ct hg) J)) (onlyE hv1 hg)) <| y0 J (pk_or J J J (fun q => eqF q)) <| S2 1 J <| pw_ret ?_
 cases h
 exact f1

theorem count_tally_stuck_ok {a0} : PO Tryz.prog 231 [.I a0] (count_tally_stuck a0) fun r => .bool r := by
 refine pO Tryz.func231 fun r h _ _ => ?_
 unfold count_tally_stuck at h
 refine S4 1 J <| S4 3 J <| pw_ret ?_
 cases h
 exact f1

theorem count_tally_up_ok {a0} : PO Tryz.prog 175 [.I a0] (count_tally_up a0) fun r => .tup [.I r.1, .I r.2] := by
 refine pO Tryz.func175 fun r h _ _ => ?_
 refine S4 2 J <| pw_seq <| S3 1 J <| cA h count_tally_stuck_ok J J fun v1 _ h => yN ?_
 refine cN h (fun hc h => ?_) fun hc h => ?_
 ·refine S4 2 J ?_
  refine pw_ret ?_
  cases h
  exact f2
 ·refine pw_skip ?_
  refine S3 1 J <| y0 J (o_max J J J) <| S2 3 J <| pw_ret ?_
  cases h
  exact f2

theorem count_Inc_ok {a0} : PO Tryz.prog 93 [.I a0] (count_Inc a0) fun r => .I r := by
 refine pO Tryz.func93 fun r h _ _ => ?_
 refine S4 1 J <| S3 1 J <| cA h count_tally_up_ok J J fun v1 _ h => S2 5 J <| S4 2 J <| pw_ret ?_
 cases h
 exact f1

theorem slab_Set_store_Obj_ok {a0 a1 a2} : PO Tryz.prog 187 [slab_Slab_store_Obj.Pv a0, .I a1, store_Obj.Pv a2] (slab_Set_store_Obj a0 a1 a2) fun r => .tup [slab_Slab_store_Obj.Pv r.1, .I r.2] := by
 refine pO Tryz.func187 fun r h _ _ => ?_
 refine S4 4 J <| S3 2 J <| cA h slab_Find_store_Obj_ok J J fun v1 _ h => S2 5 J <| pw_seq <| S4 2 J ?_
 refine cN h (fun hc h => ?_) fun hc h => ?_
 ·refine S4 4 J ?_
  refine pw_ret ?_
  cases h
  exact ⟨J, [_, _], ⟨oL J J J Ty.a24 Ty.s24 nl J, ⟨J, tr⟩⟩, J, io⟩
 ·refine pw_skip ?_
  refine S3 3 J <| iL h J J Ty.e22 Ty.s141 fun v2 _ h => S2 3 J <| S4 3 J <| S3 3 J <| cF h slab_with_store_Obj_ok J J fun v3 _ h => S2 2 J <| pw_ret ?_
  cases h
  exact ⟨J, [_, _], ⟨oL J J J Ty.a24 Ty.s24 nl J, ⟨J, tr⟩⟩, J, io⟩

theorem store_Set_ok {a0 a1 a2} : PO Tryz.prog 113 [store_Store.Pv a0, .I a1, store_Obj.Pv a2] (store_Set a0 a1 a2) fun r => .tup [store_Store.Pv r.1, .I r.2] := by
 refine pO Tryz.func113 fun r h _ _ => ?_
 refine S4 4 J <| S4 1 J <| S3 4 J <| cF h slab_Set_store_Obj_ok J J fun v1 _ h => S2 6 J <| S4 4 J <| pw_ret ?_
 cases h
 exact ⟨J, [_, _], ⟨oL J J J Ty.a26 Ty.s26 nl J, ⟨J, tr⟩⟩, J, io⟩

theorem hold_counted__count_Inc_ok {a0 a1} : PO Tryz.prog 92 [hold_Heap.Pv a0, .I a1, .fn (.func 93) []] (hold_counted__count_Inc a0 a1) fun r => hold_Heap.Pv r := by
 refine pO Tryz.func92 fun r h _ _ => ?_
 refine S4 2 J <| S3 3 J <| cF h store_Get_ok J J fun v1 _ h => S2 6 J <| pw_seq <| S4 2 J ?_
 refine cN h (fun hc h => ?_) fun hc h => ?_
 ·refine S3 3 J ?_
  refine cA h count_Inc_ok J J fun v2 _ h => S2 2 J <| S5 4 J <| cF h store_Set_ok J J fun v3 _ h => S2 5 J <| S4 2 J <| pw_ret ?_
  cases h
  exact ⟨J, [_], ⟨oL J J J Ty.a34 Ty.s34 nl J, tr⟩, J, io⟩
 ·refine pw_skip ?_
  refine S4 2 J <| pw_ret ?_
  cases h
  exact ⟨J, [_], ⟨oL J J J Ty.a34 Ty.s34 nl J, tr⟩, J, io⟩

theorem hold_Retain_ok {a0 a1} : PO Tryz.prog 28 [hold_Heap.Pv a0, .I a1] (hold_Retain a0 a1) fun r => hold_Heap.Pv r := by
 refine pO Tryz.func28 fun r h _ _ => ?_
 refine S4 2 J <| S3 2 J <| cF h hold_counted__count_Inc_ok J J fun v1 _ h => S2 1 J <| pw_ret ?_
 cases h
 exact ⟨J, [_], ⟨oL J J J Ty.a34 Ty.s34 nl J, tr⟩, J, io⟩

theorem vec_With_ok {a0 a1 a2} : PO Tryz.prog 219 [.L iF a0, .I a1, .I a2] (vec_With a0 a1 a2) fun r => .tup [.L iF r.1, .I r.2] := by
 refine pO Tryz.func219 fun r h _ _ => ?_
 refine S4 2 J <| pw_seq <| S3 2 J <| cA h vec_has_ok J J fun v1 _ h => S2 1 J ?_
 refine cN h (fun hc h => ?_) fun hc h => ?_
 ·refine S4 3 J ?_
  refine pw_ret ?_
  cases h
  exact f2
 ·refine pw_skip ?_
  refine S3 1 J <| nL J Ty.e27 <| bnE h fun v2 hv2 h => y1 J (o_mk (f := iF) hv2 J J J Ty.e27 Ty.s3 Ty.z3 Ty.b3 J J J) J <| S2 1 J <| S3 2 J <| bnE h fun v3 hv3 h => y_cp (f := iF) hv3 J J J (.inl ⟨_, J, J⟩) Ty.e27 Ty.s3 (fun _ => J) (by decide) <| yN <| S3 3 J <| bnE h fun v4 hv4 h => y0 J (o_ixR (f := iF) hv4 J J J J Ty.e27 Ty.s3 J) <| y_stE (f := iF) (v := a2) hv4 J J (.inl J) Ty.s3 <| yN <| S4 3 J <| pw_ret ?_
  cases h
  exact f2

theorem store_Put_ok {a0 a1 a2 a3} : PO Tryz.prog 157 [store_Store.Pv a0, .I a1, .I a2, .I a3] (store_Put a0 a1 a2 a3) fun r => .tup [store_Store.Pv r.1, .I r.2] := by
 refine pO Tryz.func157 fun r h _ _ => ?_
 refine S4 3 J <| S3 2 J <| cF h store_Get_ok J J fun v1 _ h => S2 6 J <| pw_seq <| S4 2 J ?_
 refine cN h (fun hc h => ?_) fun hc h => ?_
 ·refine S4 4 J ?_
  refine pw_ret ?_
  cases h
  exact ⟨J, [_, _], ⟨oL J J J Ty.a26 Ty.s26 nl J, ⟨J, tr⟩⟩, J, io⟩
 ·refine pw_skip ?_
  refine pw_seq <| S3 4 J <| cF h vec_With_ok J J fun v2 _ h => S2 6 J <| S4 2 J ?_
  refine cN h (fun hc h => ?_) fun hc h => ?_
  ·refine S4 4 J ?_
   refine pw_ret ?_
   cases h
   exact ⟨J, [_, _], ⟨oL J J J Ty.a26 Ty.s26 nl J, ⟨J, tr⟩⟩, J, io⟩
  ·refine pw_skip ?_
   refine S3 3 J <| cF h store_Set_ok J J fun v3 _ h => S2 4 J <| pw_ret ?_
   cases h
   exact ⟨J, [_, _], ⟨oL J J J Ty.a26 Ty.s26 nl J, ⟨J, tr⟩⟩, J, io⟩

theorem hold_fieldPlace_say_ok {a0 a1} : PO Tryz.prog 72 [hold_fieldPlace.Pv a0, hold_Heap.Pv a1] (hold_fieldPlace_say a0 a1) fun r => hold_Heap.Pv r := by
 refine pO Tryz.func72 fun r h _ _ => ?_
 refine S4 3 J <| S3 8 J <| cF h store_Put_ok J J fun v1 _ h => S2 5 J <| S4 2 J <| pw_ret ?_
 cases h
 exact ⟨J, [_], ⟨oL J J J Ty.a34 Ty.s34 nl J, tr⟩, J, io⟩

theorem count_tally_down_ok {a0} : PO Tryz.prog 176 [.I a0] (count_tally_down a0) fun r => .tup [.I r.1, .I r.2] := by
 refine pO Tryz.func176 fun r h _ _ => ?_
 refine S4 2 J <| pw_seq <| S3 1 J <| cA h count_tally_stuck_ok J J fun v1 _ h => yN ?_
 refine cN h (fun hc h => ?_) fun hc h => ?_
 ·refine S4 2 J ?_
  refine pw_ret ?_
  cases h
  exact f2
 ·refine pw_skip ?_
  refine pw_seq <| S4 2 J ?_
  refine cN h (fun hc h => ?_) fun hc h => ?_
  ·refine S4 2 J ?_
   refine pw_ret ?_
   cases h
   exact f2
  ·refine pw_skip ?_
   refine S4 4 J <| pw_ret ?_
   cases h
   exact f2

theorem count_Dec_ok {a0} : PO Tryz.prog 95 [.I a0] (count_Dec a0) fun r => .tup [.I r.1, .I r.2] := by
 refine pO Tryz.func95 fun r h _ _ => ?_
 refine S4 2 J <| S3 1 J <| cA h count_tally_down_ok J J fun v1 _ h => S2 5 J <| S4 4 J <| pw_ret ?_
 cases h
 exact f2

theorem hold_Release_1_ok {a0} : PO Tryz.prog 94 [.I a0] (hold_Release_1 a0) fun r => .I r := by
 refine pO Tryz.func94 fun r h _ _ => ?_
 refine S4 1 J <| S3 1 J <| cA h count_Dec_ok J J fun v1 _ h => S2 5 J <| pw_seq <| S4 2 J ?_
 refine cN h (fun hc h => ?_) fun hc h => ?_
 ·refine S4 2 J ?_
  refine pw_ret ?_
  cases h
  exact f1
 ·refine pw_skip ?_
  refine S4 2 J <| pw_ret ?_
  cases h
  exact f1

theorem hold_counted__hold_Release_1_ok {a0 a1} : PO Tryz.prog 92 [hold_Heap.Pv a0, .I a1, .fn (.func 94) []] (hold_counted__hold_Release_1 a0 a1) fun r => hold_Heap.Pv r := by
 refine pO Tryz.func92 fun r h _ _ => ?_
 refine S4 2 J <| S3 3 J <| cF h store_Get_ok J J fun v1 _ h => S2 6 J <| pw_seq <| S4 2 J ?_
 refine cN h (fun hc h => ?_) fun hc h => ?_
 ·refine S3 3 J ?_
  refine cA h hold_Release_1_ok J J fun v2 _ h => S2 2 J <| S5 4 J <| cF h store_Set_ok J J fun v3 _ h => S2 5 J <| S4 2 J <| pw_ret ?_
  cases h
  exact ⟨J, [_], ⟨oL J J J Ty.a34 Ty.s34 nl J, tr⟩, J, io⟩
 ·refine pw_skip ?_
  refine S4 2 J <| pw_ret ?_
  cases h
  exact ⟨J, [_], ⟨oL J J J Ty.a34 Ty.s34 nl J, tr⟩, J, io⟩

theorem hold_Release_ok {a0 a1} : PO Tryz.prog 29 [hold_Heap.Pv a0, .I a1] (hold_Release a0 a1) fun r => hold_Heap.Pv r := by
 refine pO Tryz.func29 fun r h _ _ => ?_
 refine S4 2 J <| S3 2 J <| cF h hold_counted__hold_Release_1_ok J J fun v1 _ h => S2 1 J <| pw_ret ?_
 cases h
 exact ⟨J, [_], ⟨oL J J J Ty.a34 Ty.s34 nl J, tr⟩, J, io⟩

theorem hold_turned__hold_fieldPlace_say_ok {a0 a1 a2 a3} : PO Tryz.prog 65 [hold_Heap.Pv a0, .I a1, .I a2, .abs (BFn 72 [hold_fieldPlace.Pv a3])] (hold_turned__hold_fieldPlace_say a0 a1 a2 a3) fun r => hold_Heap.Pv r := by
 refine pO Tryz.func65 fun r h _ _ => ?_
 refine S4 2 J <| S3 3 J <| cF h hold_Retain_ok J J fun v1 _ h => bnE h fun v2 hv2 h => y_callB (xs := [hold_Heap.Pv v1]) J J Ty.k72 J (hold_fieldPlace_say_ok.2 _ hv2) <| S1 1 J <| cF h hold_Release_ok J J fun v3 _ h => S2 1 J <| pw_ret ?_
 cases h
 exact ⟨J, [_], ⟨oL J J J Ty.a34 Ty.s34 nl J, tr⟩, J, io⟩

theorem hold_Field_ok {a0 a1 a2 a3} : PO Tryz.prog 20 [hold_Heap.Pv a0, .I a1, .I a2, .I a3] (hold_Field a0 a1 a2 a3) fun r => .tup [hold_Heap.Pv r.1, .I r.2] := by
 refine pO Tryz.func20 fun r h _ _ => ?_
 refine S4 3 J <| S3 4 J <| cA h store_Field_ok J J fun v1 _ h => S2 5 J <| pw_seq <| S4 2 J ?_
 refine cN h (fun hc h => ?_) fun hc h => ?_
 ·refine S4 4 J ?_
  refine pw_ret ?_
  cases h
  exact ⟨J, [_, _], ⟨oL J J J Ty.a34 Ty.s34 nl J, ⟨J, tr⟩⟩, J, io⟩
 ·refine pw_skip ?_
  refine pw_seq <| S3 2 J <| cA h hold_nameable_ok J J fun v2 _ h => S2 1 J ?_
  refine cN h (fun hc h => ?_) fun hc h => ?_
  ·refine S4 3 J ?_
   refine pw_ret ?_
   cases h
   exact ⟨J, [_, _], ⟨oL J J J Ty.a34 Ty.s34 nl J, ⟨J, tr⟩⟩, J, io⟩
  ·refine pw_skip ?_
   refine S3 6 J <| y0 J (o_build (cs := [.I a1, .I a2, .I a3]) J Ty.p103 Ty.z103 J J J) <| y0 J (o_mkFuncB (d := .agg [.I a1, .I a2, .I a3]) J) <| cF h hold_turned__hold_fieldPlace_say_ok J J fun v3 _ h => S2 2 J <| pw_ret ?_
   cases h
   exact ⟨J, [_, _], ⟨oL J J J Ty.a34 Ty.s34 nl J, ⟨J, tr⟩⟩, J, io⟩

theorem task_of_ok {a0 a1} : PO Tryz.prog 161 [queue_Queue_task_Task.Pv a0, .I a1] (task_of a0 a1) fun r => .fn (.func 220) [.rptr (queue_Queue_task_Task.Pc r.1), .rptr [.I r.2]] := by
 refine pO Tryz.func161 fun r h _ _ => ?_
 unfold task_of at h
 refine S4 3 J <| S4 2 J <| pw_ret ?_
 cases h
 exact f1

theorem task_Waits_ok {a0 a1} : PO Tryz.prog 80 [queue_Queue_task_Task.Pv a0, .I a1] (task_Waits a0 a1) fun r => .bool r := by
 refine pO Tryz.func80 fun r h _ _ => ?_
 refine S4 3 J ?_
 refine jq h (fun _ => St.of [(4, .ptr 2001 0 0)] [(2001, vR (.bool false) 1)]) (fun q7 h => ?_) fun κ6 h => ?_
 ·refine S4 1 J ?_
  refine pw_ret ?_
  cases h
  exact ⟨J, [_], ⟨oS J J J Ty.a4 J, tr⟩, J, io⟩
 ·refine S3 1 J ?_
  refine cF h task_of_ok J J fun v8 _ h => yN <| pw_block <| pw_wk (WPE (fun l => if l = 2003 then 4 else if l = 2004 then 3 else l) [(3, .ptr 2004 0 0), (4, .ptr 2003 0 0), (7, .fn (.func 220) [.rptr (queue_Queue_task_Task.Pc v8.1), .rptr [.I v8.2]])] [(2003, vR (.bool false) 1), (2004, vR (.I a1) 1)]) ?_
  refine pw_range (fn := Tryz.f220) (N1 := 24) J Tryz.func220 J J nl J Ty.k220 J J (fun l16 e17 o18 hR19 => ?_)
  refine S3 2 J <| nL J Ty.e30 <| S2 1 J <| pw_block <| lq h (fun s10 => St.of [(1000003, .ptr 2004 0 0), (1000004, .ptr 2003 0 0), (1000007, .fn (.func 220) [.rptr (queue_Queue_task_Task.Pc v8.1), .rptr [.I v8.2]]), (0, .fn (.yield l16) []), (2, .rptr [.I v8.2]), (7, .L task_Task.Pv v8.1.L), (8, .I (v8.1.L.length : Int)), (9, .I s10)] [(2003, vR (.bool false) 1), (2004, vR (.I a1) 1)]) W fun s10 x11 h hx22 => S4 1 J <| pw_seq ?_
  refine cN h (fun hc h => ?_) fun hc h => ?_
  ·refine pw_skip ?_
   refine pw_seq <| pw_block <| sR <| iL h J J Ty.e30 Ty.s82 fun v12 _ h => S2 3 J <| S3 5 J <| y_if J (fun hg => om (d := .fn (.yield l16) []) J) <| y_if J (fun hg => oL J J J Ty.a82 Ty.s82 nl J) ?_
   rcases Bool.eq_false_or_eq_true ((v12.Kind == v8.2) == true) with hg24 | hg24
   ·have h := ifT h hg24
    refine y_wk (WE [(1000003, .ptr 2004 0 0), (1000004, .ptr 2003 0 0), (1000007, .fn (.func 220) [.rptr (queue_Queue_task_Task.Pc v8.1), .rptr [.I v8.2]]), (0, .fn (.yield l16) []), (2, .rptr [.I v8.2]), (7, .L task_Task.Pv v8.1.L), (8, .I (v8.1.L.length : Int)), (9, .I s10), (17, .bool (v12.Kind == v8.2)), (18, .fn (.yield l16) []), (19, task_Task.Pv v12)] [(2003, vR (.bool false) 1), (2004, vR (.I a1) 1)]) ?_
    refine y_yield hR19 (congrArg some hg24) J J J J J (fun e25 o26 o27 => ?_)
    refine S6 2 J ?_
    refine ⟨J, ?_⟩
    refine pw_block <| S4 4 J ?_
    refine cN h (fun hc h => ?_) fun hc h => ?_
    ·refine S4 1 J ?_
     refine pw_ret ?_
     refine ⟨J, ?_⟩
     refine y_wk (WE [(1000003, .ptr 2004 0 0), (1000004, .ptr 2003 0 0), (1000007, .fn (.func 220) [.rptr (queue_Queue_task_Task.Pc v8.1), .rptr [.I v8.2]]), (0, .fn (.yield l16) []), (2, .rptr [.I v8.2]), (7, .L task_Task.Pv v8.1.L), (8, .I (v8.1.L.length : Int)), (9, .I s10), (17, .bool (v12.Kind == v8.2)), (20, .bool false)] [(2003, vR (.bool true) 1), (2004, vR (.I a1) 1)]) <| y0 (congrArg some hg24) (o_not J J) <| y0 J (pk_andT J J hg24) <| yN ?_
     refine pw_cond true J (fun _ => ?_) (fun q => nomatch q)
     refine pw_ret ?_
     refine .inr ⟨.ret, J, jmpR ?_⟩
     have h := xL hx22 h
     cases h
     exact ⟨J, [_], ⟨oS J J J Ty.a4 J, tr⟩, J, io⟩
    ·refine pw_skip ?_
     refine ⟨J, ?_⟩
     refine y_wk (WE [(1000003, .ptr 2004 0 0), (1000004, .ptr 2003 0 0), (1000007, .fn (.func 220) [.rptr (queue_Queue_task_Task.Pc v8.1), .rptr [.I v8.2]]), (0, .fn (.yield l16) []), (2, .rptr [.I v8.2]), (7, .L task_Task.Pv v8.1.L), (8, .I (v8.1.L.length : Int)), (9, .I s10), (17, .bool (v12.Kind == v8.2)), (20, .bool true)] [(2003, vR (.bool false) 1), (2004, vR (.I a1) 1)]) <| y0 (congrArg some hg24) (o_not J J) <| y0 J (pk_andT J J hg24) <| yN ?_
     refine pw_cond false J (fun q => nomatch q) (fun _ => ?_)
     refine pw_skip <| S6 2 J ?_
     exact eL h W
   ·have h := ifF h hg24
    refine y_skip (congrArg some hg24) <| y_skip (congrArg some hg24) <| y0 J (pk_andF J J hg24) <| yN ?_
    refine pw_cond false J (fun q => nomatch q) (fun _ => ?_)
    refine pw_skip <| S6 2 J ?_
    exact eL h W
  ·refine pw_exit ?_
   refine thenQ_exit <| thenQ_exit <| blockQ_exit ?_
   refine .inl ⟨J, ?_⟩
   have h := xL hx22 h
   exact eJ h (WP (fun l => if l = 2001 then 2003 else l))

theorem weak_has_ok {a0 a1} : PO Tryz.prog 162 [.L weak_Cell.Pv a0, .I a1] (weak_has a0 a1) fun r => .bool r := by
 refine pO Tryz.func162 fun r h _ _ => ?_
 unfold weak_has at h
 refine S4 1 J <| S3 3 J <| y_if J (fun hg => mI J) <| y_if J (fun hg => om (d := .L weak_Cell.Pv a0) J) <| y_if J (fun hg => o_lnL (f := weak_Cell.Pv) (ct hg) Ty.e28) <| y_if J (fun hg => o_cmp (ct hg) (ct hg) J) <| y0 J (pk_and J J J (fun q => eqT q)) <| S2 1 J <| pw_ret ?_
 cases h
 exact f1

theorem weak_copied_okN {a0} : PON Tryz.prog 163 [.L weak_Cell.Pv a0] (weak_copied a0) fun r => ⟨List.map weak_Cell.Pv r, 0, true, 3, true⟩ := by
 refine pON Tryz.func163 fun r h _ _ => ?_
 unfold weak_copied at h
 refine S4 1 J <| S3 1 J <| nL J Ty.e28 <| bnE h fun v1 hv1 h => y1 J (o_mk (f := weak_Cell.Pv) hv1 J J J Ty.e28 Ty.s84 Ty.z84 Ty.b84 J J J) J <| S2 1 J <| S3 2 J <| bnE h fun v2 hv2 h => y_cp (f := weak_Cell.Pv) hv2 J J J (.inl ⟨_, J, J⟩) Ty.e28 Ty.s84 (fun _ => J) (by decide) <| yN <| S4 2 J <| pw_ret ?_
 cases h
 exact ⟨J, _, _, J, J, J, J⟩

theorem weak_Set_ok {a0 a1 a2 a3} : PO Tryz.prog 81 [.L weak_Cell.Pv a0, .I a1, .I a2, .I a3] (weak_Set a0 a1 a2 a3) fun r => .tup [.L weak_Cell.Pv r.1, .I r.2.1, .I r.2.2] := by
 refine pO Tryz.func81 fun r h _ _ => ?_
 refine S4 3 J <| pw_seq <| S3 2 J <| cA h weak_has_ok J J fun v1 _ h => S2 1 J ?_
 refine cN h (fun hc h => ?_) fun hc h => ?_
 ·refine S4 4 J ?_
  refine pw_ret ?_
  cases h
  exact f3
 ·refine pw_skip ?_
  refine S3 1 J <| bnE h fun v2 hv2 h => ycN J (o_clN J weak_copied_okN J hv2) J J <| S2 1 J <| S3 6 J <| y0 J (o_build (cs := [.I a2, .bool (a2 != 0), .I a3]) J Ty.p84 Ty.z84 J J J) <| bnE h fun v3 hv3 h => y0 J (o_ixR (f := weak_Cell.Pv) hv3 J J J J Ty.e28 Ty.s84 J) <| y_stE (f := weak_Cell.Pv) (v := (⟨a2, (a2 != 0), a3⟩ : weak_Cell)) hv3 J J (.inl J) Ty.s84 <| yN <| dr [] Ty.mix (by kernel_rfl) (by kernel_rfl) <| S7 3 J <| bnE h fun v4 hv4 h => d0 J (o_ixL (f := weak_Cell.Pv) (cs := weak_Cell.Pc v4) hv4 J J Ty.e28 Ty.s84 J J) J <| S8 5 J <| pw_ret ?_
  cases h
  exact f3

theorem hold_marked_ok {a0 a1 a2} : PO Tryz.prog 83 [hold_Heap.Pv a0, .I a1, .I a2] (hold_marked a0 a1 a2) fun r => hold_Heap.Pv r := by
 refine pO Tryz.func83 fun r h _ _ => ?_
 refine S4 2 J <| S3 4 J <| cA h slab_Find_store_Obj_ok J J fun v1 _ h => S2 5 J <| pw_seq <| S4 2 J ?_
 refine cN h (fun hc h => ?_) fun hc h => ?_
 ·refine S3 5 J ?_
  refine iL h J J Ty.e22 Ty.s141 fun v2 _ h => S2 4 J <| S4 6 J <| S5 4 J <| cF h store_Set_ok J J fun v3 _ h => S2 5 J <| S4 2 J <| pw_ret ?_
  cases h
  exact ⟨J, [_], ⟨oL J J J Ty.a34 Ty.s34 nl J, tr⟩, J, io⟩
 ·refine pw_skip ?_
  refine S4 2 J <| pw_ret ?_
  cases h
  exact ⟨J, [_], ⟨oL J J J Ty.a34 Ty.s34 nl J, tr⟩, J, io⟩

theorem slab_Give_store_Obj_ok {a0 a1} : PO Tryz.prog 165 [slab_Slab_store_Obj.Pv a0, .I a1] (slab_Give_store_Obj a0 a1) fun r => .tup [slab_Slab_store_Obj.Pv r.1, .I r.2] := by
 refine pO Tryz.func165 fun r h _ _ => ?_
 refine S4 3 J <| S3 2 J <| cA h slab_Find_store_Obj_ok J J fun v1 _ h => S2 5 J <| pw_seq <| S4 2 J ?_
 refine cN h (fun hc h => ?_) fun hc h => ?_
 ·refine S4 4 J ?_
  refine pw_ret ?_
  cases h
  exact ⟨J, [_, _], ⟨oL J J J Ty.a24 Ty.s24 nl J, ⟨J, tr⟩⟩, J, io⟩
 ·refine pw_skip ?_
  refine S3 3 J <| iL h J J Ty.e22 Ty.s141 fun v2 _ h => S2 3 J <| pw_seq <| S4 4 J ?_
  refine cN h (fun hc h => ?_) fun hc h => ?_
  ·refine S3 3 J ?_
   refine y0 J (o_build (cs := [.I 3, .I v2.Gen, .I 0, .I 0, .I 0, .I 0, .bool false, .nl]) J Ty.p141 Ty.z141 J J J) <| cF h slab_with_store_Obj_ok J J fun v3 _ h => S2 2 J <| pw_ret ?_
   cases h
   exact ⟨J, [_, _], ⟨oL J J J Ty.a24 Ty.s24 nl J, ⟨J, tr⟩⟩, J, io⟩
  ·refine pw_skip ?_
   refine S3 4 J <| y0 J (o_build (cs := [.I 0, .I (w64 (v2.Gen + 1)), .I 0, .I 0, .I 0, .I 0, .bool false, .nl]) J Ty.p141 Ty.z141 J J J) <| cF h slab_with_store_Obj_ok J J fun v4 _ h => S2 2 J <| pw_ret ?_
   cases h
   exact ⟨J, [_, _], ⟨oL J J J Ty.a24 Ty.s24 nl J, ⟨J, tr⟩⟩, J, io⟩

theorem hold_unmarked_ok {a0 a1} : PO Tryz.prog 82 [hold_Heap.Pv a0, .I a1] (hold_unmarked a0 a1) fun r => hold_Heap.Pv r := by
 refine pO Tryz.func82 fun r h _ _ => ?_
 refine S4 2 J <| S3 2 J <| cF h hold_marked_ok J J fun v1 _ h => S2 1 J <| S3 4 J <| cA h slab_Find_store_Obj_ok J J fun v2 _ h => S2 5 J <| pw_seq <| S4 2 J ?_
 refine cN h (fun hc h => ?_) fun hc h => ?_
 ·refine S4 2 J ?_
  refine pw_ret ?_
  cases h
  exact ⟨J, [_], ⟨oL J J J Ty.a34 Ty.s34 nl J, tr⟩, J, io⟩
 ·refine pw_skip ?_
  refine pw_seq <| S3 5 J <| iL h J J Ty.e22 Ty.s141 fun v3 _ h => S2 3 J <| S3 4 J <| y_if J (fun hg => oF J Ty.f141_2 J) <| y_if J (fun hg => oF (ct hg) Ty.f91_2 J) <| y_if J (fun hg => oS (ct hg) J J Ty.a3 J) <| y_if J (fun hg => o_cmp (ct hg) J J) <| y0 J (pk_and J J J (fun q => eqT q)) <| yN ?_
  refine cN h (fun hc h => ?_) fun hc h => ?_
  ·refine S5 4 J ?_
   refine cF h slab_Give_store_Obj_ok J J fun v4 _ h => S2 6 J <| S4 2 J <| pw_ret ?_
   cases h
   exact ⟨J, [_], ⟨oL J J J Ty.a34 Ty.s34 nl J, tr⟩, J, io⟩
  ·refine pw_skip ?_
   refine S4 2 J <| pw_ret ?_
   cases h
   exact ⟨J, [_], ⟨oL J J J Ty.a34 Ty.s34 nl J, tr⟩, J, io⟩

theorem hold_Weak_ok {a0 a1 a2 a3} : PO Tryz.prog 24 [hold_Heap.Pv a0, .I a1, .I a2, .I a3] (hold_Weak a0 a1 a2 a3) fun r => .tup [hold_Heap.Pv r.1, .I r.2] := by
 refine pO Tryz.func24 fun r h _ _ => ?_
 unfold hold_Weak at h
 refine S4 3 J <| pw_seq <| S3 3 J <| y_if J (fun hg => mI J) <| y_if J (fun hg => oF J Ty.f34_2 J) <| y_if J (fun hg => oS (ct hg) J J Ty.a28 J) <| y_if J (fun hg => o_lnL (f := weak_Cell.Pv) (ct hg) Ty.e28) <| y_if J (fun hg => o_cmp (ct hg) (ct hg) J) <| y0 J (pk_or J J J (fun q => eqF q)) <| S1 1 J <| y_if J (fun hg => oF J Ty.f34_4 J) <| y_if J (fun hg => oL (ct hg) J J Ty.a32 Ty.s32 nl J) <| y_if J (fun hg => mI J) <| bnE h fun v1 hv1 h => y_if J (fun hg => o_cl J task_Waits_ok (consE (ct hg) (consE (ct hg) J)) (onlyE hv1 hg)) <| y0 J (pk_or J J J (fun q => eqF q)) <| yN ?_
 refine cN h (fun hc h => ?_) fun hc h => ?_
 ·refine S4 3 J ?_
  refine pw_ret ?_
  cases h
  exact ⟨J, [_, _], ⟨oL J J J Ty.a34 Ty.s34 nl J, ⟨J, tr⟩⟩, J, io⟩
 ·refine pw_skip ?_
  refine pw_seq <| S3 2 J <| cA h hold_nameable_ok J J fun v2 _ h => S2 1 J ?_
  refine cN h (fun hc h => ?_) fun hc h => ?_
  ·refine S4 3 J ?_
   refine pw_ret ?_
   cases h
   exact ⟨J, [_, _], ⟨oL J J J Ty.a34 Ty.s34 nl J, ⟨J, tr⟩⟩, J, io⟩
  ·refine pw_skip ?_
   refine S3 5 J <| cF h weak_Set_ok J J fun v3 _ h => S2 7 J <| S4 3 J <| S3 2 J <| cF h hold_marked_ok J J fun v4 _ h => S1 1 J <| cF h hold_unmarked_ok J J fun v5 _ h => S2 2 J <| pw_ret ?_
   cases h
   exact ⟨J, [_, _], ⟨oL J J J Ty.a34 Ty.s34 nl J, ⟨J, tr⟩⟩, J, io⟩

theorem cmp_isNaN_int_ok {a0} : PO Tryz.prog 199 [.I a0] (cmp_isNaN_int a0) fun r => .bool r := by
 refine pO Tryz.func199 fun r h _ _ => ?_
 unfold cmp_isNaN_int at h
 refine S4 1 J <| S4 4 J <| pw_ret ?_
 cases h
 exact f1

theorem cmp_Compare_int_ok {a0 a1} : PO Tryz.prog 144 [.I a0, .I a1] (cmp_Compare_int a0 a1) fun r => .I r := by
 refine pO Tryz.func144 fun r h _ _ => ?_
 refine S4 1 J <| S3 1 J <| cA h cmp_isNaN_int_ok J J fun v1 _ h => S2 1 J <| S3 1 J <| cA h cmp_isNaN_int_ok J J fun v2 _ h => S2 1 J <| pw_seq <| S4 1 J ?_
 refine cN h (fun hc h => ?_) fun hc h => ?_
 ·refine pw_seq ?_
  refine S4 1 J ?_
  refine cN h (fun hc h => ?_) fun hc h => ?_
  ·refine S4 1 J ?_
   refine pw_ret ?_
   cases h
   exact f1
  ·refine pw_skip ?_
   refine S4 1 J <| pw_ret ?_
   cases h
   exact f1
 ·refine pw_skip ?_
  refine pw_seq <| S4 1 J ?_
  refine cN h (fun hc h => ?_) fun hc h => ?_
  ·refine S4 1 J ?_
   refine pw_ret ?_
   cases h
   exact f1
  ·refine pw_skip ?_
   refine pw_seq <| S4 3 J ?_
   refine cN h (fun hc h => ?_) fun hc h => ?_
   ·refine S4 1 J ?_
    refine pw_ret ?_
    cases h
    exact f1
   ·refine pw_skip ?_
    refine pw_seq <| S4 3 J ?_
    refine cN h (fun hc h => ?_) fun hc h => ?_
    ·refine S4 1 J ?_
     refine pw_ret ?_
     cases h
     exact f1
    ·refine pw_skip ?_
     refine S4 1 J <| pw_ret ?_
     cases h
     exact f1

theorem store_Live_1_ok {a0 a1 a2} : PO Tryz.prog 143 [.I a0, .I a1, .rptr [.abs (ImMap (List.map (ent iF iF) a2))]] (store_Live_1 a0 a1 a2) fun r => .I r := by
 refine pO Tryz.func143 fun r h _ _ => ?_
 refine S4 1 J <| S3 2 J <| y0 J (o_lkI (es := a2) (k := a0) (E := iF) (EK := iF) (d := .I ((mget a2 a0).getD (0 : Int))) J J Ty.mm175 (keyT_int Ty.u3) Ty.z3 J (lk1 _ _ _)) <| S1 2 J <| y0 J (o_lkI (es := a2) (k := a1) (E := iF) (EK := iF) (d := .I ((mget a2 a1).getD (0 : Int))) J J Ty.mm175 (keyT_int Ty.u3) Ty.z3 J (lk1 _ _ _)) <| cA h cmp_Compare_int_ok J J fun v1 _ h => S2 1 J <| pw_ret ?_
 cases h
 exact f1

theorem store_Live_ok {a0} : PO Tryz.prog 60 [store_Store.Pv a0] (store_Live a0) fun r => .L iF r := by
 refine pO Tryz.func60 fun r h _ _ => ?_
 refine S4 2 J <| S4 1 J <| sR <| y_mkM (KT := Int) (VT := Int) (EK := iF) (E := iF) 5000008 J J <| S2 2 J ?_
 refine jq h (fun q => St.of [(3, .sl 910003), (4, .ptr 4 0 0)] [(4, vS (.mp 5000008) 1), (5000008, ⟨[.mapc (List.map (ent iF iF) q.1)], 0, false, 0, false⟩), (910003, ⟨List.map iF q.2, 0, true, 1, true⟩)]) (fun q20 h => ?_) fun κ17 h => ?_
 ·obtain ⟨j18, j19⟩ := q20
  refine S3 2 J <| y_wk (Wk.trans (wk_mfz0 5000008 nl J) (wk_mvC 4 0 5000008 J J J J)) <| bnE h fun v21 hv12 h => y_sort hv12 J J Ty.k142 sortAt J J J Ty.k143 J J J J J (fun p q r h => store_Live_1_ok.2 r h) <| yN <| S4 2 J <| pw_ret ?_
  cases h
  exact f1
 ·refine S3 3 J ?_
  refine nL J Ty.e22 <| S2 1 J <| pw_block <| lq h (fun q => St.of [(3, .sl 910003), (4, .ptr 4 0 0), (11, .L slab_Cell_store_Obj.Pv a0.S.Cells), (12, .I (a0.S.Cells.length : Int)), (13, .I q.1)] [(4, vS (.mp 5000008) 1), (5000008, ⟨[.mapc (List.map (ent iF iF) q.2.1)], 0, false, 0, false⟩), (910003, ⟨List.map iF q.2.2, 0, true, 1, true⟩)]) (Wk.trans (wk_nil (t := 3) (l := 920003) (z := 1) J J) (WP (fun l => if l = 910003 then 920003 else l))) fun q27 x26 h hx15 => ?_
  obtain ⟨s23, s24, s25⟩ := q27
  refine S4 1 J <| pw_seq ?_
  refine cN h (fun hc h => ?_) fun hc h => ?_
  ·refine pw_skip ?_
   refine jq h (fun q => St.of [(3, .sl 33), (4, .ptr 4 0 0), (11, .L slab_Cell_store_Obj.Pv a0.S.Cells), (12, .I (a0.S.Cells.length : Int)), (13, .I s23)] [(4, vS (.mp 5000008) 1), (5000008, ⟨[.mapc (List.map (ent iF iF) q.1)], 0, false, 0, false⟩), (33, ⟨List.map iF q.2, 0, true, 1, true⟩)]) (fun q34 h => ?_) fun κ31 h => ?_
   ·obtain ⟨j32, j33⟩ := q34
    refine S6 2 J ?_
    exact eL h (WP (fun l => if l = 910003 then 33 else l))
   ·refine pw_block ?_
    refine S3 1 J <| iL h J J Ty.e22 Ty.s141 fun v35 _ h => S2 4 J <| S4 3 J ?_
    refine cN h (fun hc h => ?_) fun hc h => ?_
    ·refine S3 3 J ?_
     refine cA h handle_Pack_ok J J fun v36 _ h => S2 1 J <| S3 5 J <| y_setM (es := s24) (k := v36) (v := v35.Val.Serial) (E := iF) (EK := iF) (.inl J) J J J J J J Ty.mm175 (keyT_int Ty.u3) <| yN <| S5 2 J <| y0 J (o_bI (f := iF) (l := [v36]) J Ty.e27 Ty.s3 Ty.z3 J J nl J J) <| bnE h fun v37 hv22 h => y_apO (f := iF) (b := 8) [(4, .ptr 4 0 0), (11, .L slab_Cell_store_Obj.Pv a0.S.Cells), (12, .I (a0.S.Cells.length : Int)), (13, .I s23), (14, .bool (decide (s23 < (a0.S.Cells.length : Int)))), (15, .I s23), (16, .rptr (slab_Cell_store_Obj.Pc v35)), (17, slab_Cell_store_Obj.Pv v35), (6, .ptr 6 0 0), (5, .I s23), (18, .ptr 6 0 0), (19, .I v35.State), (20, .bool (v35.State == 1)), (21, .I s23), (22, .ptr 6 0 1), (23, .I v35.Gen), (24, .I v36), (7, .I v36), (25, .mp 5000008), (26, .I v36), (27, .ptr 6 0 2), (28, .ptr 6 0 2), (29, .I v35.Val.Serial), (31, .I v36), (32, .lst true (List.map iF [v36]))] [(6, vR (slab_Cell_store_Obj.Pv v35) 8), (5000008, ⟨[.mapc (List.map (ent iF iF) (mput s24 v36 v35.Val.Serial))], 0, false, 0, false⟩), (4, vS (.mp 5000008) 1)] J hv22 ⟨J, J, J, J, J, J, J, J, J, J, J, J, J, J, J, J, J, J, J, J, J, J, J, J, J, J, J, J, J, J, J, J, J, J, J, J, J, J, J, J, J, J, J, J, J, J, J, J, J, J, J, J, J, J, J, J, J, J, J, J, J, J, J, J, J, J, J, J, J, J, J, J, J, J, J, tr⟩ ⟨rS, rowLe_open J J J (fun q => nomatch q) J J J J, rowLe_open J J J (fun q => nomatch q) J J J J, tr⟩ J J J J (.inl ⟨_, J, J⟩) Ty.e27 Ty.s3 Ty.b3 Ty.z3 J (fun _ => J) <| S2 1 J ?_
     exact eJ h W
    ·refine pw_skip ?_
     exact eJ h (WP (fun l => if l = 33 then 910003 else l))
  ·refine pw_exit ?_
   refine thenQ_exit <| thenQ_exit <| blockQ_exit ?_
   have h := xL hx15 h
   exact eJ h W

theorem settle_Zero_ok {a0} : PO Tryz.prog 42 [hold_Heap.Pv a0] (settle_Zero a0) fun r => .L iF r := by
 refine pO Tryz.func42 fun r h _ _ => ?_
 refine S4 2 J <| S4 1 J ?_
 refine jq h (fun j16 => St.of [(3, .sl 910003)] [(910003, ⟨List.map iF j16, (List.map iF j16).length, true, 1, true⟩)]) (fun j16 h => ?_) fun κ15 h => ?_
 ·refine S4 2 J ?_
  refine pw_ret ?_
  cases h
  exact f1
 ·refine S3 2 J ?_
  refine cF h store_Live_ok J J fun v17 _ h => nL J Ty.e27 <| S2 1 J <| pw_block <| lq h (fun q => St.of [(1, .ptr 1 0 0), (3, .sl 910003), (10, .L iF v17), (11, .I (v17.length : Int)), (12, .I q.1)] [(1, vR (hold_Heap.Pv a0) 8), (910003, ⟨List.map iF q.2, (List.map iF q.2).length, true, 1, true⟩)]) (Wk.trans (wk_nil (t := 3) (l := 920003) (z := 1) J J) (WP (fun l => if l = 910003 then 920003 else l))) fun q22 x21 h hx16 => ?_
  obtain ⟨s19, s20⟩ := q22
  refine S4 1 J <| pw_seq ?_
  refine cN h (fun hc h => ?_) fun hc h => ?_
  ·refine pw_skip ?_
   refine jq h (fun j27 => St.of [(1, .ptr 1 0 0), (3, .sl 29), (10, .L iF v17), (11, .I (v17.length : Int)), (12, .I s19)] [(29, ⟨List.map iF j27, (List.map iF j27).length, true, 1, true⟩), (1, vR (hold_Heap.Pv a0) 8)]) (fun j27 h => ?_) fun κ26 h => ?_
   ·refine S6 2 J ?_
    exact eL h (Wk.trans (wk_frz _ [29]) (WP (fun l => if l = 910003 then 29 else l)))
   ·refine pw_block ?_
    refine sR <| iL h J J Ty.e27 Ty.s3 fun v28 _ h => S2 2 J <| S3 3 J <| cF h store_Get_ok J J fun v29 _ h => S2 6 J <| S4 3 J ?_
    refine cN h (fun hc h => ?_) fun hc h => ?_
    ·refine S5 2 J ?_
     refine y0 J (o_bI (f := iF) (l := [v28]) J Ty.e27 Ty.s3 Ty.z3 J J nl J J) <| bnE h fun v30 hv23 h => y_app J (o_apR (f := iF) hv23 J J J J J J (.inl ⟨_, J, J⟩) Ty.e27 Ty.s3 Ty.b3 Ty.z3 J (fun _ => J)) J J J <| S2 1 J ?_
     exact eJ h (Wk.trans (wk_frz _ [29]) W)
    ·refine pw_skip ?_
     exact eJ h (Wk.trans (wk_frz _ [910003]) (WP (fun l => if l = 29 then 910003 else l)))
  ·refine pw_exit ?_
   refine thenQ_exit <| thenQ_exit <| blockQ_exit ?_
   have h := xL hx16 h
   exact eJ h (Wk.trans (wk_frz _ [910003]) W)

theorem settle_owesRun_ok {a0} : PO Tryz.prog 112 [store_Obj.Pv a0] (settle_owesRun a0) fun r => .bool r := by
 refine pO Tryz.func112 fun r h _ _ => ?_
 unfold settle_owesRun at h
 refine S4 2 J <| S3 4 J <| y_if J (fun hg => oF J Ty.f91_4 J) <| y_if J (fun hg => oS (ct hg) J J Ty.a4 J) <| y_if J (fun hg => o_not (ct hg) J) <| y0 J (pk_and J J J (fun q => eqT q)) <| S2 1 J <| pw_ret ?_
 cases h
 exact f1

theorem queue_Len_task_Task_ok {a0} : PO Tryz.prog 234 [queue_Queue_task_Task.Pv a0] (queue_Len_task_Task a0) fun r => .I r := by
 refine pO Tryz.func234 fun r h _ _ => ?_
 unfold queue_Len_task_Task at h
 refine S4 2 J <| S3 2 J <| nL J Ty.e30 <| S2 1 J <| pw_ret ?_
 cases h
 exact f1

theorem queue_part_task_Task_ok {a0 a1 a2} : PO Tryz.prog 235 [.L task_Task.Pv a0, .I a1, .I a2] (queue_part_task_Task a0 a1 a2) fun r => .lst true (List.map task_Task.Pv r) := by
 refine pO Tryz.func235 fun r h _ _ => ?_
 unfold queue_part_task_Task at h
 refine S4 1 J <| S3 4 J <| bnE h fun v1 hv1 h => y0 J (o_cutT (f := task_Task.Pv) hv1 J ⟨_, J⟩ ⟨_, J⟩ ⟨_, J⟩ J J Ty.e30 Ty.s82 (fun _ => J)) <| S2 1 J <| pw_ret ?_
 cases h
 exact f1

theorem queue_Push_task_Task_ok {a0 a1} : PO Tryz.prog 188 [queue_Queue_task_Task.Pv a0, task_Task.Pv a1] (queue_Push_task_Task a0 a1) fun r => .tup [queue_Queue_task_Task.Pv r.1, .I r.2] := by
 refine pO Tryz.func188 fun r h _ _ => ?_
 unfold queue_Push_task_Task at h
 refine S4 4 J <| pw_seq <| dr [] Ty.mix (by kernel_rfl) (by kernel_rfl) <| S7 1 J <| bnE h fun v1 hv1 h => d2 J (o_cl J queue_Len_task_Task_ok J hv1) J <| S8 3 J ?_
 refine cN h (fun hc h => ?_) fun hc h => ?_
 ·refine S4 3 J ?_
  refine pw_ret ?_
  cases h
  exact ⟨J, [_, _], ⟨oL J J J Ty.a32 Ty.s32 nl J, ⟨J, tr⟩⟩, J, io⟩
 ·refine pw_skip ?_
  refine dr [] Ty.mix (by kernel_rfl) (by kernel_rfl) <| S7 3 J <| d2 J (o_cl J queue_Len_task_Task_ok J hv1) J <| bnE h fun v2 hv2 h => d2f J (o_clF J queue_part_task_Task_ok J hv2) J <| S7 1 J <| d1n J (o_bI (f := task_Task.Pv) (l := [a1]) J Ty.e30 Ty.s82 Ty.z82 J J nl J J) J <| bnE h fun v3 hv3 h => d3 J (o_apT (f := task_Task.Pv) hv3 J J (.inl ⟨_, J, J⟩) Ty.e30 Ty.s82 Ty.b82 Ty.z82 J (fun _ => J)) J J J <| S7 1 J <| d_sto (x' := .agg [.sl 19, .I a0.Cap]) (cl' := false) J J (.inl J) Ty.s30 <| d_nil <| S4 3 J <| pw_ret ?_
  cases h
  exact ⟨J, [_, _], ⟨oL J J J Ty.a32 Ty.s32 nl J, ⟨J, tr⟩⟩, J, io⟩

theorem task_Add_ok {a0 a1} : PO Tryz.prog 114 [queue_Queue_task_Task.Pv a0, task_Task.Pv a1] (task_Add a0 a1) fun r => .tup [queue_Queue_task_Task.Pv r.1, .I r.2] := by
 refine pO Tryz.func114 fun r h _ _ => ?_
 refine S4 4 J <| S3 2 J <| cF h queue_Push_task_Task_ok J J fun v1 _ h => S2 4 J <| pw_ret ?_
 cases h
 exact ⟨J, [_, _], ⟨oL J J J Ty.a32 Ty.s32 nl J, ⟨J, tr⟩⟩, J, io⟩

theorem settle_Queued_ok {a0 a1} : PO Tryz.prog 38 [hold_Heap.Pv a0, .I a1] (settle_Queued a0 a1) fun r => hold_Heap.Pv r := by
 refine pO Tryz.func38 fun r h _ _ => ?_
 refine S4 2 J <| S3 3 J <| cF h store_Get_ok J J fun v1 _ h => S2 6 J <| pw_seq <| S3 3 J <| y_if J (fun hg => oL J J J Ty.a91 Ty.s91 nl J) <| bnE h fun v2 hv2 h => y_if J (fun hg => o_cl J settle_owesRun_ok (consE (ct hg) J) (onlyE hv2 hg)) <| y_if J (fun hg => o_not (ct hg) J) <| y0 J (pk_or J J J (fun q => eqF q)) <| yN ?_
 refine cN h (fun hc h => ?_) fun hc h => ?_
 ·refine S4 2 J ?_
  refine pw_ret ?_
  cases h
  exact ⟨J, [_], ⟨oL J J J Ty.a34 Ty.s34 nl J, tr⟩, J, io⟩
 ·refine pw_skip ?_
  refine S4 2 J <| S3 4 J <| cF h store_Set_ok J J fun v3 _ h => S2 5 J <| S3 5 J <| y0 J (o_build (cs := [.I 1, .I a1, .I v1.1.Prog]) J Ty.p82 Ty.z82 J J J) <| cF h task_Add_ok J J fun v4 _ h => S2 5 J <| S3 2 J <| cF h hold_Retain_ok J J fun v5 _ h => S2 1 J <| pw_ret ?_
  cases h
  exact ⟨J, [_], ⟨oL J J J Ty.a34 Ty.s34 nl J, tr⟩, J, io⟩

theorem settle_livesOnce_ok {a0 a1} : PO Tryz.prog 118 [hold_Heap.Pv a0, .L iF a1] (settle_livesOnce a0 a1) fun r => .L iF r := by
 refine pO Tryz.func118 fun r h _ _ => ?_
 refine S4 2 J <| sR <| y_mkM (KT := Int) (VT := Bool) (EK := iF) (E := PV.bool) 5000011 J J <| S2 1 J <| S4 1 J ?_
 refine jq h (fun j18 => St.of [(6, .sl 910006)] [(910006, ⟨List.map iF j18, (List.map iF j18).length, true, 1, true⟩)]) (fun j18 h => ?_) fun κ17 h => ?_
 ·refine S4 2 J ?_
  refine pw_ret ?_
  cases h
  exact f1
 ·refine S3 1 J ?_
  refine nL J Ty.e27 <| S2 1 J <| pw_block <| lq h (fun q => St.of [(2, .ptr 2 0 0), (5, .mp 5000011), (6, .sl 910006), (12, .L iF a1), (13, .I (a1.length : Int)), (14, .I q.1)] [(5000011, ⟨[.mapc (List.map (ent iF PV.bool) q.2.1)], 0, false, 0, false⟩), (2, vR (hold_Heap.Pv a0) 8), (910006, ⟨List.map iF q.2.2, (List.map iF q.2.2).length, true, 1, true⟩)]) (Wk.trans (wk_nil (t := 6) (l := 920006) (z := 1) J J) (WP (fun l => if l = 910006 then 920006 else l))) fun q24 x23 h hx16 => ?_
  obtain ⟨s20, s21, s22⟩ := q24
  refine S4 1 J <| pw_seq ?_
  refine cN h (fun hc h => ?_) fun hc h => ?_
  ·refine pw_skip ?_
   refine jq h (fun q => St.of [(2, .ptr 2 0 0), (5, .mp 5000011), (6, .sl 38), (12, .L iF a1), (13, .I (a1.length : Int)), (14, .I s20)] [(38, ⟨List.map iF q.1, (List.map iF q.1).length, true, 1, true⟩), (5000011, ⟨[.mapc (List.map (ent iF PV.bool) q.2)], 0, false, 0, false⟩), (2, vR (hold_Heap.Pv a0) 8)]) (fun q31 h => ?_) fun κ28 h => ?_
   ·obtain ⟨j29, j30⟩ := q31
    refine S6 2 J ?_
    exact eL h (Wk.trans (wk_frz _ [38]) (WP (fun l => if l = 910006 then 38 else l)))
   ·refine pw_block ?_
    refine sR <| iL h J J Ty.e27 Ty.s3 fun v32 _ h => S2 2 J <| S3 3 J <| cF h store_Get_ok J J fun v33 _ h => S2 6 J <| S3 3 J <| y_if J (fun hg => om (d := .mp 5000011) J) <| y_if J (fun hg => mI J) ?_
    rcases Bool.eq_false_or_eq_true ((v33.2 == 0) == true) with hg24 | hg24
    ·have h := ifT h hg24
     refine y_lkM (es := s21) (k := v32) (E := PV.bool) (EK := iF) (d := .bool ((mget s21 v32).getD (false : Bool))) (congrArg some hg24) (ct hg24) J (ct hg24) Ty.mm222 (keyT_int Ty.u3) Ty.z4 J (lk1 _ _ _) <| y0 (congrArg some hg24) (o_not J J) <| y0 J (pk_andT J J hg24) <| yN ?_
     refine cN h (fun hc h => ?_) fun hc h => ?_
     ·refine S3 2 J ?_
      refine y_setM (es := s21) (k := v32) (v := true) (E := PV.bool) (EK := iF) (.inl J) J J J J J J Ty.mm222 (keyT_int Ty.u3) <| yN <| S5 2 J <| y0 J (o_bI (f := iF) (l := [v32]) J Ty.e27 Ty.s3 Ty.z3 J J nl J J) <| bnE h fun v34 hv25 h => y_app J (o_apR (f := iF) hv25 J J J J J J (.inl ⟨_, J, J⟩) Ty.e27 Ty.s3 Ty.b3 Ty.z3 J (fun _ => J)) J J J <| S2 1 J ?_
      exact eJ h (Wk.trans (wk_frz _ [38]) W)
     ·refine pw_skip ?_
      exact eJ h (Wk.trans (wk_frz _ [910006]) (WP (fun l => if l = 38 then 910006 else l)))
    ·have h := ifF h hg24
     refine y_skip (congrArg some hg24) <| y_skip (congrArg some hg24) <| y0 J (pk_andF J J hg24) <| yN ?_
     refine pw_cond false J (fun q => nomatch q) (fun _ => ?_)
     refine pw_skip ?_
     exact eJ h (Wk.trans (wk_frz _ [910006]) (WP (fun l => if l = 38 then 910006 else l)))
  ·refine pw_exit ?_
   refine thenQ_exit <| thenQ_exit <| blockQ_exit ?_
   have h := xL hx16 h
   exact eJ h (Wk.trans (wk_frz _ [910006]) W)

theorem slices_Index_int_int_ok {a0 a1} : PO Tryz.prog 269 [.L iF a0, .I a1] (slices_Index_int_int a0 a1) fun r => .I r := by
 refine pO Tryz.func269 fun r h _ _ => ?_
 refine S4 1 J ?_
 refine jq h (fun _ => St.of [] []) (fun q6 h => ?_) fun κ5 h => ?_
 ·refine S4 1 J ?_
  refine pw_ret ?_
  cases h
  exact f1
 ·refine S3 1 J ?_
  refine nL J Ty.e27 <| S2 1 J <| pw_block <| lq h (fun s8 => St.of [(0, .L iF a0), (1, .I a1), (7, .I (a0.length : Int)), (8, .I s8)] []) W fun s8 x9 h hx8 => S4 1 J <| pw_seq ?_
  refine cN h (fun hc h => ?_) fun hc h => ?_
  ·refine pw_skip ?_
   refine pw_seq <| pw_block <| S4 2 J <| S3 3 J <| iL h J J Ty.e27 Ty.s3 fun v10 _ h => S2 2 J ?_
   refine cN h (fun hc h => ?_) fun hc h => ?_
   ·refine S4 2 J ?_
    refine pw_ret ?_
    have h := xL hx8 h
    cases h
    exact f1
   ·refine pw_skip ?_
    refine S6 2 J ?_
    exact eL h W
  ·refine pw_exit ?_
   refine thenQ_exit <| thenQ_exit <| blockQ_exit ?_
   have h := xL hx8 h
   exact eJ h W

theorem slices_Contains_int_int_ok {a0 a1} : PO Tryz.prog 238 [.L iF a0, .I a1] (slices_Contains_int_int a0 a1) fun r => .bool r := by
 refine pO Tryz.func238 fun r h _ _ => ?_
 refine S4 1 J <| S3 2 J <| cA h slices_Index_int_int_ok J J fun v1 _ h => S2 2 J <| pw_ret ?_
 cases h
 exact f1

theorem weak_Clear_1_ok {a0 a1} : PO Tryz.prog 237 [weak_Cell.Pv a0, .rptr [.L iF a1]] (weak_Clear_1 a0 a1) fun r => .bool r := by
 refine pO Tryz.func237 fun r h _ _ => ?_
 unfold weak_Clear_1 at h
 refine S4 2 J <| S3 3 J <| y_if J (fun hg => oF J Ty.f84_0 J) <| y_if J (fun hg => oS (ct hg) J J Ty.a3 J) <| y_if J (fun hg => o_cmp (ct hg) J J) <| y0 J (pk_and J J J (fun q => eqT q)) <| S1 1 J <| y_if J (fun hg => o_loadRS J Ty.a27 J) <| y_if J (fun hg => oF J Ty.f84_0 J) <| y_if J (fun hg => oS (ct hg) J J Ty.a3 J) <| bnE h fun v1 hv1 h => y_if J (fun hg => o_cl J slices_Contains_int_int_ok (consE (ct hg) (consE (ct hg) J)) (onlyE hv1 hg)) <| y0 J (pk_and J J J (fun q => eqT q)) <| S2 1 J <| pw_ret ?_
 cases h
 exact f1

theorem weak_picked__weak_Clear_1_ok {a0 a1} : PO Tryz.prog 236 [.L weak_Cell.Pv a0, .fn (.func 237) [.rptr [.L iF a1]]] (weak_picked__weak_Clear_1 a0 a1) fun r => .L iF r := by
 refine pO Tryz.func236 fun r h _ _ => ?_
 refine S4 1 J <| S4 1 J ?_
 refine jq h (fun j15 => St.of [(5, .sl 910005)] [(910005, ⟨List.map iF j15, (List.map iF j15).length, true, 1, true⟩)]) (fun j15 h => ?_) fun κ14 h => ?_
 ·refine S4 2 J ?_
  refine pw_ret ?_
  cases h
  exact f1
 ·refine S3 1 J ?_
  refine nL J Ty.e28 <| S2 1 J <| pw_block <| lq h (fun q => St.of [(1, .fn (.func 237) [.rptr [.L iF a1]]), (5, .sl 910005), (8, .L weak_Cell.Pv a0), (9, .I (a0.length : Int)), (10, .I q.1)] [(910005, ⟨List.map iF q.2, (List.map iF q.2).length, true, 1, true⟩)]) (Wk.trans (wk_nil (t := 5) (l := 920005) (z := 1) J J) (WP (fun l => if l = 910005 then 920005 else l))) fun q20 x19 h hx14 => ?_
  obtain ⟨s17, s18⟩ := q20
  refine S4 1 J <| pw_seq ?_
  refine cN h (fun hc h => ?_) fun hc h => ?_
  ·refine pw_skip ?_
   refine jq h (fun j25 => St.of [(1, .fn (.func 237) [.rptr [.L iF a1]]), (5, .sl 21), (8, .L weak_Cell.Pv a0), (9, .I (a0.length : Int)), (10, .I s17)] [(21, ⟨List.map iF j25, (List.map iF j25).length, true, 1, true⟩)]) (fun j25 h => ?_) fun κ24 h => ?_
   ·refine S6 2 J ?_
    exact eL h (Wk.trans (wk_frz _ [21]) (WP (fun l => if l = 910005 then 21 else l)))
   ·refine pw_block ?_
    refine S3 1 J <| iL h J J Ty.e28 Ty.s84 fun v26 _ h => S2 4 J <| S3 2 J <| cA h weak_Clear_1_ok J J fun v27 _ h => yN ?_
    refine cN h (fun hc h => ?_) fun hc h => ?_
    ·refine S5 2 J ?_
     refine y0 J (o_bI (f := iF) (l := [s17]) J Ty.e27 Ty.s3 Ty.z3 J J nl J J) <| bnE h fun v28 hv21 h => y_app J (o_apR (f := iF) hv21 J J J J J J (.inl ⟨_, J, J⟩) Ty.e27 Ty.s3 Ty.b3 Ty.z3 J (fun _ => J)) J J J <| S2 1 J ?_
     exact eJ h (Wk.trans (wk_frz _ [21]) W)
    ·refine pw_skip ?_
     exact eJ h (Wk.trans (wk_frz _ [910005]) (WP (fun l => if l = 21 then 910005 else l)))
  ·refine pw_exit ?_
   refine thenQ_exit <| thenQ_exit <| blockQ_exit ?_
   have h := xL hx14 h
   exact eJ h (Wk.trans (wk_frz _ [910005]) W)

theorem weak_Clear_ok {a0 a1} : PO Tryz.prog 189 [.L weak_Cell.Pv a0, .L iF a1] (weak_Clear a0 a1) fun r => .tup [.L weak_Cell.Pv r.1, .L iF r.2] := by
 refine pO Tryz.func189 fun r h _ _ => ?_
 unfold weak_Clear at h
 refine S4 3 J <| S3 2 J <| bnE h fun v1 hv1 h => ycL J (o_clF J weak_picked__weak_Clear_1_ok J hv1) J <| S2 1 J <| S3 1 J <| bnE h fun v2 hv2 h => ycN J (o_clN J weak_copied_okN J hv2) J J <| S2 1 J <| S4 1 J ?_
 refine jq h (fun q => St.of [(7, .sl 15), (8, .sl 910008)] [(910008, ⟨List.map iF q.1, (List.map iF q.1).length, true, 1, true⟩), (15, ⟨List.map weak_Cell.Pv q.2, 0, true, 3, true⟩)]) (fun q24 h => ?_) fun κ21 h => ?_
 ·obtain ⟨j22, j23⟩ := q24
  refine S4 4 J <| pw_ret ?_
  cases h
  exact f2
 ·refine S3 1 J ?_
  refine nL J Ty.e27 <| S2 1 J <| pw_block <| lq h (fun q => St.of [(7, .sl 15), (8, .sl 910008), (16, .L iF v1), (17, .I (v1.length : Int)), (18, .I q.1)] [(15, ⟨List.map weak_Cell.Pv q.2.1, 0, true, 3, true⟩), (910008, ⟨List.map iF q.2.2, (List.map iF q.2.2).length, true, 1, true⟩)]) (Wk.trans (wk_nil (t := 8) (l := 920008) (z := 1) J J) (WP (fun l => if l = 910008 then 920008 else l))) fun q30 x29 h hx18 => ?_
  obtain ⟨s26, s27, s28⟩ := q30
  refine S4 1 J <| pw_seq ?_
  refine cN h (fun hc h => ?_) fun hc h => ?_
  ·refine pw_skip ?_
   refine jq h (fun q => St.of [(7, .sl 15), (8, .sl 35), (16, .L iF v1), (17, .I (v1.length : Int)), (18, .I s26)] [(35, ⟨List.map iF q.1, (List.map iF q.1).length, true, 1, true⟩), (15, ⟨List.map weak_Cell.Pv q.2, 0, true, 3, true⟩)]) (fun q38 h => ?_) fun κ35 h => ?_
   ·obtain ⟨j36, j37⟩ := q38
    refine S6 2 J ?_
    exact eL h (Wk.trans (wk_frz _ [35]) (WP (fun l => if l = 910008 then 35 else l)))
   ·refine pw_block ?_
    refine sR <| iL h J J Ty.e27 Ty.s3 fun v39 _ h => S2 2 J <| S3 2 J <| bnE h fun v40 hv25 h => y0 J (o_ixR (f := weak_Cell.Pv) hv25 J J J J Ty.e28 Ty.s84 J) <| S1 1 J <| y_stE (f := weak_Cell.Pv) (v := (⟨v40.Target, false, v40.Call⟩ : weak_Cell)) hv25 J J (.inl J) Ty.s4 <| yN <| S3 2 J <| bnE h fun v41 hv26 h => y0 J (o_ixR (f := weak_Cell.Pv) hv26 J J J J Ty.e28 Ty.s84 J) <| S1 1 J <| y0 J (o_ldS (f := weak_Cell.Pv) hv26 J J J Ty.a3 J) <| S2 1 J ?_
    refine cN h (fun hc h => ?_) fun hc h => ?_
    ·refine S5 2 J ?_
     refine y0 J (o_bI (f := iF) (l := [v39]) J Ty.e27 Ty.s3 Ty.z3 J J nl J J) <| bnE h fun v42 hv27 h => y_app J (o_apR (f := iF) hv27 J J J J J J (.inl ⟨_, J, J⟩) Ty.e27 Ty.s3 Ty.b3 Ty.z3 J (fun _ => J)) J J J <| S2 1 J ?_
     exact eJ h (Wk.trans (wk_frz _ [35]) W)
    ·refine pw_skip ?_
     exact eJ h (Wk.trans (wk_frz _ [910008]) (WP (fun l => if l = 35 then 910008 else l)))
  ·refine pw_exit ?_
   refine thenQ_exit <| thenQ_exit <| blockQ_exit ?_
   have h := xL hx18 h
   exact eJ h (Wk.trans (wk_frz _ [910008]) W)

theorem settle_cleared_ok {a0 a1} : PO Tryz.prog 119 [hold_Heap.Pv a0, .L iF a1] (settle_cleared a0 a1) fun r => hold_Heap.Pv r := by
 refine pO Tryz.func119 fun r h _ _ => ?_
 refine S4 2 J <| S3 3 J <| cF h weak_Clear_ok J J fun v1 _ h => S2 5 J <| S4 3 J ?_
 refine jq h (fun j11 => St.of [(2, .ptr 2 0 0), (4, .ptr 4 0 0)] [(4, vR (.agg [.nl, .I 0, .I 0, .nl, .nl, .nl, .nl, .I 0]) 8), (2, vR (.agg [.L slab_Cell_store_Obj.Pv a0.S.S.Cells, .I a0.S.S.Last, .I a0.S.Serial, .L iF a0.Roots, .L weak_Cell.Pv v1.1, .L hash_Place.Pv a0.T, .L task_Task.Pv j11.L, .I j11.Cap]) 8)]) (fun j11 h => ?_) fun κ10 h => ?_
 ·refine S4 2 J ?_
  refine pw_ret ?_
  cases h
  exact ⟨J, [_], ⟨oL J J J Ty.a34 Ty.s34 nl J, tr⟩, J, io⟩
 ·refine S3 1 J ?_
  refine nL J Ty.e27 <| S2 1 J <| pw_block <| lq h (fun q => St.of [(2, .ptr 2 0 0), (4, .ptr 4 0 0), (5, .L weak_Cell.Pv v1.1), (18, .L iF v1.2), (19, .I (v1.2.length : Int)), (20, .I q.1)] [(4, vR (.agg [.nl, .I 0, .I 0, .nl, .nl, .nl, .nl, .I 0]) 8), (2, vR (.agg [.L slab_Cell_store_Obj.Pv a0.S.S.Cells, .I a0.S.S.Last, .I a0.S.Serial, .L iF a0.Roots, .L weak_Cell.Pv v1.1, .L hash_Place.Pv a0.T, .L task_Task.Pv q.2.L, .I q.2.Cap]) 8)]) W fun q16 x15 h hx11 => ?_
  obtain ⟨s13, s14⟩ := q16
  refine S4 1 J <| pw_seq ?_
  refine cN h (fun hc h => ?_) fun hc h => ?_
  ·refine pw_skip ?_
   refine pw_seq <| pw_block <| sR <| iL h J J Ty.e27 Ty.s3 fun v17 _ h => S2 2 J <| pw_drw [] Ty.mix (by kernel_rfl) (by kernel_rfl) <| S7 5 J <| bnE h fun v18 hv13 h => d0 J (o_ixL (f := weak_Cell.Pv) (cs := weak_Cell.Pc v18) hv13 J J Ty.e28 Ty.s84 J J) J <| S7 2 J <| d7 J (fun _ hN => o_build (cs := [.I 2, .I v17, .I v18.Call]) J Ty.p82 Ty.z82 J J J) J <| bnE h fun v19 hv14 h => d2f J (o_clF J task_Add_ok J hv14) J <| S7 4 J <| d_sto (x' := .agg [.L slab_Cell_store_Obj.Pv a0.S.S.Cells, .I a0.S.S.Last, .I a0.S.Serial, .L iF a0.Roots, .L weak_Cell.Pv v1.1, .L hash_Place.Pv a0.T, .L task_Task.Pv v19.1.L, .I v19.1.Cap]) (cl' := true) J J (.inr J) Ty.s32 <| d_nil <| S6 2 J ?_
   exact eL h W
  ·refine pw_exit ?_
   refine thenQ_exit <| thenQ_exit <| blockQ_exit ?_
   have h := xL hx11 h
   exact eJ h W

theorem vec_named_ok {a0} : PO Tryz.prog 190 [.L iF a0] (vec_named a0) fun r => .fn (.func 239) [.rptr [.L iF r]] := by
 refine pO Tryz.func190 fun r h _ _ => ?_
 unfold vec_named at h
 refine S4 2 J <| S4 2 J <| pw_ret ?_
 cases h
 exact f1

theorem vec_Names_ok {a0} : PO Tryz.prog 121 [.L iF a0] (vec_Names a0) fun r => .L iF r := by
 refine pO Tryz.func121 fun r h _ _ => ?_
 refine S4 1 J <| S4 1 J ?_
 refine jq h (fun j10 => St.of [(3, .ptr 2001 0 0)] [(2001, vS (.sl 912501) 1), (912501, ⟨List.map iF j10, (List.map iF j10).length, true, 1, true⟩)]) (fun j10 h => ?_) fun κ9 h => ?_
 ·refine S4 2 J ?_
  refine pw_ret ?_
  cases h
  exact f1
 ·refine S3 1 J ?_
  refine cF h vec_named_ok J J fun v11 _ h => yN <| pw_block <| pw_wk (WPE (fun l => if l = 2011 then 3 else l) [(3, .ptr 2011 0 0), (6, .fn (.func 239) [.rptr [.L iF v11]])] [(2011, vR (.nl) 1)]) ?_
  refine pw_range (fn := Tryz.f239) (N1 := 20) J Tryz.func239 J J nl J Ty.k239 J J (fun l17 e18 o19 hR20 => ?_)
  refine S3 1 J <| nL J Ty.e27 <| S2 1 J <| pw_block <| lq h (fun q => St.of [(1000003, .ptr 2011 0 0), (1000006, .fn (.func 239) [.rptr [.L iF v11]]), (0, .fn (.yield l17) []), (5, .L iF v11), (6, .I (v11.length : Int)), (7, .I q.1)] [(2011, vS (.sl 912511) 1), (912511, ⟨List.map iF q.2, (List.map iF q.2).length, true, 1, true⟩)]) (Wk.trans (wk_nilC (l0 := 2011) (j := 0) (l := 922511) (z := 1) J J J J J) (WP (fun l => if l = 912511 then 922511 else l))) fun q16 x15 h hx23 => ?_
  obtain ⟨s13, s14⟩ := q16
  refine S4 1 J <| pw_seq ?_
  refine cN h (fun hc h => ?_) fun hc h => ?_
  ·refine pw_skip ?_
   refine pw_seq <| pw_block <| sR <| iL h J J Ty.e27 Ty.s3 fun v17 _ h => S2 2 J <| S3 3 J <| y_if J (fun hg => om (d := .fn (.yield l17) []) J) <| y_if J (fun hg => mI J) ?_
   rcases Bool.eq_false_or_eq_true ((v17 != 0) == true) with hg25 | hg25
   ·have h := ifT h hg25
    refine y_wk (WPE (fun l => if l = 2019 then 912511 else l) [(1000003, .ptr 2011 0 0), (1000006, .fn (.func 239) [.rptr [.L iF v11]]), (0, .fn (.yield l17) []), (5, .L iF v11), (6, .I (v11.length : Int)), (7, .I s13), (13, .bool (v17 != 0)), (14, .fn (.yield l17) []), (15, .I v17)] [(2011, vS (.sl 2019) 1), (2019, ⟨List.map iF s14, (List.map iF s14).length, true, 1, true⟩)]) ?_
    refine y_yield hR20 (congrArg some hg25) J J J J J (fun e26 o27 o28 => ?_)
    refine S6 1 J ?_
    refine ⟨J, ?_⟩
    refine pw_block <| S5 2 J <| y0 J (o_bI (f := iF) (l := [v17]) J Ty.e27 Ty.s3 Ty.z3 J J nl J J) <| bnE h fun v18 hv29 h => y_app J (o_apR (f := iF) hv29 J J J J J J (.inl ⟨_, J, J⟩) Ty.e27 Ty.s3 Ty.b3 Ty.z3 J (fun _ => J)) J J J <| S2 1 J ?_
    refine ⟨J, ?_⟩
    refine y_wk (WPE (fun l => if l = 2020 then 11 else l) [(1000003, .ptr 2011 0 0), (1000006, .fn (.func 239) [.rptr [.L iF v11]]), (0, .fn (.yield l17) []), (5, .L iF v11), (6, .I (v11.length : Int)), (7, .I s13), (13, .bool (v17 != 0)), (16, .bool true)] [(2011, vS (.sl 2020) 1), (2020, ⟨List.map iF v18, s14.length, true, 1, true⟩)]) <| y0 (congrArg some hg25) (o_not J J) <| y0 J (pk_andT J J hg25) <| yN ?_
    refine pw_cond false J (fun q => nomatch q) (fun _ => ?_)
    refine pw_skip <| S6 2 J ?_
    exact eL h (Wk.trans (wk_frz _ [2020]) (WP (fun l => if l = 912511 then 2020 else l)))
   ·have h := ifF h hg25
    refine y_skip (congrArg some hg25) <| y_skip (congrArg some hg25) <| y0 J (pk_andF J J hg25) <| yN ?_
    refine pw_cond false J (fun q => nomatch q) (fun _ => ?_)
    refine pw_skip <| S6 2 J ?_
    exact eL h (Wk.trans (wk_frz _ [912511]) W)
  ·refine pw_exit ?_
   refine thenQ_exit <| thenQ_exit <| blockQ_exit ?_
   refine .inl ⟨J, ?_⟩
   have h := xL hx23 h
   exact eJ h (Wk.trans (wk_frz _ [912511]) (WP (fun l => if l = 2001 then 2011 else if l = 912501 then 912511 else l)))

theorem hash_road_ok {a0 a1} : PO Tryz.prog 229 [.I a0, .I a1] (hash_road a0 a1) fun r => .fn (.func 265) [.rptr [.I r.1], .rptr [.I r.2]] := by
 refine pO Tryz.func229 fun r h _ _ => ?_
 unfold hash_road at h
 refine S4 3 J <| S4 2 J <| pw_ret ?_
 cases h
 exact f1

theorem hash_Home_ok {a0 a1} : PO Tryz.prog 266 [.I a0, .I a1] (hash_Home a0 a1) fun r => .I r := by
 refine pO Tryz.func266 fun r h _ _ => ?_
 refine S4 1 J <| pw_seq <| S4 2 J ?_
 refine cN h (fun hc h => ?_) fun hc h => ?_
 ·refine S4 1 J ?_
  refine pw_ret ?_
  cases h
  exact f1
 ·refine pw_skip ?_
  refine S3 4 J <| bnE h fun v1 hv1 h => y0 J (o_ari J J hv1) <| S2 1 J <| pw_seq <| S4 2 J ?_
  refine cN h (fun hc h => ?_) fun hc h => ?_
  ·refine S6 4 J ?_
   refine S4 2 J <| pw_ret ?_
   cases h
   exact f1
  ·refine pw_skip ?_
   refine S4 2 J <| pw_ret ?_
   cases h
   exact f1

theorem hash_Find_ok {a0 a1} : PO Tryz.prog 227 [.L hash_Place.Pv a0, .I a1] (hash_Find a0 a1) fun r => .I r := by
 refine pO Tryz.func227 fun r h _ _ => ?_
 refine S4 3 J ?_
 refine jq h (fun _ => St.of [(4, .ptr 2001 0 0)] [(2001, vR (.I 0) 1)]) (fun q9 h => ?_) fun κ8 h => ?_
 ·refine S4 1 J ?_
  refine pw_ret ?_
  cases h
  exact ⟨J, [_], ⟨oS J J J Ty.a3 J, tr⟩, J, io⟩
 ·refine S3 1 J ?_
  refine nL J Ty.e29 <| S1 1 J <| cF h hash_road_ok J J fun v10 _ h => yN <| pw_block <| pw_wk (WPE (fun l => if l = 2004 then 4 else if l = 2005 then 3 else if l = 2006 then 2 else l) [(2, .ptr 2006 0 0), (3, .ptr 2005 0 0), (4, .ptr 2004 0 0), (9, .fn (.func 265) [.rptr [.I v10.1], .rptr [.I v10.2]])] [(2004, vR (.I 0) 1), (2005, vR (.I a1) 1), (2006, vR (.L hash_Place.Pv a0) 1)]) ?_
  refine pw_range (fn := Tryz.f265) (N1 := 20) J Tryz.func265 J J nl J Ty.k265 J J (fun l17 e18 o19 hR20 => ?_)
  refine S4 2 J <| pw_block <| lq h (fun s12 => St.of [(1000002, .ptr 2006 0 0), (1000003, .ptr 2005 0 0), (1000004, .ptr 2004 0 0), (1000009, .fn (.func 265) [.rptr [.I v10.1], .rptr [.I v10.2]]), (0, .fn (.yield l17) []), (1, .rptr [.I v10.1]), (2, .rptr [.I v10.2]), (5, .I v10.1), (6, .I s12)] [(2004, vR (.I 0) 1), (2005, vR (.I a1) 1), (2006, vR (.L hash_Place.Pv a0) 1)]) W fun s12 x13 h hx23 => S4 1 J <| pw_seq ?_
  refine cN h (fun hc h => ?_) fun hc h => ?_
  ·refine pw_skip ?_
   refine pw_seq <| pw_block <| S4 2 J <| drY [] 8 Ty.mix (by kernel_rfl) (by kernel_rfl) (by kernel_rfl) (by kernel_rfl) nl <| S7 3 J <| bnE h fun v14 hv24 h => d2 J (o_cl J hash_Home_ok J hv24) J <| S7 3 J <| bnE h fun v15 hv25 h => d7 J (fun _ hN => o_ari J J hv25) J <| d_nil <| opq_wk (WE [(1000002, .ptr 2006 0 0), (1000003, .ptr 2005 0 0), (1000004, .ptr 2004 0 0), (1000009, .fn (.func 265) [.rptr [.I v10.1], .rptr [.I v10.2]]), (0, .fn (.yield l17) []), (1, .rptr [.I v10.1]), (2, .rptr [.I v10.2]), (5, .I v10.1), (6, .I s12), (9, .fn (.yield l17) []), (16, .I v15)] [(2004, vR (.I 0) 1), (2005, vR (.I a1) 1), (2006, vR (.L hash_Place.Pv a0) 1)]) ?_
   refine y_yield0 J hR20 J J J J J J (fun e26 o27 o28 => ?_)
   refine S6 1 J ?_
   refine ⟨J, ?_⟩
   refine pw_block <| pw_seq <| S3 2 J <| iL h J J Ty.e29 Ty.s183 fun v16 hv29 h => S2 3 J ?_
   refine cN h (fun hc h => ?_) fun hc h => ?_
   ·refine pw_exit ?_
    refine thenQ_exit <| blockQ_other (by decide) ?_
    refine ⟨J, ?_⟩
    refine ⟨_, wk_st [(1000002, .ptr 2006 0 0), (1000003, .ptr 2005 0 0), (1000004, .ptr 2004 0 0), (1000009, .fn (.func 265) [.rptr [.I v10.1], .rptr [.I v10.2]]), (0, .fn (.yield l17) []), (1, .rptr [.I v10.1]), (2, .rptr [.I v10.2]), (5, .I v10.1), (6, .I s12), (17, .bool false)] [(2004, vR (.I 0) 1), (2005, vR (.I a1) 1), (2006, vR (.L hash_Place.Pv a0) 1)] ⟨J, J, J, J, J, J, J, J, J, J, J, J, J, J, J, J, J, J, J, J, J, J, J, J, J, J, J, J, J, J, tr⟩ ⟨rS, rS, rS, tr⟩, ?_⟩
    refine S8 1 J ?_
    refine pw_cond true J (fun _ => ?_) (fun q => nomatch q)
    refine pw_ret ?_
    refine .inr ⟨.exit 0, J, jmpE ?_⟩
    refine blockQ_exit ?_
    have h := xL hx23 h
    exact eJ h (WP (fun l => if l = 2001 then 2004 else l))
   ·refine pw_skip ?_
    refine dr [] Ty.mix (by kernel_rfl) (by kernel_rfl) <| S7 2 J <| d0 J (o_ixL (f := hash_Place.Pv) (cs := hash_Place.Pc v16) hv29 J J Ty.e29 Ty.s183 J J) J <| S7 4 J <| d_if0 J (fun hg => oS J J J Ty.a29 J) J <| d_if7 J (fun hg _ hN => mI J) J <| d_if0 J (fun hg => o_ixL (f := hash_Place.Pv) (cs := hash_Place.Pc v16) hv29 (ct hg) (ct hg) Ty.e29 Ty.s183 J J) J <| d_if7 J (fun hg _ hN => o_fieldAddrR (ct hg) Ty.f183_1 J) J <| d_if0 J (fun hg => o_loadRS (ct hg) Ty.a3 J) J <| d_if0 J (fun hg => oS J J J Ty.a3 J) J <| d_if7 J (fun hg _ hN => o_cmp (ct hg) (ct hg) J) J <| d7 J (fun _ hN => pk_and J J J (fun q => eqT q)) J <| d_nil ?_
    refine cN h (fun hc h => ?_) fun hc h => ?_
    ·refine S4 2 J ?_
     refine pw_ret ?_
     refine ⟨J, ?_⟩
     refine ⟨_, wk_st [(1000002, .ptr 2006 0 0), (1000003, .ptr 2005 0 0), (1000004, .ptr 2004 0 0), (1000009, .fn (.func 265) [.rptr [.I v10.1], .rptr [.I v10.2]]), (0, .fn (.yield l17) []), (1, .rptr [.I v10.1]), (2, .rptr [.I v10.2]), (5, .I v10.1), (6, .I s12), (17, .bool false)] [(2004, vR (.I v15) 1), (2005, vR (.I a1) 1), (2006, vR (.L hash_Place.Pv a0) 1)] ⟨J, J, J, J, J, J, J, J, J, J, J, J, J, J, J, J, J, J, J, J, J, J, J, J, J, J, J, J, J, J, tr⟩ ⟨rS, rS, rS, tr⟩, ?_⟩
     refine S8 1 J ?_
     refine pw_cond true J (fun _ => ?_) (fun q => nomatch q)
     refine pw_ret ?_
     refine .inr ⟨.ret, J, jmpR ?_⟩
     have h := xL hx23 h
     cases h
     exact ⟨J, [_], ⟨oS J J J Ty.a3 J, tr⟩, J, io⟩
    ·refine pw_skip ?_
     refine ⟨J, ?_⟩
     refine ⟨_, wk_st [(1000002, .ptr 2006 0 0), (1000003, .ptr 2005 0 0), (1000004, .ptr 2004 0 0), (1000009, .fn (.func 265) [.rptr [.I v10.1], .rptr [.I v10.2]]), (0, .fn (.yield l17) []), (1, .rptr [.I v10.1]), (2, .rptr [.I v10.2]), (5, .I v10.1), (6, .I s12), (17, .bool true)] [(2004, vR (.I 0) 1), (2005, vR (.I a1) 1), (2006, vR (.L hash_Place.Pv a0) 1)] ⟨J, J, J, J, J, J, J, J, J, J, J, J, J, J, J, J, J, J, J, J, J, J, J, J, J, J, J, J, J, J, tr⟩ ⟨rS, rS, rS, tr⟩, ?_⟩
     refine S8 1 J ?_
     refine pw_cond false J (fun q => nomatch q) (fun _ => ?_)
     refine pw_skip <| S6 2 J ?_
     exact eL h W
  ·refine pw_exit ?_
   refine thenQ_exit <| thenQ_exit <| blockQ_exit ?_
   refine .inl ⟨J, ?_⟩
   have h := xL hx23 h
   exact eJ h (WP (fun l => if l = 2001 then 2004 else l))

theorem slices_Clone_hash_Place_hash_Place_okN {a0} : PON Tryz.prog 264 [.L hash_Place.Pv a0] (slices_Clone_hash_Place_hash_Place a0) fun r => ⟨List.map hash_Place.Pv r, 0, true, 3, true⟩ := by
 refine pON Tryz.func264 fun r h _ _ => ?_
 unfold slices_Clone_hash_Place_hash_Place at h
 refine S4 1 J <| pw_seq <| S3 1 J <| y_eqnil J Ty.e29 fun b hb => yN ?_
 refine pw_cond b J (fun hc => ?_) (fun hc => ?_)
 ·obtain rfl : a0 = [] := by simpa using hb hc
  refine S4 1 J <| pw_wk (wk_nil (t := 2) (l := 920000) (z := 3) J J) <| pw_ret ?_
  cases h
  exact ⟨J, _, _, J, J, J, J⟩
 ·refine pw_skip ?_
  refine sR <| y0 J (o_nslice J Ty.e29 Ty.s183) <| S1 1 J <| y1 J (o_apT (f := hash_Place.Pv) h J J (.inl ⟨_, J, J⟩) Ty.e29 Ty.s183 Ty.b183 Ty.z183 J (fun _ => J)) J <| S2 1 J <| pw_ret ?_
  exact ⟨J, _, _, J, J, J, J⟩

theorem hash_with_ok {a0 a1 a2} : PO Tryz.prog 228 [.L hash_Place.Pv a0, .I a1, hash_Place.Pv a2] (hash_with a0 a1 a2) fun r => .L hash_Place.Pv r := by
 refine pO Tryz.func228 fun r h _ _ => ?_
 unfold hash_with at h
 refine S4 2 J <| S3 1 J <| bnE h fun v1 hv1 h => ycN J (o_clN J slices_Clone_hash_Place_hash_Place_okN J hv1) J J <| S2 1 J <| S3 3 J <| bnE h fun v2 hv2 h => y0 J (o_ixR (f := hash_Place.Pv) hv2 J J J J Ty.e29 Ty.s183 J) <| y_stE (f := hash_Place.Pv) (v := a2) hv2 J J (.inl J) Ty.s183 <| yN <| S4 2 J <| pw_ret ?_
 cases h
 exact f1

theorem hash_Drop_ok {a0 a1} : PO Tryz.prog 170 [.L hash_Place.Pv a0, .I a1] (hash_Drop a0 a1) fun r => .tup [.L hash_Place.Pv r.1, .I r.2.1, .I r.2.2] := by
 refine pO Tryz.func170 fun r h _ _ => ?_
 refine S4 3 J <| S3 2 J <| cA h hash_Find_ok J J fun v1 _ h => S2 1 J <| pw_seq <| S4 2 J ?_
 refine cN h (fun hc h => ?_) fun hc h => ?_
 ·refine S4 4 J ?_
  refine pw_ret ?_
  cases h
  exact f3
 ·refine pw_skip ?_
  refine dr [] Ty.mix (by kernel_rfl) (by kernel_rfl) <| S7 2 J <| d7 J (fun _ hN => o_build (cs := [.I 2, .I 0, .I 0]) J Ty.p183 Ty.z183 J J J) J <| bnE h fun v2 hv2 h => d2f J (o_clF J hash_with_ok J hv2) J <| S7 2 J <| bnE h fun v3 hv3 h => d0 J (o_ixL (f := hash_Place.Pv) (cs := hash_Place.Pc v3) hv3 J J Ty.e29 Ty.s183 J J) J <| S8 5 J <| pw_ret ?_
  cases h
  exact f3

theorem ephem_Without_ok {a0 a1} : PO Tryz.prog 122 [.L hash_Place.Pv a0, .L iF a1] (ephem_Without a0 a1) fun r => .tup [.L hash_Place.Pv r.1, .L iF r.2] := by
 refine pO Tryz.func122 fun r h _ _ => ?_
 refine S4 2 J <| S4 1 J ?_
 refine jq h (fun q => St.of [(0, .L hash_Place.Pv q.1), (6, .sl 910006)] [(910006, ⟨List.map iF q.2, (List.map iF q.2).length, true, 1, true⟩)]) (fun q20 h => ?_) fun κ17 h => ?_
 ·obtain ⟨j18, j19⟩ := q20
  refine S4 4 J <| pw_ret ?_
  cases h
  exact f2
 ·refine S3 1 J ?_
  refine nL J Ty.e27 <| S2 1 J <| pw_block <| lq h (fun q => St.of [(0, .L hash_Place.Pv q.1), (6, .sl 910006), (12, .L iF a1), (13, .I (a1.length : Int)), (14, .I q.2.1)] [(910006, ⟨List.map iF q.2.2, (List.map iF q.2.2).length, true, 1, true⟩)]) (Wk.trans (wk_nil (t := 6) (l := 920006) (z := 1) J J) (WP (fun l => if l = 910006 then 920006 else l))) fun q26 x25 h hx14 => ?_
  obtain ⟨s22, s23, s24⟩ := q26
  refine S4 1 J <| pw_seq ?_
  refine cN h (fun hc h => ?_) fun hc h => ?_
  ·refine pw_skip ?_
   refine jq h (fun q => St.of [(0, .L hash_Place.Pv q.1), (6, .sl 31), (12, .L iF a1), (13, .I (a1.length : Int)), (14, .I s23)] [(31, ⟨List.map iF q.2, (List.map iF q.2).length, true, 1, true⟩)]) (fun q33 h => ?_) fun κ30 h => ?_
   ·obtain ⟨j31, j32⟩ := q33
    refine S6 2 J ?_
    exact eL h (Wk.trans (wk_frz _ [31]) (WP (fun l => if l = 910006 then 31 else l)))
   ·refine pw_block ?_
    refine sR <| iL h J J Ty.e27 Ty.s3 fun v34 _ h => S2 2 J <| S3 2 J <| cF h hash_Drop_ok J J fun v35 _ h => S2 7 J <| S4 2 J ?_
    refine cN h (fun hc h => ?_) fun hc h => ?_
    ·refine S5 3 J ?_
     refine y0 J (o_bI (f := iF) (l := [v35.2.1]) J Ty.e27 Ty.s3 Ty.z3 J J nl J J) <| bnE h fun v36 hv21 h => y_app J (o_apR (f := iF) hv21 J J J J J J (.inl ⟨_, J, J⟩) Ty.e27 Ty.s3 Ty.b3 Ty.z3 J (fun _ => J)) J J J <| S2 2 J ?_
     exact eJ h (Wk.trans (wk_frz _ [31]) W)
    ·refine pw_skip ?_
     exact eJ h (Wk.trans (wk_frz _ [910006]) (WP (fun l => if l = 31 then 910006 else l)))
  ·refine pw_exit ?_
   refine thenQ_exit <| thenQ_exit <| blockQ_exit ?_
   have h := xL hx14 h
   exact eJ h (Wk.trans (wk_frz _ [910006]) W)

theorem slab_Kill_store_Obj_ok {a0 a1} : PO Tryz.prog 191 [slab_Slab_store_Obj.Pv a0, .I a1] (slab_Kill_store_Obj a0 a1) fun r => .tup [slab_Slab_store_Obj.Pv r.1, .I r.2] := by
 refine pO Tryz.func191 fun r h _ _ => ?_
 refine S4 3 J <| S3 2 J <| cF h slab_Get_store_Obj_ok J J fun v1 _ h => S2 6 J <| pw_seq <| S4 2 J ?_
 refine cN h (fun hc h => ?_) fun hc h => ?_
 ·refine S4 4 J ?_
  refine pw_ret ?_
  cases h
  exact ⟨J, [_, _], ⟨oL J J J Ty.a24 Ty.s24 nl J, ⟨J, tr⟩⟩, J, io⟩
 ·refine pw_skip ?_
  refine dr [] Ty.mix (by kernel_rfl) (by kernel_rfl) <| S7 2 J <| bnE h fun v2 hv2 h => d2 J (o_cl J handle_Slot_ok J hv2) J <| S7 1 J <| bnE h fun v3 hv3 h => d2 J (o_cl J handle_Gen_ok J hv3) J <| S7 1 J <| d7 J (fun _ hN => o_build (cs := [.I 2, .I v3, .I v1.1.Serial, .I v1.1.Strong, .I v1.1.Weak, .I v1.1.Prog, .bool v1.1.Started, .L iF v1.1.Fields]) J Ty.p141 Ty.z141 J J J) J <| bnE h fun v4 hv4 h => d2f J (o_clF J slab_with_store_Obj_ok J hv4) J <| d_sto (x' := slab_Slab_store_Obj.Pv v4) (cl' := true) J J (.inr J) Ty.s24 <| S8 1 J <| pw_ret ?_
  cases h
  exact ⟨J, [_, _], ⟨oL J J J Ty.a24 Ty.s24 nl J, ⟨J, tr⟩⟩, J, io⟩

theorem settle_killed_ok {a0 a1} : PO Tryz.prog 123 [hold_Heap.Pv a0, .I a1] (settle_killed a0 a1) fun r => hold_Heap.Pv r := by
 refine pO Tryz.func123 fun r h _ _ => ?_
 refine S4 2 J <| S3 3 J <| cF h store_Get_ok J J fun v1 _ h => S2 6 J <| S3 1 J <| y_sto (x' := .agg [.I v1.1.Serial, .I v1.1.Strong, .I v1.1.Weak, .I v1.1.Prog, .bool v1.1.Started, .nl]) (cl' := true) J J (.inl J) Ty.s27 <| S1 1 J <| y_sto (x' := .agg [.I v1.1.Serial, .I 0, .I v1.1.Weak, .I v1.1.Prog, .bool v1.1.Started, .nl]) (cl' := true) J J (.inl J) Ty.s3 <| yN <| S3 4 J <| cF h store_Set_ok J J fun v2 _ h => S2 5 J <| S3 4 J <| cF h slab_Kill_store_Obj_ok J J fun v3 _ h => S2 6 J <| pw_seq <| S4 3 J ?_
 refine cN h (fun hc h => ?_) fun hc h => ?_
 ·refine S5 4 J ?_
  refine cF h slab_Give_store_Obj_ok J J fun v4 _ h => S2 6 J <| S4 2 J <| pw_ret ?_
  cases h
  exact ⟨J, [_], ⟨oL J J J Ty.a34 Ty.s34 nl J, tr⟩, J, io⟩
 ·refine pw_skip ?_
  refine S4 2 J <| pw_ret ?_
  cases h
  exact ⟨J, [_], ⟨oL J J J Ty.a34 Ty.s34 nl J, tr⟩, J, io⟩

theorem settle_Bury_ok {a0 a1} : PO Tryz.prog 51 [hold_Heap.Pv a0, .L iF a1] (settle_Bury a0 a1) fun r => hold_Heap.Pv r := by
 refine pO Tryz.func51 fun r h _ _ => ?_
 refine S4 2 J <| S3 2 J <| cF h settle_livesOnce_ok J J fun v1 _ h => S2 1 J <| S3 2 J <| cF h settle_cleared_ok J J fun v2 _ h => S2 1 J <| S4 1 J <| S4 2 J ?_
 refine jq h (fun j13 => St.of [(2, .ptr 2 0 0), (4, .ptr 4 0 0), (5, .L iF v1), (6, .ptr 6 0 0), (7, .fn (.func 120) [.ptr 6 0 0])] [(6, vS (.sl 910506) 1), (910506, ⟨List.map iF j13, (List.map iF j13).length, true, 1, true⟩), (4, vR (.agg [.nl, .I 0, .I 0, .nl, .nl, .nl, .nl, .I 0]) 8), (2, vR (hold_Heap.Pv v2) 8)]) (fun j13 h => ?_) fun κ12 h => ?_
 ·refine S3 3 J ?_
  refine cF h ephem_Without_ok J J fun v14 _ h => S2 5 J <| S3 2 J <| y_wk (WPE (fun l => if l = 2025 then 6 else if l = 2026 then 4 else if l = 2027 then 2 else if l = 2028 then 910506 else l) [(2, .ptr 2027 0 0), (4, .ptr 2026 0 0), (5, .L iF v1), (6, .ptr 2025 0 0), (12, .L hash_Place.Pv v14.1), (51, .fn (.func 120) [.ptr 2025 0 0]), (52, .L iF v14.2)] [(2025, vS (.sl 2028) 1), (2028, ⟨List.map iF j13, (List.map iF j13).length, true, 1, true⟩), (2026, vR (.agg [.nl, .I 0, .I 0, .nl, .nl, .nl, .nl, .I 0]) 8), (2027, vR (hold_Heap.Pv v2) 8)]) ?_
  refine y_inl (fn := Tryz.f120) (N1 := 6) J J Tryz.func120 J Ty.k120 J J nl (fun e14 o15 => ?_)
  refine S5 2 J <| bnE h fun v15 hv16 h => y_app J (o_apR (f := iF) hv16 J J J J J J (.inl ⟨_, J, J⟩) Ty.e27 Ty.s3 Ty.b3 Ty.z3 J (fun _ => J)) J J J <| S2 1 J ?_
  refine ⟨J, [], tr, ?_⟩
  refine y_wk (WPE (fun l => if l = 2029 then 5 else l) [(2, .ptr 2027 0 0), (4, .ptr 2026 0 0), (5, .L iF v1), (6, .ptr 2025 0 0), (12, .L hash_Place.Pv v14.1)] [(2025, vS (.sl 2029) 1), (2029, ⟨List.map iF v15, j13.length, true, 1, true⟩), (2026, vR (.agg [.nl, .I 0, .I 0, .nl, .nl, .nl, .nl, .I 0]) 8), (2027, vR (hold_Heap.Pv v2) 8)]) <| yN <| S4 3 J ?_
  refine jq h (fun j24 => St.of [(2, .ptr 2027 0 0), (4, .ptr 2026 0 0), (6, .ptr 2025 0 0)] [(2025, vS (.sl 2029) 1), (2029, ⟨List.map iF v15, j13.length, true, 1, true⟩), (2026, vR (.agg [.nl, .I 0, .I 0, .nl, .nl, .nl, .nl, .I 0]) 8), (2027, vR (hold_Heap.Pv j24) 8)]) (fun j24 h => ?_) fun κ23 h => ?_
  ·refine jq h (fun j33 => St.of [(2, .ptr 2027 0 0), (4, .ptr 2026 0 0)] [(2026, vR (.agg [.nl, .I 0, .I 0, .nl, .nl, .nl, .nl, .I 0]) 8), (2027, vR (hold_Heap.Pv j33) 8)]) (fun j33 h => ?_) fun κ32 h => ?_
   ·refine S4 2 J ?_
    refine pw_ret ?_
    cases h
    exact ⟨J, [_], ⟨oL J J J Ty.a34 Ty.s34 nl J, tr⟩, J, io⟩
   ·refine S3 1 J ?_
    refine y0 J (o_lnR (f := iF) J J J Ty.e27) <| S2 1 J <| pw_block <| lq h (fun q => St.of [(2, .ptr 2027 0 0), (4, .ptr 2026 0 0), (66, .sl 2029), (67, .I (v15.length : Int)), (68, .I q.1)] [(2029, ⟨List.map iF v15, j13.length, true, 1, true⟩), (2026, vR (.agg [.nl, .I 0, .I 0, .nl, .nl, .nl, .nl, .I 0]) 8), (2027, vR (hold_Heap.Pv q.2) 8)]) W fun q38 x37 h hx31 => ?_
    obtain ⟨s35, s36⟩ := q38
    refine S4 1 J <| pw_seq ?_
    refine cN h (fun hc h => ?_) fun hc h => ?_
    ·refine pw_skip ?_
     refine pw_seq <| pw_block <| sR <| bnE h fun v39 hv32 h => y0 J (o_ixR (f := iF) hv32 J J J J Ty.e27 Ty.s3 J) <| y0 J (o_ldS (f := iF) hv32 J J J Ty.a3 J) <| S2 1 J <| S5 2 J <| cF h hold_Release_ok J J fun v40 _ h => S2 1 J <| S6 2 J ?_
     exact eL h W
    ·refine pw_exit ?_
     refine thenQ_exit <| thenQ_exit <| blockQ_exit ?_
     have h := xL hx31 h
     exact eJ h W
  ·refine S3 1 J ?_
   refine nL J Ty.e27 <| S2 1 J <| pw_block <| lq h (fun q => St.of [(2, .ptr 2027 0 0), (4, .ptr 2026 0 0), (6, .ptr 2025 0 0), (56, .L iF v1), (57, .I (v1.length : Int)), (58, .I q.1)] [(2025, vS (.sl 2029) 1), (2029, ⟨List.map iF v15, j13.length, true, 1, true⟩), (2026, vR (.agg [.nl, .I 0, .I 0, .nl, .nl, .nl, .nl, .I 0]) 8), (2027, vR (hold_Heap.Pv q.2) 8)]) W fun q45 x44 h hx36 => ?_
   obtain ⟨s42, s43⟩ := q45
   refine S4 1 J <| pw_seq ?_
   refine cN h (fun hc h => ?_) fun hc h => ?_
   ·refine pw_skip ?_
    refine pw_seq <| pw_block <| sR <| iL h J J Ty.e27 Ty.s3 fun v46 _ h => S2 2 J <| S5 2 J <| cF h settle_killed_ok J J fun v47 _ h => S2 1 J <| S6 2 J ?_
    exact eL h W
   ·refine pw_exit ?_
    refine thenQ_exit <| thenQ_exit <| blockQ_exit ?_
    have h := xL hx36 h
    exact eJ h W
 ·refine S3 1 J ?_
  refine nL J Ty.e27 <| S2 1 J <| pw_block <| lq h (fun q => St.of [(2, .ptr 2 0 0), (4, .ptr 4 0 0), (5, .L iF v1), (6, .ptr 6 0 0), (7, .fn (.func 120) [.ptr 6 0 0]), (25, .L iF v1), (26, .I (v1.length : Int)), (27, .I q.1)] [(6, vS (.sl 910506) 1), (4, vR (.agg [.nl, .I 0, .I 0, .nl, .nl, .nl, .nl, .I 0]) 8), (2, vR (hold_Heap.Pv v2) 8), (910506, ⟨List.map iF q.2, (List.map iF q.2).length, true, 1, true⟩)]) (Wk.trans (wk_nilC (l0 := 6) (j := 0) (l := 920506) (z := 1) J J J J J) (WP (fun l => if l = 910506 then 920506 else l))) fun q52 x51 h hx41 => ?_
  obtain ⟨s49, s50⟩ := q52
  refine S4 1 J <| pw_seq ?_
  refine cN h (fun hc h => ?_) fun hc h => ?_
  ·refine pw_skip ?_
   refine pw_seq <| pw_block <| sR <| iL h J J Ty.e27 Ty.s3 fun v53 _ h => S2 2 J <| S3 3 J <| cF h store_Get_ok J J fun v54 _ h => S2 6 J <| S5 3 J <| cF h vec_Names_ok J J fun v55 _ h => y_wk (WPE (fun l => if l = 2049 then 6 else if l = 2050 then 4 else if l = 2051 then 2 else if l = 2052 then 910506 else l) [(2, .ptr 2051 0 0), (4, .ptr 2050 0 0), (5, .L iF v1), (6, .ptr 2049 0 0), (7, .fn (.func 120) [.ptr 2049 0 0]), (25, .L iF v1), (26, .I (v1.length : Int)), (27, .I s49), (38, .fn (.func 120) [.ptr 2049 0 0]), (41, .L iF v55)] [(2049, vS (.sl 2052) 1), (2052, ⟨List.map iF s50, (List.map iF s50).length, true, 1, true⟩), (2050, vR (.agg [.nl, .I 0, .I 0, .nl, .nl, .nl, .nl, .I 0]) 8), (2051, vR (hold_Heap.Pv v2) 8)]) ?_
   refine y_inl (fn := Tryz.f120) (N1 := 6) J J Tryz.func120 J Ty.k120 J J nl (fun e45 o46 => ?_)
   refine S5 2 J <| bnE h fun v56 hv47 h => y_app J (o_apR (f := iF) hv47 J J J J J J (.inl ⟨_, J, J⟩) Ty.e27 Ty.s3 Ty.b3 Ty.z3 J (fun _ => J)) J J J <| S2 1 J ?_
   refine ⟨J, [], tr, ?_⟩
   refine y_wk (WPE (fun l => if l = 2053 then 5 else l) [(2, .ptr 2051 0 0), (4, .ptr 2050 0 0), (5, .L iF v1), (6, .ptr 2049 0 0), (7, .fn (.func 120) [.ptr 2049 0 0]), (25, .L iF v1), (26, .I (v1.length : Int)), (27, .I s49)] [(2049, vS (.sl 2053) 1), (2053, ⟨List.map iF v56, s50.length, true, 1, true⟩), (2050, vR (.agg [.nl, .I 0, .I 0, .nl, .nl, .nl, .nl, .I 0]) 8), (2051, vR (hold_Heap.Pv v2) 8)]) <| yN <| S6 2 J ?_
   exact eL h (Wk.trans (wk_frz _ [2053]) (WP (fun l => if l = 2 then 2051 else if l = 4 then 2050 else if l = 6 then 2049 else if l = 910506 then 2053 else l)))
  ·refine pw_exit ?_
   refine thenQ_exit <| thenQ_exit <| blockQ_exit ?_
   have h := xL hx41 h
   exact eJ h (Wk.trans (wk_frz _ [910506]) W)

theorem settle_Settle_ok {a0} : PO Tryz.prog 39 [hold_Heap.Pv a0] (settle_Settle a0) fun r => hold_Heap.Pv r := by
 refine pO Tryz.func39 fun r h _ _ => ?_
 refine S4 2 J <| lqS h (fun s2 => St.of [(1, .ptr 1 0 0), (2, .ptr 2 0 0)] [(2, vR (.agg [.nl, .I 0, .I 0, .nl, .nl, .nl, .nl, .I 0]) 8), (1, vR (hold_Heap.Pv s2) 8)]) W fun s2 x3 h hx3 => S3 1 J <| cF h settle_Zero_ok J J fun v4 _ h => S2 1 J <| pw_seq <| S3 1 J <| nL J Ty.e27 <| S2 1 J ?_
 refine cN h (fun hc h => ?_) fun hc h => ?_
 ·refine S4 2 J ?_
  refine pw_ret ?_
  have h := xL hx3 h
  cases h
  exact ⟨J, [_], ⟨oL J J J Ty.a34 Ty.s34 nl J, tr⟩, J, io⟩
 ·refine pw_skip ?_
  refine pw_seq <| dr [] Ty.mix (by kernel_rfl) (by kernel_rfl) <| S7 3 J <| bnE h fun v5 hv5 h => d0 J (o_ixL (f := iF) (cs := [.I v5]) hv5 J J Ty.e27 Ty.s3 J J) J <| S7 1 J <| bnE h fun v6 hv6 h => d2f J (o_clF J store_Get_ok J hv6) J <| S7 4 J <| d_sto (x' := store_Obj.Pv v6.1) (cl' := true) J J (.inr J) Ty.s91 <| S8 1 J <| S3 1 J <| cA h settle_owesRun_ok J J fun v7 _ h => yN ?_
  refine cN h (fun hc h => ?_) fun hc h => ?_
  ·refine pw_drw [] Ty.mix (by kernel_rfl) (by kernel_rfl) ?_
   refine S7 2 J <| d0 J (o_ixL (f := iF) (cs := [.I v5]) hv5 J J Ty.e27 Ty.s3 J J) J <| S7 1 J <| bnE h fun v8 hv8 h => d2f J (o_clF J settle_Queued_ok J hv8) J <| d_sto (x' := hold_Heap.Pv v8) (cl' := true) J J (.inr J) Ty.s34 <| d_nil <| pw_goto ?_
   exact eS h W
  ·refine pw_drw [] Ty.mix (by kernel_rfl) (by kernel_rfl) ?_
   refine S7 2 J <| bnE h fun v9 hv9 h => d0 J (o_cutL (f := iF) hv9 J J ⟨_, J⟩ Ty.e27 Ty.s3 (fun _ => J)) J <| bnE h fun v10 hv10 h => d2f J (o_clF J settle_Bury_ok J hv10) J <| d_sto (x' := hold_Heap.Pv v10) (cl' := true) J J (.inr J) Ty.s34 <| d_nil <| pw_goto ?_
   exact eS h W

theorem weak_Load_ok {a0 a1} : PO Tryz.prog 109 [.L weak_Cell.Pv a0, .I a1] (weak_Load a0 a1) fun r => .tup [.I r.1, .I r.2] := by
 refine pO Tryz.func109 fun r h _ _ => ?_
 refine S4 2 J <| pw_seq <| S3 2 J <| cA h weak_has_ok J J fun v1 _ h => S2 1 J ?_
 refine cN h (fun hc h => ?_) fun hc h => ?_
 ·refine S4 2 J ?_
  refine pw_ret ?_
  cases h
  exact f2
 ·refine pw_skip ?_
  refine pw_seq <| S3 2 J <| iL h J J Ty.e28 Ty.s84 fun v2 hv2 h => S1 4 J <| y_if J (fun hg => om (d := .L weak_Cell.Pv a0) J) <| y_if J (fun hg => mI J) <| y_if J (fun hg => o_ixL (f := weak_Cell.Pv) (cs := weak_Cell.Pc v2) hv2 (ct hg) (ct hg) Ty.e28 Ty.s84 J J) <| y_if J (fun hg => o_fieldAddrR (ct hg) Ty.f84_1 J) <| y_if J (fun hg => o_loadRS (ct hg) Ty.a4 J) <| y_if J (fun hg => o_not (ct hg) J) <| y0 J (pk_or J J J (fun q => eqF q)) <| yN ?_
  refine cN h (fun hc h => ?_) fun hc h => ?_
  ·refine S4 2 J ?_
   refine pw_ret ?_
   cases h
   exact f2
  ·refine pw_skip ?_
   refine S3 2 J <| y0 J (o_ixL (f := weak_Cell.Pv) (cs := weak_Cell.Pc v2) hv2 J J Ty.e28 Ty.s84 J J) <| S2 4 J <| pw_ret ?_
   cases h
   exact f2

theorem settle_Settled_ok {a0} : PO Tryz.prog 44 [hold_Heap.Pv a0] (settle_Settled a0) fun r => .bool r := by
 refine pO Tryz.func44 fun r h _ _ => ?_
 refine S4 2 J <| S3 1 J <| cF h settle_Zero_ok J J fun v1 _ h => nL J Ty.e27 <| S2 2 J <| pw_ret ?_
 cases h
 exact f1

theorem store_rules_ok : PO Tryz.prog 253 [] (store_rules) fun r => .lst true (List.map store_rule.Pv r) := by
 refine pO Tryz.func253 fun r h _ _ => ?_
 unfold store_rules at h
 refine S4 1 J <| sR <| y0 J (o_build (cs := [.fn (.func 275) []]) J Ty.p281 Ty.z281 J J J) <| y_wk (wk_fv 1 (d' := .agg [fvE (some 275)]) J) <| y0 J (o_build (cs := [.fn (.func 276) []]) J Ty.p281 Ty.z281 J J J) <| y_wk (wk_fv 2 (d' := .agg [fvE (some 276)]) J) <| y0 J (o_build (cs := [.fn (.func 277) []]) J Ty.p281 Ty.z281 J J J) <| y_wk (wk_fv 3 (d' := .agg [fvE (some 277)]) J) <| y0 J (o_build (cs := [.fn (.func 278) []]) J Ty.p281 Ty.z281 J J J) <| y_wk (wk_fv 4 (d' := .agg [fvE (some 278)]) J) <| y0 J (o_bI (f := store_rule.Pv) (l := [(⟨(some 275)⟩ : store_rule), (⟨(some 276)⟩ : store_rule), (⟨(some 277)⟩ : store_rule), (⟨(some 278)⟩ : store_rule)]) J Ty.e277 Ty.s281 Ty.z281 J J nl J J) <| S2 1 J <| pw_ret ?_
 cases h
 exact f1

theorem store_stateFits_ok {a0 a1} : PO Tryz.prog 275 [store_Store.Pv a0, slab_Cell_store_Obj.Pv a1] (store_stateFits a0 a1) fun r => .bool r := by
 refine pO Tryz.func275 fun r h _ _ => ?_
 unfold store_stateFits at h
 refine S4 3 J <| S3 4 J <| y_if J (fun hg => oF J Ty.f141_0 J) <| y_if J (fun hg => oS (ct hg) J J Ty.a3 J) <| y_if J (fun hg => o_cmp (ct hg) J J) <| y0 J (pk_and J J J (fun q => eqT q)) <| S2 1 J <| pw_ret ?_
 cases h
 exact f1

theorem store_generationFits_ok {a0 a1} : PO Tryz.prog 276 [store_Store.Pv a0, slab_Cell_store_Obj.Pv a1] (store_generationFits a0 a1) fun r => .bool r := by
 refine pO Tryz.func276 fun r h _ _ => ?_
 unfold store_generationFits at h
 refine S4 3 J <| S3 4 J <| y_if J (fun hg => oF J Ty.f141_1 J) <| y_if J (fun hg => oS (ct hg) J J Ty.a3 J) <| y_if J (fun hg => oF J Ty.f26_0 J) <| y_if J (fun hg => oF (ct hg) Ty.f24_1 J) <| y_if J (fun hg => oS (ct hg) J J Ty.a3 J) <| y_if J (fun hg => o_cmp (ct hg) (ct hg) J) <| y0 J (pk_and J J J (fun q => eqT q)) <| S2 1 J <| pw_ret ?_
 cases h
 exact f1

theorem store_holdsObject_ok {a0} : PO Tryz.prog 279 [slab_Cell_store_Obj.Pv a0] (store_holdsObject a0) fun r => .bool r := by
 refine pO Tryz.func279 fun r h _ _ => ?_
 unfold store_holdsObject at h
 refine S4 2 J <| S3 4 J <| y_if J (fun hg => oF J Ty.f141_0 J) <| y_if J (fun hg => oS (ct hg) J J Ty.a3 J) <| y_if J (fun hg => o_cmp (ct hg) J J) <| y0 J (pk_or J J J (fun q => eqF q)) <| S2 1 J <| pw_ret ?_
 cases h
 exact f1

theorem store_objectFits_ok {a0 a1} : PO Tryz.prog 277 [store_Store.Pv a0, slab_Cell_store_Obj.Pv a1] (store_objectFits a0 a1) fun r => .bool r := by
 refine pO Tryz.func277 fun r h _ _ => ?_
 refine S4 3 J <| S4 4 J <| S3 1 J <| cA h store_holdsObject_ok J J fun v1 _ h => S1 2 J <| y_if J (fun hg => oF J Ty.f91_0 J) <| y_if J (fun hg => oS (ct hg) J J Ty.a3 J) <| y_if J (fun hg => o_cmp (ct hg) J J) <| y_if J (fun hg => om (d := .bool (decide (a1.Val.Serial ≥ 1))) (ct hg)) <| y_if (want2 J J J) (fun hg => oF J Ty.f91_0 J) <| y_if (want2 J J J) (fun hg => oS (ct hg) J J Ty.a3 J) <| y_if (want2 J J J) (fun hg => oF J Ty.f26_1 J) <| y_if (want2 J J J) (fun hg => oS (ct hg) J J Ty.a3 J) <| y_if (want2 J J J) (fun hg => o_cmp (ct hg) (ct hg) J) <| y_if J (fun hg => pk_and (ct hg) J J (fun q => andI hg (eqT q))) <| y_if J (fun hg => om (d := .bool ((decide (a1.Val.Serial ≥ 1)) && (decide (a1.Val.Serial ≤ a0.Serial)))) (ct hg)) <| y_if (want2 J J J) (fun hg => oF J Ty.f91_1 J) <| y_if (want2 J J J) (fun hg => oS (ct hg) J J Ty.a3 J) <| y_if (want2 J J J) (fun hg => o_cmp (ct hg) J J) <| y_if J (fun hg => pk_and (ct hg) J J (fun q => andI hg (eqT q))) <| y_if J (fun hg => om (d := .bool (((decide (a1.Val.Serial ≥ 1)) && (decide (a1.Val.Serial ≤ a0.Serial))) && (decide (a1.Val.Strong ≥ 0)))) (ct hg)) <| y_if (want2 J J J) (fun hg => oF J Ty.f91_2 J) <| y_if (want2 J J J) (fun hg => oS (ct hg) J J Ty.a3 J) <| y_if (want2 J J J) (fun hg => o_cmp (ct hg) J J) <| y_if J (fun hg => pk_and (ct hg) J J (fun q => andI hg (eqT q))) <| y_if J (fun hg => om (d := .bool ((((decide (a1.Val.Serial ≥ 1)) && (decide (a1.Val.Serial ≤ a0.Serial))) && (decide (a1.Val.Strong ≥ 0))) && (decide (a1.Val.Weak ≥ 0)))) (ct hg)) <| y_if (want2 J J J) (fun hg => oF J Ty.f91_3 J) <| y_if (want2 J J J) (fun hg => oS (ct hg) J J Ty.a3 J) <| bnE h fun v2 hv2 h => y_if (want2 J J J) (fun hg => o_cl J store_programFits_ok (consE (ct hg) J) (onlyE hv2 hg)) <| y_if J (fun hg => pk_and (ct hg) J J (fun q => andI hg (eqT q))) <| y_if J (fun hg => om (d := .bool (((((decide (a1.Val.Serial ≥ 1)) && (decide (a1.Val.Serial ≤ a0.Serial))) && (decide (a1.Val.Strong ≥ 0))) && (decide (a1.Val.Weak ≥ 0))) && v2)) (ct hg)) <| y_if (want2 J J J) (fun hg => oF J Ty.f91_5 J) <| y_if (want2 J J J) (fun hg => oS (ct hg) J J Ty.a27 J) <| y_if (want2 J J J) (fun hg => o_lnL (f := iF) (ct hg) Ty.e27) <| y_if (want2 J J J) (fun hg => o_cmp (ct hg) J J) <| y_if J (fun hg => pk_and (ct hg) J J (fun q => andI hg (eqT q))) <| y0 J (pk_or J J J (fun q => eqF q)) <| S2 1 J <| pw_ret ?_
 cases h
 exact f1

theorem store_nothingIsLeft_ok {a0 a1} : PO Tryz.prog 278 [store_Store.Pv a0, slab_Cell_store_Obj.Pv a1] (store_nothingIsLeft a0 a1) fun r => .bool r := by
 refine pO Tryz.func278 fun r h _ _ => ?_
 refine S4 3 J <| S4 4 J <| S3 8 J <| y0 J (o_build (cs := [.I a1.Val.Serial, .I a1.Val.Strong, .I a1.Val.Weak, .I a1.Val.Prog]) J Ty.p303 Ty.z303 J J J) <| S2 2 J <| S3 1 J <| cA h store_holdsObject_ok J J fun v1 _ h => S1 1 J <| y_if J (fun hg => oL J J J Ty.a303 Ty.s303 nl J) <| y_if J (fun hg => o_build (cs := [.I 0, .I 0, .I 0, .I 0]) J Ty.p303 Ty.z303 J J J) <| y_if J (fun hg => o_eqA (xs := [.I a1.Val.Serial, .I a1.Val.Strong, .I a1.Val.Weak, .I a1.Val.Prog]) (ys := [.I 0, .I 0, .I 0, .I 0]) Ty.q303 (ct hg) (ct hg) J) <| y_if J (fun hg => om (d := .bool ((a1.Val.Serial == 0) && ((a1.Val.Strong == 0) && ((a1.Val.Weak == 0) && ((a1.Val.Prog == 0) && true))))) (ct hg)) <| y_if (want2 J J J) (fun hg => oF J Ty.f91_4 J) <| y_if (want2 J J J) (fun hg => oS (ct hg) J J Ty.a4 J) <| y_if (want2 J J J) (fun hg => o_not (ct hg) J) <| y_if J (fun hg => pk_and (ct hg) J J (fun q => andI hg (eqT q))) <| y_if J (fun hg => om (d := .bool (((a1.Val.Serial == 0) && ((a1.Val.Strong == 0) && ((a1.Val.Weak == 0) && ((a1.Val.Prog == 0) && true)))) && (!a1.Val.Started))) (ct hg)) <| y_if (want2 J J J) (fun hg => oF J Ty.f91_5 J) <| y_if (want2 J J J) (fun hg => oS (ct hg) J J Ty.a27 J) <| y_if (want2 J J J) (fun hg => o_lnL (f := iF) (ct hg) Ty.e27) <| y_if (want2 J J J) (fun hg => o_cmp (ct hg) J J) <| y_if J (fun hg => pk_and (ct hg) J J (fun q => andI hg (eqT q))) <| y0 J (pk_or J J J (fun q => eqF q)) <| S2 1 J <| pw_ret ?_
 cases h
 exact f1

theorem fvcall0_ok {f : Fv} {a0 : store_Store} {a1 : slab_Cell_store_Obj} {r : Bool} (h : fvcall0 f a0 a1 = some r) : ∃ n, f = some n ∧ Callable Tryz.prog n ∧ PCalls Tryz.prog n [store_Store.Pv a0, slab_Cell_store_Obj.Pv a1] (.bool r) := by
 unfold fvcall0 at h
 by_cases e275 : f = some 275
 ·rw [if_pos e275] at h; exact ⟨275, e275, (@store_stateFits_ok a0 a1).1, (@store_stateFits_ok a0 a1).2 _ h⟩
 rw [if_neg e275] at h
 by_cases e276 : f = some 276
 ·rw [if_pos e276] at h; exact ⟨276, e276, (@store_generationFits_ok a0 a1).1, (@store_generationFits_ok a0 a1).2 _ h⟩
 rw [if_neg e276] at h
 by_cases e277 : f = some 277
 ·rw [if_pos e277] at h; exact ⟨277, e277, (@store_objectFits_ok a0 a1).1, (@store_objectFits_ok a0 a1).2 _ h⟩
 rw [if_neg e277] at h
 by_cases e278 : f = some 278
 ·rw [if_pos e278] at h; exact ⟨278, e278, (@store_nothingIsLeft_ok a0 a1).1, (@store_nothingIsLeft_ok a0 a1).2 _ h⟩
 rw [if_neg e278] at h
 cases h

theorem store_serialsDiffer_ok {a0} : PO Tryz.prog 254 [store_Store.Pv a0] (store_serialsDiffer a0) fun r => .bool r := by
 refine pO Tryz.func254 fun r h _ _ => ?_
 refine S4 2 J <| sR <| y_mkM (KT := Int) (VT := Bool) (EK := iF) (E := PV.bool) 5000006 J J <| S2 1 J ?_
 refine jq h (fun _ => St.of [] []) (fun q13 h => ?_) fun κ12 h => ?_
 ·refine S4 1 J ?_
  refine pw_ret ?_
  cases h
  exact f1
 ·refine S3 3 J ?_
  refine nL J Ty.e22 <| S2 1 J <| pw_block <| lq h (fun q => St.of [(3, .mp 5000006), (9, .L slab_Cell_store_Obj.Pv a0.S.Cells), (10, .I (a0.S.Cells.length : Int)), (11, .I q.1)] [(5000006, ⟨[.mapc (List.map (ent iF PV.bool) q.2)], 0, false, 0, false⟩)]) W fun q18 x17 h hx12 => ?_
  obtain ⟨s15, s16⟩ := q18
  refine S4 1 J <| pw_seq ?_
  refine cN h (fun hc h => ?_) fun hc h => ?_
  ·refine pw_skip ?_
   refine jq h (fun j22 => St.of [(3, .mp 5000006), (9, .L slab_Cell_store_Obj.Pv a0.S.Cells), (10, .I (a0.S.Cells.length : Int)), (11, .I s15)] [(5000006, ⟨[.mapc (List.map (ent iF PV.bool) j22)], 0, false, 0, false⟩)]) (fun j22 h => ?_) fun κ21 h => ?_
   ·refine S6 2 J ?_
    exact eL h W
   ·refine pw_block ?_
    refine sR <| iL h J J Ty.e22 Ty.s141 fun v23 _ h => S2 3 J <| pw_seq <| S3 1 J <| cA h store_holdsObject_ok J J fun v24 _ h => S2 1 J ?_
    refine cN h (fun hc h => ?_) fun hc h => ?_
    ·refine pw_exit ?_
     refine thenQ_exit <| blockQ_exit ?_
     exact eJ h W
    ·refine pw_skip ?_
     refine pw_seq <| S3 4 J <| y_lkM (es := s16) (k := v23.Val.Serial) (E := PV.bool) (EK := iF) (d := .bool ((mget s16 v23.Val.Serial).getD (false : Bool))) J J J J Ty.mm222 (keyT_int Ty.u3) Ty.z4 J (lk1 _ _ _) <| yN ?_
     refine cN h (fun hc h => ?_) fun hc h => ?_
     ·refine S4 1 J ?_
      refine pw_ret ?_
      have h := xL hx12 h
      cases h
      exact f1
     ·refine pw_skip ?_
      refine S5 4 J <| y_setM (es := s16) (k := v23.Val.Serial) (v := true) (E := PV.bool) (EK := iF) (.inl J) J J J J J J Ty.mm222 (keyT_int Ty.u3) <| yN ?_
      exact eJ h W
  ·refine pw_exit ?_
   refine thenQ_exit <| thenQ_exit <| blockQ_exit ?_
   have h := xL hx12 h
   exact eJ h W

theorem store_Right_ok {a0} : PO Tryz.prog 200 [store_Store.Pv a0] (store_Right a0) fun r => .bool r := by
 refine pO Tryz.func200 fun r h _ _ => ?_
 refine S4 2 J <| pw_seq <| S3 3 J <| nL J Ty.e22 <| S1 2 J <| y_if J (fun hg => oF J Ty.f26_0 J) <| y_if J (fun hg => oF (ct hg) Ty.f24_1 J) <| y_if J (fun hg => oS (ct hg) J J Ty.a3 J) <| y_if J (fun hg => o_cmp (ct hg) J J) <| y0 J (pk_or J J J (fun q => eqF q)) <| S1 1 J <| y_if J (fun hg => oF J Ty.f26_0 J) <| y_if J (fun hg => oF (ct hg) Ty.f24_1 J) <| y_if J (fun hg => oS (ct hg) J J Ty.a3 J) <| y_if J (fun hg => o_cmp (ct hg) J J) <| y0 J (pk_or J J J (fun q => eqF q)) <| S1 1 J <| y_if J (fun hg => oF J Ty.f26_1 J) <| y_if J (fun hg => oS (ct hg) J J Ty.a3 J) <| y_if J (fun hg => o_cmp (ct hg) J J) <| y0 J (pk_or J J J (fun q => eqF q)) <| yN ?_
 refine cN h (fun hc h => ?_) fun hc h => ?_
 ·refine S4 1 J ?_
  refine pw_ret ?_
  cases h
  exact f1
 ·refine pw_skip ?_
  refine jq h (fun _ => St.of [(1, .ptr 1 0 0)] [(1, vR (store_Store.Pv a0) 3)]) (fun q23 h => ?_) fun κ22 h => ?_
  ·refine S3 1 J ?_
   refine cA h store_serialsDiffer_ok J J fun v24 _ h => S2 1 J <| pw_ret ?_
   cases h
   exact f1
  ·refine S3 3 J ?_
   refine nL J Ty.e22 <| S2 1 J <| pw_block <| lq h (fun s26 => St.of [(1, .ptr 1 0 0), (31, .L slab_Cell_store_Obj.Pv a0.S.Cells), (32, .I (a0.S.Cells.length : Int)), (33, .I s26)] [(1, vR (store_Store.Pv a0) 3)]) W fun s26 x27 h hx29 => S4 1 J <| pw_seq ?_
   refine cN h (fun hc h => ?_) fun hc h => ?_
   ·refine pw_skip ?_
    refine jq h (fun _ => St.of [(1, .ptr 1 0 0), (31, .L slab_Cell_store_Obj.Pv a0.S.Cells), (32, .I (a0.S.Cells.length : Int)), (33, .I s26)] [(1, vR (store_Store.Pv a0) 3)]) (fun q37 h => ?_) fun κ36 h => ?_
    ·refine S6 2 J ?_
     exact eL h W
    ·refine pw_block ?_
     refine sR <| iL h J J Ty.e22 Ty.s141 fun v38 _ h => S2 3 J <| sR <| cF h store_rules_ok J J fun v39 _ h => nL J Ty.e277 <| S2 1 J <| pw_block <| lq h (fun s41 => St.of [(1, .ptr 1 0 0), (4, .ptr 4 0 0), (31, .L slab_Cell_store_Obj.Pv a0.S.Cells), (32, .I (a0.S.Cells.length : Int)), (33, .I s26), (37, .lst true (List.map store_rule.Pv v39)), (38, .I (v39.length : Int)), (39, .I s41)] [(4, vR (slab_Cell_store_Obj.Pv v38) 8), (1, vR (store_Store.Pv a0) 3)]) W fun s41 x42 h hx45 => S4 1 J <| pw_seq ?_
     refine cN h (fun hc h => ?_) fun hc h => ?_
     ·refine pw_skip ?_
      refine pw_seq <| pw_block <| sR <| iL h J J Ty.e277 Ty.s281 fun v43 _ h => S2 3 J <| S3 4 J ?_
      obtain ⟨v44, hv47, h⟩ := bindE h
      obtain ⟨n45, he48, hk49, hp50⟩ := fvcall0_ok hv47
      refine y_wk (wk_fn 44 J he48) <| y0 J (o_call J hk49 J hp50) <| S2 1 J ?_
      refine cN h (fun hc h => ?_) fun hc h => ?_
      ·refine S4 1 J ?_
       refine pw_ret ?_
       have h := xL hx45 h
       have h := xL hx29 h
       cases h
       exact f1
      ·refine pw_skip ?_
       refine S6 2 J ?_
       exact eL h W
     ·refine pw_exit ?_
      refine thenQ_exit <| thenQ_exit <| blockQ_exit ?_
      have h := xL hx45 h
      exact eJ h W
   ·refine pw_exit ?_
    refine thenQ_exit <| thenQ_exit <| blockQ_exit ?_
    have h := xL hx29 h
    exact eJ h W

theorem hash_Right_ok {a0} : PO Tryz.prog 201 [.L hash_Place.Pv a0] (hash_Right a0) fun r => .bool r := by
 refine pO Tryz.func201 fun r h _ _ => ?_
 refine S4 1 J <| pw_seq <| S3 1 J <| nL J Ty.e29 <| S1 2 J <| y_if J (fun hg => om (d := .L hash_Place.Pv a0) J) <| y_if J (fun hg => o_lnL (f := hash_Place.Pv) (ct hg) Ty.e29) <| y_if J (fun hg => o_cmp (ct hg) J J) <| y0 J (pk_or J J J (fun q => eqF q)) <| yN ?_
 refine cN h (fun hc h => ?_) fun hc h => ?_
 ·refine S4 1 J ?_
  refine pw_ret ?_
  cases h
  exact f1
 ·refine pw_skip ?_
  refine jq h (fun _ => St.of [] []) (fun q7 h => ?_) fun κ6 h => ?_
  ·refine S4 1 J ?_
   refine pw_ret ?_
   cases h
   exact f1
  ·refine S3 1 J ?_
   refine nL J Ty.e29 <| S2 1 J <| pw_block <| lq h (fun s9 => St.of [(0, .L hash_Place.Pv a0), (14, .L hash_Place.Pv a0), (15, .I (a0.length : Int)), (16, .I s9)] []) W fun s9 x10 h hx9 => S4 1 J <| pw_seq ?_
   refine cN h (fun hc h => ?_) fun hc h => ?_
   ·refine pw_skip ?_
    refine pw_seq <| pw_block <| S3 1 J <| iL h J J Ty.e29 Ty.s183 fun v11 _ h => S2 4 J <| S3 1 J <| y0 J (o_build (cs := [.I 0, .I 0, .I 0]) J Ty.p183 Ty.z183 J J J) <| y0 J (o_eqA (xs := hash_Place.Pc v11) (ys := [.I 0, .I 0, .I 0]) Ty.q183 J J J) <| S1 1 J <| y_if J (fun hg => oL J J J Ty.a183 Ty.s183 nl J) <| y_if J (fun hg => o_build (cs := [.I 2, .I 0, .I 0]) J Ty.p183 Ty.z183 J J J) <| y_if J (fun hg => o_eqA (xs := hash_Place.Pc v11) (ys := [.I 2, .I 0, .I 0]) Ty.q183 (ct hg) (ct hg) J) <| y0 J (pk_or J J J (fun q => eqF q)) <| S2 1 J <| S3 3 J <| y_if J (fun hg => oF J Ty.f183_0 J) <| y_if J (fun hg => oS (ct hg) J J Ty.a3 J) <| y_if J (fun hg => o_cmp (ct hg) J J) <| y_if J (fun hg => om (d := .bool (v11.State != 1)) (ct hg)) <| y_if (want2 J J J) (fun hg => om (d := .L hash_Place.Pv a0) J) <| y_if (want2 J J J) (fun hg => oF J Ty.f183_1 J) <| y_if (want2 J J J) (fun hg => oS (ct hg) J J Ty.a3 J) <| bnE h fun v12 hv11 h => y_if (want2 J J J) (fun hg => o_cl J hash_Find_ok (consE (ct hg) (consE (ct hg) J)) (onlyE hv11 hg)) <| y_if (want2 J J J) (fun hg => mI J) <| y_if (want2 J J J) (fun hg => o_cmp (ct hg) (ct hg) J) <| y_if J (fun hg => pk_or (ct hg) J J (fun q => andI hg (eqF q))) <| y0 J (pk_and J J J (fun q => eqT q)) <| yN ?_
    refine cN h (fun hc h => ?_) fun hc h => ?_
    ·refine S4 1 J ?_
     refine pw_ret ?_
     have h := xL hx9 h
     cases h
     exact f1
    ·refine pw_skip ?_
     refine S6 2 J ?_
     exact eL h W
   ·refine pw_exit ?_
    refine thenQ_exit <| thenQ_exit <| blockQ_exit ?_
    have h := xL hx9 h
    exact eJ h W

theorem hold_shapesFit_ok {a0} : PO Tryz.prog 146 [hold_Heap.Pv a0] (hold_shapesFit a0) fun r => .bool r := by
 refine pO Tryz.func146 fun r h _ _ => ?_
 refine S4 2 J <| sR <| cF h task_New_ok J J fun v1 _ h => S2 2 J <| S3 2 J <| cA h store_Right_ok J J fun v2 _ h => S1 1 J <| y_if J (fun hg => oF J Ty.f34_3 J) <| y_if J (fun hg => oS (ct hg) J J Ty.a29 J) <| bnE h fun v3 hv3 h => y_if J (fun hg => o_cl J hash_Right_ok (consE (ct hg) J) (onlyE hv3 hg)) <| y0 J (pk_and J J J (fun q => eqT q)) <| S1 1 J <| y_if J (fun hg => oF J Ty.f34_1 J) <| y_if J (fun hg => oS (ct hg) J J Ty.a27 J) <| y_if J (fun hg => o_lnL (f := iF) (ct hg) Ty.e27) <| y_if J (fun hg => o_cmp (ct hg) J J) <| y0 J (pk_and J J J (fun q => eqT q)) <| S1 1 J <| y_if J (fun hg => oF J Ty.f34_2 J) <| y_if J (fun hg => oS (ct hg) J J Ty.a28 J) <| y_if J (fun hg => o_lnL (f := weak_Cell.Pv) (ct hg) Ty.e28) <| y_if J (fun hg => o_cmp (ct hg) J J) <| y0 J (pk_and J J J (fun q => eqT q)) <| S1 1 J <| y_if J (fun hg => oF J Ty.f34_4 J) <| y_if J (fun hg => oF (ct hg) Ty.f32_1 J) <| y_if J (fun hg => oS (ct hg) J J Ty.a3 J) <| y_if J (fun hg => mI J) <| y_if J (fun hg => o_cmp (ct hg) (ct hg) J) <| y0 J (pk_and J J J (fun q => eqT q)) <| S1 1 J <| y_if J (fun hg => oF J Ty.f34_4 J) <| y_if J (fun hg => oF (ct hg) Ty.f32_0 J) <| y_if J (fun hg => oS (ct hg) J J Ty.a30 J) <| y_if J (fun hg => o_lnL (f := task_Task.Pv) (ct hg) Ty.e30) <| y_if J (fun hg => mI J) <| y_if J (fun hg => o_cmp (ct hg) (ct hg) J) <| y0 J (pk_and J J J (fun q => eqT q)) <| S2 1 J ?_
 refine pw_ret ?_
 cases h
 exact f1

theorem slices_Clone_int_int_okN {a0} : PON Tryz.prog 155 [.L iF a0] (slices_Clone_int_int a0) fun r => ⟨List.map iF r, 0, true, 1, true⟩ := by
 refine pON Tryz.func155 fun r h _ _ => ?_
 unfold slices_Clone_int_int at h
 refine S4 1 J <| pw_seq <| S3 1 J <| y_eqnil J Ty.e27 fun b hb => yN ?_
 refine pw_cond b J (fun hc => ?_) (fun hc => ?_)
 ·obtain rfl : a0 = [] := by simpa using hb hc
  refine S4 1 J <| pw_wk (wk_nil (t := 2) (l := 920000) (z := 1) J J) <| pw_ret ?_
  cases h
  exact ⟨J, _, _, J, J, J, J⟩
 ·refine pw_skip ?_
  refine sR <| y0 J (o_nslice J Ty.e27 Ty.s3) <| S1 1 J <| y1 J (o_apT (f := iF) h J J (.inl ⟨_, J, J⟩) Ty.e27 Ty.s3 Ty.b3 Ty.z3 J (fun _ => J)) J <| S2 1 J <| pw_ret ?_
  exact ⟨J, _, _, J, J, J, J⟩

theorem hold_namesLive_1_ok {a0 a1} : PO Tryz.prog 203 [.I a0, .rptr (hold_Heap.Pc a1)] (hold_namesLive_1 a0 a1) fun r => .bool r := by
 refine pO Tryz.func203 fun r h _ _ => ?_
 refine S4 1 J <| S3 2 J <| cA h hold_nameable_ok J J fun v1 _ h => S2 1 J <| pw_ret ?_
 cases h
 exact f1

theorem hold_all_int__hold_namesLive_1_ok {a0 a1} : PO Tryz.prog 202 [.L iF a0, .fn (.func 203) [.rptr (hold_Heap.Pc a1)]] (hold_all_int__hold_namesLive_1 a0 a1) fun r => .bool r := by
 refine pO Tryz.func202 fun r h _ _ => ?_
 refine S4 1 J ?_
 refine jq h (fun _ => St.of [] []) (fun q7 h => ?_) fun κ6 h => ?_
 ·refine S4 1 J ?_
  refine pw_ret ?_
  cases h
  exact f1
 ·refine S3 1 J ?_
  refine nL J Ty.e27 <| S2 1 J <| pw_block <| lq h (fun s9 => St.of [(1, .fn (.func 203) [.rptr (hold_Heap.Pc a1)]), (7, .L iF a0), (8, .I (a0.length : Int)), (9, .I s9)] []) W fun s9 x10 h hx9 => S4 1 J <| pw_seq ?_
  refine cN h (fun hc h => ?_) fun hc h => ?_
  ·refine pw_skip ?_
   refine pw_seq <| pw_block <| sR <| iL h J J Ty.e27 Ty.s3 fun v11 _ h => S2 2 J <| S3 2 J <| cA h hold_namesLive_1_ok J J fun v12 _ h => S2 1 J ?_
   refine cN h (fun hc h => ?_) fun hc h => ?_
   ·refine S4 1 J ?_
    refine pw_ret ?_
    have h := xL hx9 h
    cases h
    exact f1
   ·refine pw_skip ?_
    refine S6 2 J ?_
    exact eL h W
  ·refine pw_exit ?_
   refine thenQ_exit <| thenQ_exit <| blockQ_exit ?_
   have h := xL hx9 h
   exact eJ h W

theorem hold_namesLive_ok {a0} : PO Tryz.prog 147 [hold_Heap.Pv a0] (hold_namesLive a0) fun r => .bool r := by
 refine pO Tryz.func147 fun r h _ _ => ?_
 unfold hold_namesLive at h
 refine S4 2 J <| S3 2 J <| bnE h fun v1 hv1 h => ycN J (o_clN J slices_Clone_int_int_okN J hv1) J J <| S2 1 J ?_
 refine jq h (fun j12 => St.of [(1, .ptr 1 0 0), (3, .sl 10)] [(10, ⟨List.map iF j12, (List.map iF j12).length, true, 1, true⟩), (1, vR (hold_Heap.Pv a0) 8)]) (fun j12 h => ?_) fun κ11 h => ?_
 ·refine S3 2 J ?_
  refine cA h hold_all_int__hold_namesLive_1_ok J J fun v13 _ h => S2 1 J <| pw_ret ?_
  cases h
  exact f1
 ·refine S3 2 J ?_
  refine cF h store_Live_ok J J fun v14 _ h => nL J Ty.e27 <| S2 1 J <| pw_block <| lq h (fun q => St.of [(1, .ptr 1 0 0), (3, .sl 10), (13, .L iF v14), (14, .I (v14.length : Int)), (15, .I q.1)] [(10, ⟨List.map iF q.2, (List.map iF q.2).length, true, 1, true⟩), (1, vR (hold_Heap.Pv a0) 8)]) (Wk.trans (wk_frz _ [10]) W) fun q19 x18 h hx14 => ?_
  obtain ⟨s16, s17⟩ := q19
  refine S4 1 J <| pw_seq ?_
  refine cN h (fun hc h => ?_) fun hc h => ?_
  ·refine pw_skip ?_
   refine pw_seq <| pw_block <| sR <| iL h J J Ty.e27 Ty.s3 fun v20 _ h => S2 2 J <| S3 3 J <| cF h store_Get_ok J J fun v21 _ h => S2 6 J <| S5 3 J <| bnE h fun v22 hv17 h => y_app J (o_apR (f := iF) hv17 J J J J J J (.inl ⟨_, J, J⟩) Ty.e27 Ty.s3 Ty.b3 Ty.z3 J (fun _ => J)) J J J <| S2 1 J <| S6 2 J ?_
   exact eL h (Wk.trans (wk_frz _ [29]) (WP (fun l => if l = 10 then 29 else l)))
  ·refine pw_exit ?_
   refine thenQ_exit <| thenQ_exit <| blockQ_exit ?_
   have h := xL hx14 h
   exact eJ h (Wk.trans (wk_frz _ [10]) W)

theorem ephem_pairs_ok {a0} : PO Tryz.prog 256 [.L hash_Place.Pv a0] (ephem_pairs a0) fun r => .fn (.func 280) [.rptr [.L hash_Place.Pv r]] := by
 refine pO Tryz.func256 fun r h _ _ => ?_
 unfold ephem_pairs at h
 refine S4 2 J <| S4 2 J <| pw_ret ?_
 cases h
 exact f1

theorem hash_Keys_ok {a0} : PO Tryz.prog 281 [.L hash_Place.Pv a0] (hash_Keys a0) fun r => .L iF r := by
 refine pO Tryz.func281 fun r h _ _ => ?_
 refine S4 1 J <| S4 1 J ?_
 refine jq h (fun j13 => St.of [(3, .sl 910003)] [(910003, ⟨List.map iF j13, (List.map iF j13).length, true, 1, true⟩)]) (fun j13 h => ?_) fun κ12 h => ?_
 ·refine S4 2 J ?_
  refine pw_ret ?_
  cases h
  exact f1
 ·refine S3 1 J ?_
  refine nL J Ty.e29 <| S2 1 J <| pw_block <| lq h (fun q => St.of [(3, .sl 910003), (6, .L hash_Place.Pv a0), (7, .I (a0.length : Int)), (8, .I q.1)] [(910003, ⟨List.map iF q.2, (List.map iF q.2).length, true, 1, true⟩)]) (Wk.trans (wk_nil (t := 3) (l := 920003) (z := 1) J J) (WP (fun l => if l = 910003 then 920003 else l))) fun q18 x17 h hx12 => ?_
  obtain ⟨s15, s16⟩ := q18
  refine S4 1 J <| pw_seq ?_
  refine cN h (fun hc h => ?_) fun hc h => ?_
  ·refine pw_skip ?_
   refine jq h (fun j22 => St.of [(3, .sl 19), (6, .L hash_Place.Pv a0), (7, .I (a0.length : Int)), (8, .I s15)] [(19, ⟨List.map iF j22, (List.map iF j22).length, true, 1, true⟩)]) (fun j22 h => ?_) fun κ21 h => ?_
   ·refine S6 2 J ?_
    exact eL h (Wk.trans (wk_frz _ [19]) (WP (fun l => if l = 910003 then 19 else l)))
   ·refine pw_block ?_
    refine sR <| iL h J J Ty.e29 Ty.s183 fun v23 _ h => S2 3 J <| S4 3 J ?_
    refine cN h (fun hc h => ?_) fun hc h => ?_
    ·refine S5 3 J ?_
     refine y0 J (o_bI (f := iF) (l := [v23.Key]) J Ty.e27 Ty.s3 Ty.z3 J J nl J J) <| bnE h fun v24 hv17 h => y_app J (o_apR (f := iF) hv17 J J J J J J (.inl ⟨_, J, J⟩) Ty.e27 Ty.s3 Ty.b3 Ty.z3 J (fun _ => J)) J J J <| S2 1 J ?_
     exact eJ h (Wk.trans (wk_frz _ [19]) W)
    ·refine pw_skip ?_
     exact eJ h (Wk.trans (wk_frz _ [910003]) (WP (fun l => if l = 19 then 910003 else l)))
  ·refine pw_exit ?_
   refine thenQ_exit <| thenQ_exit <| blockQ_exit ?_
   have h := xL hx12 h
   exact eJ h (Wk.trans (wk_frz _ [910003]) W)

theorem hash_Get_ok {a0 a1} : PO Tryz.prog 169 [.L hash_Place.Pv a0, .I a1] (hash_Get a0 a1) fun r => .tup [.I r.1, .I r.2] := by
 refine pO Tryz.func169 fun r h _ _ => ?_
 refine S4 2 J <| S3 2 J <| cA h hash_Find_ok J J fun v1 _ h => S2 1 J <| pw_seq <| S4 2 J ?_
 refine cN h (fun hc h => ?_) fun hc h => ?_
 ·refine S4 2 J ?_
  refine pw_ret ?_
  cases h
  exact f2
 ·refine pw_skip ?_
  refine S3 2 J <| iL h J J Ty.e29 Ty.s183 fun v2 _ h => S2 4 J <| pw_ret ?_
  cases h
  exact f2

theorem ephem_Pairs_1_ok {a0} : PO Tryz.prog 257 [ephem_Pair.Pv a0] (ephem_Pairs_1 a0) fun r => .bool r := by
 refine pO Tryz.func257 fun r h _ _ => ?_
 unfold ephem_Pairs_1 at h
 refine S4 2 J <| S4 1 J <| pw_ret ?_
 cases h
 exact f1

theorem ephem_gathered_ephem_Pair__ephem_pairs_1__ephem_Pairs_1_ok {a0} : PO Tryz.prog 255 [.fn (.func 280) [.rptr [.L hash_Place.Pv a0]], .fn (.func 257) []] (ephem_gathered_ephem_Pair__ephem_pairs_1__ephem_Pairs_1 a0) fun r => .L ephem_Pair.Pv r := by
 refine pO Tryz.func255 fun r h _ _ => ?_
 refine S4 2 J <| S4 1 J ?_
 refine jq h (fun j16 => St.of [(5, .ptr 2001 0 0)] [(2001, vS (.sl 912501) 1), (912501, ⟨List.map ephem_Pair.Pv j16, (List.map ephem_Pair.Pv j16).length, true, 2, true⟩)]) (fun j16 h => ?_) fun κ15 h => ?_
 ·refine S4 2 J ?_
  refine pw_ret ?_
  cases h
  exact f1
 ·refine S4 1 J ?_
  refine pw_block <| pw_wk (WPE (fun l => if l = 2012 then 5 else if l = 2013 then 3 else l) [(3, .ptr 2013 0 0), (5, .ptr 2012 0 0), (7, .fn (.func 280) [.rptr [.L hash_Place.Pv a0]])] [(2012, vR (.nl) 1), (2013, vR (.fn (.func 257) []) 1)]) ?_
  refine pw_range (fn := Tryz.f280) (N1 := 27) J Tryz.func280 J J nl J Ty.k280 J J (fun l20 e21 o22 hR23 => ?_)
  refine S3 1 J <| cF h hash_Keys_ok J J fun v17 _ h => nL J Ty.e27 <| S2 1 J <| pw_block <| lq h (fun q => St.of [(1000003, .ptr 2013 0 0), (1000005, .ptr 2012 0 0), (1000007, .fn (.func 280) [.rptr [.L hash_Place.Pv a0]]), (0, .fn (.yield l20) []), (1, .rptr [.L hash_Place.Pv a0]), (8, .L iF v17), (9, .I (v17.length : Int)), (10, .I q.1)] [(2012, vS (.sl 912512) 1), (2013, vR (.fn (.func 257) []) 1), (912512, ⟨List.map ephem_Pair.Pv q.2, (List.map ephem_Pair.Pv q.2).length, true, 2, true⟩)]) (Wk.trans (wk_nilC (l0 := 2012) (j := 0) (l := 922512) (z := 2) J J J J J) (WP (fun l => if l = 912512 then 922512 else l))) fun q22 x21 h hx27 => ?_
  obtain ⟨s19, s20⟩ := q22
  refine S4 1 J <| pw_seq ?_
  refine cN h (fun hc h => ?_) fun hc h => ?_
  ·refine pw_skip ?_
   refine pw_seq <| pw_block <| sR <| iL h J J Ty.e27 Ty.s3 fun v23 _ h => S2 2 J <| S3 2 J <| cA h hash_Get_ok J J fun v24 _ h => S2 5 J <| S3 3 J <| y0 J (o_build (cs := [.I v23, .I v24.1]) J Ty.p238 Ty.z238 J J J) <| y_wk (WPE (fun l => if l = 2021 then 912512 else l) [(1000003, .ptr 2013 0 0), (1000005, .ptr 2012 0 0), (1000007, .fn (.func 280) [.rptr [.L hash_Place.Pv a0]]), (0, .fn (.yield l20) []), (1, .rptr [.L hash_Place.Pv a0]), (8, .L iF v17), (9, .I (v17.length : Int)), (10, .I s19), (20, .fn (.yield l20) []), (23, .agg [.I v23, .I v24.1])] [(2012, vS (.sl 2021) 1), (2021, ⟨List.map ephem_Pair.Pv s20, (List.map ephem_Pair.Pv s20).length, true, 2, true⟩), (2013, vR (.fn (.func 257) []) 1)]) ?_
   refine y_yield hR23 J J J J J J (fun e30 o31 o32 => ?_)
   refine S6 2 J ?_
   refine ⟨J, ?_⟩
   refine jqE h (fun j28 => St.of [(2000003, .ptr 2013 0 0), (2000005, .ptr 2012 0 0), (2000007, .fn (.func 280) [.rptr [.L hash_Place.Pv a0]]), (1000000, .fn (.yield l20) []), (1000001, .rptr [.L hash_Place.Pv a0]), (1000008, .L iF v17), (1000009, .I (v17.length : Int)), (1000010, .I s19), (1000020, .fn (.yield l20) []), (1000023, .agg [.I v23, .I v24.1])] [(2012, vS (.sl 15) 1), (15, ⟨List.map ephem_Pair.Pv j28, (List.map ephem_Pair.Pv j28).length, true, 2, true⟩), (2013, vR (.fn (.func 257) []) 1)]) (fun j28 h => ?_) fun κ27 h => ?_
   ·refine ⟨J, ?_⟩
    refine y_wk (WPE (fun l => if l = 2022 then 15 else l) [(1000003, .ptr 2013 0 0), (1000005, .ptr 2012 0 0), (1000007, .fn (.func 280) [.rptr [.L hash_Place.Pv a0]]), (0, .fn (.yield l20) []), (1, .rptr [.L hash_Place.Pv a0]), (8, .L iF v17), (9, .I (v17.length : Int)), (10, .I s19), (24, .bool true)] [(2012, vS (.sl 2022) 1), (2022, ⟨List.map ephem_Pair.Pv j28, (List.map ephem_Pair.Pv j28).length, true, 2, true⟩), (2013, vR (.fn (.func 257) []) 1)]) <| S2 1 J ?_
    refine pw_cond false J (fun q => nomatch q) (fun _ => ?_)
    refine pw_skip <| S6 2 J ?_
    exact eL h (Wk.trans (wk_frz _ [2022]) (WP (fun l => if l = 912512 then 2022 else l)))
   ·refine pw_block ?_
    refine S3 2 J <| cA h ephem_Pairs_1_ok J J fun v29 _ h => yN ?_
    refine cN h (fun hc h => ?_) fun hc h => ?_
    ·refine S5 2 J ?_
     refine y0 J (o_bI (f := ephem_Pair.Pv) (l := [(⟨v23, v24.1⟩ : ephem_Pair)]) J Ty.e239 Ty.s238 Ty.z238 J J nl J J) <| bnE h fun v30 hv37 h => y_app J (o_apR (f := ephem_Pair.Pv) hv37 J J J J J J (.inl ⟨_, J, J⟩) Ty.e239 Ty.s238 Ty.b238 Ty.z238 J (fun _ => J)) J J J <| S2 1 J ?_
     exact eJ h (Wk.trans (wk_frz _ [15]) W)
    ·refine pw_skip ?_
     exact eJ h (Wk.trans (wk_frz _ [2021]) (WP (fun l => if l = 15 then 2021 else l)))
  ·refine pw_exit ?_
   refine thenQ_exit <| thenQ_exit <| blockQ_exit ?_
   refine .inl ⟨J, ?_⟩
   have h := xL hx27 h
   exact eJ h (Wk.trans (wk_frz _ [912512]) (WP (fun l => if l = 2001 then 2012 else if l = 912501 then 912512 else l)))

theorem ephem_Pairs_ok {a0} : PO Tryz.prog 205 [.L hash_Place.Pv a0] (ephem_Pairs a0) fun r => .L ephem_Pair.Pv r := by
 refine pO Tryz.func205 fun r h _ _ => ?_
 refine S4 1 J <| S3 1 J <| cF h ephem_pairs_ok J J fun v1 _ h => cF h ephem_gathered_ephem_Pair__ephem_pairs_1__ephem_Pairs_1_ok J J fun v2 _ h => S2 1 J <| pw_ret ?_
 cases h
 exact f1

theorem hold_pairsLive_1_ok {a0 a1} : PO Tryz.prog 206 [ephem_Pair.Pv a0, .rptr (hold_Heap.Pc a1)] (hold_pairsLive_1 a0 a1) fun r => .bool r := by
 refine pO Tryz.func206 fun r h _ _ => ?_
 refine S4 2 J <| S3 3 J <| cA h hold_isLive_ok J J fun v1 _ h => S1 1 J <| y_if J (fun hg => o_loadRA J Ty.a34 Ty.s34 nl J) <| y_if J (fun hg => oF J Ty.f238_1 J) <| y_if J (fun hg => oS (ct hg) J J Ty.a3 J) <| bnE h fun v2 hv2 h => y_if J (fun hg => o_cl J hold_isLive_ok (consE (ct hg) (consE (ct hg) J)) (onlyE hv2 hg)) <| y0 J (pk_and J J J (fun q => eqT q)) <| S2 1 J <| pw_ret ?_
 cases h
 exact f1

theorem hold_all_ephem_Pair__hold_pairsLive_1_ok {a0 a1} : PO Tryz.prog 204 [.L ephem_Pair.Pv a0, .fn (.func 206) [.rptr (hold_Heap.Pc a1)]] (hold_all_ephem_Pair__hold_pairsLive_1 a0 a1) fun r => .bool r := by
 refine pO Tryz.func204 fun r h _ _ => ?_
 refine S4 1 J ?_
 refine jq h (fun _ => St.of [] []) (fun q7 h => ?_) fun κ6 h => ?_
 ·refine S4 1 J ?_
  refine pw_ret ?_
  cases h
  exact f1
 ·refine S3 1 J ?_
  refine nL J Ty.e239 <| S2 1 J <| pw_block <| lq h (fun s9 => St.of [(1, .fn (.func 206) [.rptr (hold_Heap.Pc a1)]), (7, .L ephem_Pair.Pv a0), (8, .I (a0.length : Int)), (9, .I s9)] []) W fun s9 x10 h hx9 => S4 1 J <| pw_seq ?_
  refine cN h (fun hc h => ?_) fun hc h => ?_
  ·refine pw_skip ?_
   refine pw_seq <| pw_block <| sR <| iL h J J Ty.e239 Ty.s238 fun v11 _ h => S2 3 J <| S3 2 J <| cA h hold_pairsLive_1_ok J J fun v12 _ h => S2 1 J ?_
   refine cN h (fun hc h => ?_) fun hc h => ?_
   ·refine S4 1 J ?_
    refine pw_ret ?_
    have h := xL hx9 h
    cases h
    exact f1
   ·refine pw_skip ?_
    refine S6 2 J ?_
    exact eL h W
  ·refine pw_exit ?_
   refine thenQ_exit <| thenQ_exit <| blockQ_exit ?_
   have h := xL hx9 h
   exact eJ h W

theorem hold_pairsLive_ok {a0} : PO Tryz.prog 148 [hold_Heap.Pv a0] (hold_pairsLive a0) fun r => .bool r := by
 refine pO Tryz.func148 fun r h _ _ => ?_
 refine S4 2 J <| S3 2 J <| cF h ephem_Pairs_ok J J fun v1 _ h => S1 1 J <| cA h hold_all_ephem_Pair__hold_pairsLive_1_ok J J fun v2 _ h => S2 1 J <| pw_ret ?_
 cases h
 exact f1

theorem hold_taskIsFor_ok {a0 a1} : PO Tryz.prog 209 [hold_Heap.Pv a0, task_Task.Pv a1] (hold_taskIsFor a0 a1) fun r => .bool r := by
 refine pO Tryz.func209 fun r h _ _ => ?_
 refine S4 3 J <| pw_seq <| S4 2 J <| pw_block <| S4 2 J ?_
 refine cN h (fun hc h => ?_) fun hc h => ?_
 ·refine S3 4 J ?_
  refine cF h store_Get_ok J J fun v1 _ h => S2 6 J <| S3 3 J <| y_if J (fun hg => oF J Ty.f91_4 J) <| y_if J (fun hg => oS (ct hg) J J Ty.a4 J) <| y0 J (pk_and J J J (fun q => eqT q)) <| S2 1 J <| pw_ret ?_
  cases h
  exact f1
 ·refine S4 2 J ?_
  refine cN h (fun hc h => ?_) fun hc h => ?_
  ·refine S3 4 J ?_
   refine y_if J (fun hg => oF J Ty.f82_1 J) <| y_if J (fun hg => oS (ct hg) J J Ty.a3 J) <| y_if J (fun hg => oF J Ty.f34_2 J) <| y_if J (fun hg => oS (ct hg) J J Ty.a28 J) <| y_if J (fun hg => o_lnL (f := weak_Cell.Pv) (ct hg) Ty.e28) <| y_if J (fun hg => o_cmp (ct hg) (ct hg) J) <| y0 J (pk_and J J J (fun q => eqT q)) <| S1 1 J <| y_if J (fun hg => oF J Ty.f34_2 J) <| y_if J (fun hg => oS (ct hg) J J Ty.a28 J) <| y_if J (fun hg => oF J Ty.f82_1 J) <| y_if J (fun hg => oS (ct hg) J J Ty.a3 J) <| bnE h fun v2 hv2 h => y_if J (fun hg => o_ixL (f := weak_Cell.Pv) (cs := weak_Cell.Pc v2) (onlyE hv2 hg) (ct hg) (ct hg) Ty.e28 Ty.s84 J J) <| y_if J (fun hg => o_fieldAddrR (ct hg) Ty.f84_1 J) <| y_if J (fun hg => o_loadRS (ct hg) Ty.a4 J) <| y_if J (fun hg => o_not (ct hg) J) <| y0 J (pk_and J J J (fun q => eqT q)) <| S2 1 J <| pw_ret ?_
   cases h
   exact f1
  ·refine pw_skip ?_
   refine S4 1 J <| pw_ret ?_
   cases h
   exact f1

end Go.Proofs.YtnfmdpblilpcbaaGreat.Ok
