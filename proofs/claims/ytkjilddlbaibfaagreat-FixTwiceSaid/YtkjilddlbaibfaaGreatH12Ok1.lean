/-
 The functions of the program do as the plain functions do.
-/
import Derived.Test.YtkjilddlbaibfaaGreatH12PwC
import Derived.Test.YtkjilddlbaibfaaGreatH12PwD
import Derived.Test.YtkjilddlbaibfaaGreatSrt
import Derived.Test.YtkjilddlbaibfaaGreatH12Sh
import Derived.Test.YtkjilddlbaibfaaGreatProg
namespace Go.Proofs.YtkjilddlbaibfaaGreat.Ok
open Go Go.Pw Go.Sh Go.Proofs
set_option linter.unusedVariables false
set_option maxRecDepth 100000
set_option maxHeartbeats 4000000
abbrev _root_.Go.Sh.store_Obj.Pc (x : store_Obj) : List PV := [.int .i64 x.Serial, .int .i64 x.Strong, .int .i64 x.Weak, .int .i64 x.Prog, .bool x.Started, .lst false (List.map (PV.int .i64) x.Fields)]
abbrev _root_.Go.Sh.store_Obj.Pv (x : store_Obj) : PV := .agg x.Pc
abbrev _root_.Go.Sh.slab_Cell_store_Obj.Pc (x : slab_Cell_store_Obj) : List PV := [.int .i64 x.State, .int .i64 x.Gen, .int .i64 x.Val.Serial, .int .i64 x.Val.Strong, .int .i64 x.Val.Weak, .int .i64 x.Val.Prog, .bool x.Val.Started, .lst false (List.map (PV.int .i64) x.Val.Fields)]
abbrev _root_.Go.Sh.slab_Cell_store_Obj.Pv (x : slab_Cell_store_Obj) : PV := .agg x.Pc
abbrev _root_.Go.Sh.slab_Slab_store_Obj.Pc (x : slab_Slab_store_Obj) : List PV := [.lst false (List.map slab_Cell_store_Obj.Pv x.Cells), .int .i64 x.Last]
abbrev _root_.Go.Sh.slab_Slab_store_Obj.Pv (x : slab_Slab_store_Obj) : PV := .agg x.Pc
abbrev _root_.Go.Sh.store_Store.Pc (x : store_Store) : List PV := [.lst false (List.map slab_Cell_store_Obj.Pv x.S.Cells), .int .i64 x.S.Last, .int .i64 x.Serial]
abbrev _root_.Go.Sh.store_Store.Pv (x : store_Store) : PV := .agg x.Pc
abbrev _root_.Go.Sh.hash_Place.Pc (x : hash_Place) : List PV := [.int .i64 x.State, .int .i64 x.Key, .int .i64 x.Val]
abbrev _root_.Go.Sh.hash_Place.Pv (x : hash_Place) : PV := .agg x.Pc
abbrev _root_.Go.Sh.r06_Obj.Pc (x : r06_Obj) : List PV := [.int .i64 x.Serial, .int .i64 x.Strong, .int .i64 x.Weak, .int .i64 x.Prog, .bool x.Started, .lst false (List.map (PV.int .i64) x.Fields)]
abbrev _root_.Go.Sh.r06_Obj.Pv (x : r06_Obj) : PV := .agg x.Pc
abbrev _root_.Go.Sh.r06_Cell.Pc (x : r06_Cell) : List PV := [.int .i64 x.State, .int .i64 x.Gen, .int .i64 x.Val.Serial, .int .i64 x.Val.Strong, .int .i64 x.Val.Weak, .int .i64 x.Val.Prog, .bool x.Val.Started, .lst false (List.map (PV.int .i64) x.Val.Fields)]
abbrev _root_.Go.Sh.r06_Cell.Pv (x : r06_Cell) : PV := .agg x.Pc
abbrev _root_.Go.Sh.r06_Store.Pc (x : r06_Store) : List PV := [.lst false (List.map r06_Cell.Pv x.Cells), .int .i64 x.Last, .int .i64 x.Serial]
abbrev _root_.Go.Sh.r06_Store.Pv (x : r06_Store) : PV := .agg x.Pc
abbrev _root_.Go.Sh.r03_Cell.Pc (x : r03_Cell) : List PV := [.int .i64 x.State, .int .i64 x.Gen, .int .i64 x.Val]
abbrev _root_.Go.Sh.r03_Cell.Pv (x : r03_Cell) : PV := .agg x.Pc
abbrev _root_.Go.Sh.r03_Slab.Pc (x : r03_Slab) : List PV := [.lst false (List.map r03_Cell.Pv x.Cells), .int .i64 x.Last]
abbrev _root_.Go.Sh.r03_Slab.Pv (x : r03_Slab) : PV := .agg x.Pc
abbrev _root_.Go.Sh.r10_Place.Pc (x : r10_Place) : List PV := [.int .i64 x.State, .int .i64 x.Key, .int .i64 x.Val]
abbrev _root_.Go.Sh.r10_Place.Pv (x : r10_Place) : PV := .agg x.Pc
abbrev _root_.Go.Sh.queue_Queue_int.Pc (x : queue_Queue_int) : List PV := [.lst false (List.map (PV.int .i64) x.L), .int .i64 x.Cap]
abbrev _root_.Go.Sh.queue_Queue_int.Pv (x : queue_Queue_int) : PV := .agg x.Pc
abbrev _root_.Go.Sh.ephem_Pair.Pc (x : ephem_Pair) : List PV := [.int .i64 x.Key, .int .i64 x.Val]
abbrev _root_.Go.Sh.ephem_Pair.Pv (x : ephem_Pair) : PV := .agg x.Pc
abbrev _root_.Go.Sh.r11_Pair.Pc (x : r11_Pair) : List PV := [.int .i64 x.Key, .int .i64 x.Val]
abbrev _root_.Go.Sh.r11_Pair.Pv (x : r11_Pair) : PV := .agg x.Pc
namespace Ty
theorem a3 : tagg Tryz.prog 3 = some false := by kernel_rfl
theorem a4 : tagg Tryz.prog 4 = some false := by kernel_rfl
theorem a22 : tagg Tryz.prog 22 = some false := by kernel_rfl
theorem a24 : tagg Tryz.prog 24 = some true := by kernel_rfl
theorem a26 : tagg Tryz.prog 26 = some true := by kernel_rfl
theorem a27 : tagg Tryz.prog 27 = some false := by kernel_rfl
theorem a28 : tagg Tryz.prog 28 = some false := by kernel_rfl
theorem a32 : tagg Tryz.prog 32 = some false := by kernel_rfl
theorem a34 : tagg Tryz.prog 34 = some true := by kernel_rfl
theorem a49 : tagg Tryz.prog 49 = some false := by kernel_rfl
theorem a52 : tagg Tryz.prog 52 = some true := by kernel_rfl
theorem a54 : tagg Tryz.prog 54 = some false := by kernel_rfl
theorem a67 : tagg Tryz.prog 67 = some true := by kernel_rfl
theorem a73 : tagg Tryz.prog 73 = some true := by kernel_rfl
theorem a88 : tagg Tryz.prog 88 = some true := by kernel_rfl
theorem a91 : tagg Tryz.prog 91 = some true := by kernel_rfl
theorem a93 : tagg Tryz.prog 93 = some true := by kernel_rfl
theorem a94 : tagg Tryz.prog 94 = some true := by kernel_rfl
theorem a104 : tagg Tryz.prog 104 = some false := by kernel_rfl
theorem a111 : tagg Tryz.prog 111 = some false := by kernel_rfl
theorem a126 : tagg Tryz.prog 126 = some false := by kernel_rfl
theorem a128 : tagg Tryz.prog 128 = some true := by kernel_rfl
theorem a148 : tagg Tryz.prog 148 = some true := by kernel_rfl
theorem a167 : tagg Tryz.prog 167 = some true := by kernel_rfl
theorem a172 : tagg Tryz.prog 172 = some false := by kernel_rfl
theorem b3 : tbytes Tryz.prog 3 = some 8 := by kernel_rfl
theorem b52 : tbytes Tryz.prog 52 = some 16 := by kernel_rfl
theorem b80 : tbytes Tryz.prog 80 = some 16 := by kernel_rfl
theorem b88 : tbytes Tryz.prog 88 = some 80 := by kernel_rfl
theorem b91 : tbytes Tryz.prog 91 = some 80 := by kernel_rfl
theorem b93 : tbytes Tryz.prog 93 = some 24 := by kernel_rfl
theorem b94 : tbytes Tryz.prog 94 = some 24 := by kernel_rfl
theorem b167 : tbytes Tryz.prog 167 = some 24 := by kernel_rfl
theorem e22 : telem Tryz.prog 22 = some 88 := by kernel_rfl
theorem e27 : telem Tryz.prog 27 = some 94 := by kernel_rfl
theorem e28 : telem Tryz.prog 28 = some 3 := by kernel_rfl
theorem e32 : telem Tryz.prog 32 = some 91 := by kernel_rfl
theorem e36 : telem Tryz.prog 36 = some 93 := by kernel_rfl
theorem e49 : telem Tryz.prog 49 = some 52 := by kernel_rfl
theorem e78 : telem Tryz.prog 78 = some 80 := by kernel_rfl
theorem e126 : telem Tryz.prog 126 = some 167 := by kernel_rfl
theorem f24_0 : foff Tryz.prog 24 0 = some (0, 22) := by kernel_rfl
theorem f24_1 : foff Tryz.prog 24 1 = some (1, 3) := by kernel_rfl
theorem f26_0 : foff Tryz.prog 26 0 = some (0, 24) := by kernel_rfl
theorem f26_1 : foff Tryz.prog 26 1 = some (2, 3) := by kernel_rfl
theorem f34_0 : foff Tryz.prog 34 0 = some (0, 32) := by kernel_rfl
theorem f34_1 : foff Tryz.prog 34 1 = some (1, 3) := by kernel_rfl
theorem f34_2 : foff Tryz.prog 34 2 = some (2, 3) := by kernel_rfl
theorem f52_0 : foff Tryz.prog 52 0 = some (0, 3) := by kernel_rfl
theorem f52_1 : foff Tryz.prog 52 1 = some (1, 3) := by kernel_rfl
theorem f67_0 : foff Tryz.prog 67 0 = some (0, 3) := by kernel_rfl
theorem f67_1 : foff Tryz.prog 67 1 = some (1, 3) := by kernel_rfl
theorem f67_2 : foff Tryz.prog 67 2 = some (2, 3) := by kernel_rfl
theorem f67_3 : foff Tryz.prog 67 3 = some (3, 3) := by kernel_rfl
theorem f67_4 : foff Tryz.prog 67 4 = some (4, 4) := by kernel_rfl
theorem f67_5 : foff Tryz.prog 67 5 = some (5, 28) := by kernel_rfl
theorem f73_0 : foff Tryz.prog 73 0 = some (0, 3) := by kernel_rfl
theorem f73_1 : foff Tryz.prog 73 1 = some (1, 3) := by kernel_rfl
theorem f73_2 : foff Tryz.prog 73 2 = some (2, 3) := by kernel_rfl
theorem f73_3 : foff Tryz.prog 73 3 = some (3, 3) := by kernel_rfl
theorem f73_4 : foff Tryz.prog 73 4 = some (4, 4) := by kernel_rfl
theorem f73_5 : foff Tryz.prog 73 5 = some (5, 28) := by kernel_rfl
theorem f80_0 : foff Tryz.prog 80 0 = some (0, 3) := by kernel_rfl
theorem f80_1 : foff Tryz.prog 80 1 = some (1, 3) := by kernel_rfl
theorem f88_0 : foff Tryz.prog 88 0 = some (0, 3) := by kernel_rfl
theorem f88_1 : foff Tryz.prog 88 1 = some (1, 3) := by kernel_rfl
theorem f88_2 : foff Tryz.prog 88 2 = some (2, 73) := by kernel_rfl
theorem f91_0 : foff Tryz.prog 91 0 = some (0, 3) := by kernel_rfl
theorem f91_1 : foff Tryz.prog 91 1 = some (1, 3) := by kernel_rfl
theorem f91_2 : foff Tryz.prog 91 2 = some (2, 67) := by kernel_rfl
theorem f93_0 : foff Tryz.prog 93 0 = some (0, 3) := by kernel_rfl
theorem f93_1 : foff Tryz.prog 93 1 = some (1, 3) := by kernel_rfl
theorem f93_2 : foff Tryz.prog 93 2 = some (2, 3) := by kernel_rfl
theorem f94_0 : foff Tryz.prog 94 0 = some (0, 3) := by kernel_rfl
theorem f94_1 : foff Tryz.prog 94 1 = some (1, 3) := by kernel_rfl
theorem f94_2 : foff Tryz.prog 94 2 = some (2, 3) := by kernel_rfl
theorem f128_0 : foff Tryz.prog 128 0 = some (0, 126) := by kernel_rfl
theorem f128_1 : foff Tryz.prog 128 1 = some (1, 3) := by kernel_rfl
theorem f148_0 : foff Tryz.prog 148 0 = some (0, 28) := by kernel_rfl
theorem f148_1 : foff Tryz.prog 148 1 = some (1, 3) := by kernel_rfl
theorem f167_0 : foff Tryz.prog 167 0 = some (0, 3) := by kernel_rfl
theorem f167_1 : foff Tryz.prog 167 1 = some (1, 3) := by kernel_rfl
theorem f167_2 : foff Tryz.prog 167 2 = some (2, 3) := by kernel_rfl
theorem k13 : Callable Tryz.prog 13 := ⟨Tryz.f13, _, Tryz.func13, rfl, by decide⟩
theorem k14 : Callable Tryz.prog 14 := ⟨Tryz.f14, _, Tryz.func14, rfl, by decide⟩
theorem k15 : Callable Tryz.prog 15 := ⟨Tryz.f15, _, Tryz.func15, rfl, by decide⟩
theorem k16 : Callable Tryz.prog 16 := ⟨Tryz.f16, _, Tryz.func16, rfl, by decide⟩
theorem k17 : Callable Tryz.prog 17 := ⟨Tryz.f17, _, Tryz.func17, rfl, by decide⟩
theorem k18 : Callable Tryz.prog 18 := ⟨Tryz.f18, _, Tryz.func18, rfl, by decide⟩
theorem k19 : Callable Tryz.prog 19 := ⟨Tryz.f19, _, Tryz.func19, rfl, by decide⟩
theorem k20 : Callable Tryz.prog 20 := ⟨Tryz.f20, _, Tryz.func20, rfl, by decide⟩
theorem k21 : Callable Tryz.prog 21 := ⟨Tryz.f21, _, Tryz.func21, rfl, by decide⟩
theorem k22 : Callable Tryz.prog 22 := ⟨Tryz.f22, _, Tryz.func22, rfl, by decide⟩
theorem k23 : Callable Tryz.prog 23 := ⟨Tryz.f23, _, Tryz.func23, rfl, by decide⟩
theorem k24 : Callable Tryz.prog 24 := ⟨Tryz.f24, _, Tryz.func24, rfl, by decide⟩
theorem k25 : Callable Tryz.prog 25 := ⟨Tryz.f25, _, Tryz.func25, rfl, by decide⟩
theorem k26 : Callable Tryz.prog 26 := ⟨Tryz.f26, _, Tryz.func26, rfl, by decide⟩
theorem k27 : Callable Tryz.prog 27 := ⟨Tryz.f27, _, Tryz.func27, rfl, by decide⟩
theorem k28 : Callable Tryz.prog 28 := ⟨Tryz.f28, _, Tryz.func28, rfl, by decide⟩
theorem k29 : Callable Tryz.prog 29 := ⟨Tryz.f29, _, Tryz.func29, rfl, by decide⟩
theorem k30 : Callable Tryz.prog 30 := ⟨Tryz.f30, _, Tryz.func30, rfl, by decide⟩
theorem k31 : Callable Tryz.prog 31 := ⟨Tryz.f31, _, Tryz.func31, rfl, by decide⟩
theorem k32 : Callable Tryz.prog 32 := ⟨Tryz.f32, _, Tryz.func32, rfl, by decide⟩
theorem k33 : Callable Tryz.prog 33 := ⟨Tryz.f33, _, Tryz.func33, rfl, by decide⟩
theorem k51 : Callable Tryz.prog 51 := ⟨Tryz.f51, _, Tryz.func51, rfl, by decide⟩
theorem k53 : Callable Tryz.prog 53 := ⟨Tryz.f53, _, Tryz.func53, rfl, by decide⟩
theorem k54 : Callable Tryz.prog 54 := ⟨Tryz.f54, _, Tryz.func54, rfl, by decide⟩
theorem k56 : Callable Tryz.prog 56 := ⟨Tryz.f56, _, Tryz.func56, rfl, by decide⟩
theorem k57 : Callable Tryz.prog 57 := ⟨Tryz.f57, _, Tryz.func57, rfl, by decide⟩
theorem k58 : Callable Tryz.prog 58 := ⟨Tryz.f58, _, Tryz.func58, rfl, by decide⟩
theorem k59 : Callable Tryz.prog 59 := ⟨Tryz.f59, _, Tryz.func59, rfl, by decide⟩
theorem k60 : Callable Tryz.prog 60 := ⟨Tryz.f60, _, Tryz.func60, rfl, by decide⟩
theorem k61 : Callable Tryz.prog 61 := ⟨Tryz.f61, _, Tryz.func61, rfl, by decide⟩
theorem k62 : Callable Tryz.prog 62 := ⟨Tryz.f62, _, Tryz.func62, rfl, by decide⟩
theorem k63 : Callable Tryz.prog 63 := ⟨Tryz.f63, _, Tryz.func63, rfl, by decide⟩
theorem k64 : Callable Tryz.prog 64 := ⟨Tryz.f64, _, Tryz.func64, rfl, by decide⟩
theorem k65 : Callable Tryz.prog 65 := ⟨Tryz.f65, _, Tryz.func65, rfl, by decide⟩
theorem k66 : Callable Tryz.prog 66 := ⟨Tryz.f66, _, Tryz.func66, rfl, by decide⟩
theorem k67 : Callable Tryz.prog 67 := ⟨Tryz.f67, _, Tryz.func67, rfl, by decide⟩
theorem k68 : Callable Tryz.prog 68 := ⟨Tryz.f68, _, Tryz.func68, rfl, by decide⟩
theorem k69 : Callable Tryz.prog 69 := ⟨Tryz.f69, _, Tryz.func69, rfl, by decide⟩
theorem k70 : Callable Tryz.prog 70 := ⟨Tryz.f70, _, Tryz.func70, rfl, by decide⟩
theorem k71 : Callable Tryz.prog 71 := ⟨Tryz.f71, _, Tryz.func71, rfl, by decide⟩
theorem k72 : Callable Tryz.prog 72 := ⟨Tryz.f72, _, Tryz.func72, rfl, by decide⟩
theorem k73 : Callable Tryz.prog 73 := ⟨Tryz.f73, _, Tryz.func73, rfl, by decide⟩
theorem k74 : Callable Tryz.prog 74 := ⟨Tryz.f74, _, Tryz.func74, rfl, by decide⟩
theorem k75 : Callable Tryz.prog 75 := ⟨Tryz.f75, _, Tryz.func75, rfl, by decide⟩
theorem k76 : Callable Tryz.prog 76 := ⟨Tryz.f76, _, Tryz.func76, rfl, by decide⟩
theorem k77 : Callable Tryz.prog 77 := ⟨Tryz.f77, _, Tryz.func77, rfl, by decide⟩
theorem k78 : Callable Tryz.prog 78 := ⟨Tryz.f78, _, Tryz.func78, rfl, by decide⟩
theorem k79 : Callable Tryz.prog 79 := ⟨Tryz.f79, _, Tryz.func79, rfl, by decide⟩
theorem k80 : Callable Tryz.prog 80 := ⟨Tryz.f80, _, Tryz.func80, rfl, by decide⟩
theorem k81 : Callable Tryz.prog 81 := ⟨Tryz.f81, _, Tryz.func81, rfl, by decide⟩
theorem k82 : Callable Tryz.prog 82 := ⟨Tryz.f82, _, Tryz.func82, rfl, by decide⟩
theorem k83 : Callable Tryz.prog 83 := ⟨Tryz.f83, _, Tryz.func83, rfl, by decide⟩
theorem k84 : Callable Tryz.prog 84 := ⟨Tryz.f84, _, Tryz.func84, rfl, by decide⟩
theorem k97 : Callable Tryz.prog 97 := ⟨Tryz.f97, _, Tryz.func97, rfl, by decide⟩
theorem k98 : Callable Tryz.prog 98 := ⟨Tryz.f98, _, Tryz.func98, rfl, by decide⟩
theorem k99 : Callable Tryz.prog 99 := ⟨Tryz.f99, _, Tryz.func99, rfl, by decide⟩
theorem k100 : Callable Tryz.prog 100 := ⟨Tryz.f100, _, Tryz.func100, rfl, by decide⟩
theorem k102 : Callable Tryz.prog 102 := ⟨Tryz.f102, _, Tryz.func102, rfl, by decide⟩
theorem k103 : Callable Tryz.prog 103 := ⟨Tryz.f103, _, Tryz.func103, rfl, by decide⟩
theorem k104 : Callable Tryz.prog 104 := ⟨Tryz.f104, _, Tryz.func104, rfl, by decide⟩
theorem k105 : Callable Tryz.prog 105 := ⟨Tryz.f105, _, Tryz.func105, rfl, by decide⟩
theorem k106 : Callable Tryz.prog 106 := ⟨Tryz.f106, _, Tryz.func106, rfl, by decide⟩
theorem k107 : Callable Tryz.prog 107 := ⟨Tryz.f107, _, Tryz.func107, rfl, by decide⟩
theorem k108 : Callable Tryz.prog 108 := ⟨Tryz.f108, _, Tryz.func108, rfl, by decide⟩
theorem k109 : Callable Tryz.prog 109 := ⟨Tryz.f109, _, Tryz.func109, rfl, by decide⟩
theorem k110 : Callable Tryz.prog 110 := ⟨Tryz.f110, _, Tryz.func110, rfl, by decide⟩
theorem k111 : Callable Tryz.prog 111 := ⟨Tryz.f111, _, Tryz.func111, rfl, by decide⟩
theorem k112 : Callable Tryz.prog 112 := ⟨Tryz.f112, _, Tryz.func112, rfl, by decide⟩
theorem k113 : Callable Tryz.prog 113 := ⟨Tryz.f113, _, Tryz.func113, rfl, by decide⟩
theorem k114 : Callable Tryz.prog 114 := ⟨Tryz.f114, _, Tryz.func114, rfl, by decide⟩
theorem k115 : Callable Tryz.prog 115 := ⟨Tryz.f115, _, Tryz.func115, rfl, by decide⟩
theorem k116 : Callable Tryz.prog 116 := ⟨Tryz.f116, _, Tryz.func116, rfl, by decide⟩
theorem k117 : Callable Tryz.prog 117 := ⟨Tryz.f117, _, Tryz.func117, rfl, by decide⟩
theorem k118 : Callable Tryz.prog 118 := ⟨Tryz.f118, _, Tryz.func118, rfl, by decide⟩
theorem k119 : Callable Tryz.prog 119 := ⟨Tryz.f119, _, Tryz.func119, rfl, by decide⟩
theorem k120 : Callable Tryz.prog 120 := ⟨Tryz.f120, _, Tryz.func120, rfl, by decide⟩
theorem k121 : Callable Tryz.prog 121 := ⟨Tryz.f121, _, Tryz.func121, rfl, by decide⟩
theorem k122 : Callable Tryz.prog 122 := ⟨Tryz.f122, _, Tryz.func122, rfl, by decide⟩
theorem k123 : Callable Tryz.prog 123 := ⟨Tryz.f123, _, Tryz.func123, rfl, by decide⟩
theorem k124 : Callable Tryz.prog 124 := ⟨Tryz.f124, _, Tryz.func124, rfl, by decide⟩
theorem k125 : Callable Tryz.prog 125 := ⟨Tryz.f125, _, Tryz.func125, rfl, by decide⟩
theorem k126 : Callable Tryz.prog 126 := ⟨Tryz.f126, _, Tryz.func126, rfl, by decide⟩
theorem k127 : Callable Tryz.prog 127 := ⟨Tryz.f127, _, Tryz.func127, rfl, by decide⟩
theorem k128 : Callable Tryz.prog 128 := ⟨Tryz.f128, _, Tryz.func128, rfl, by decide⟩
theorem k129 : Callable Tryz.prog 129 := ⟨Tryz.f129, _, Tryz.func129, rfl, by decide⟩
theorem k130 : Callable Tryz.prog 130 := ⟨Tryz.f130, _, Tryz.func130, rfl, by decide⟩
theorem k131 : Callable Tryz.prog 131 := ⟨Tryz.f131, _, Tryz.func131, rfl, by decide⟩
theorem k132 : Callable Tryz.prog 132 := ⟨Tryz.f132, _, Tryz.func132, rfl, by decide⟩
theorem k138 : Callable Tryz.prog 138 := ⟨Tryz.f138, _, Tryz.func138, rfl, by decide⟩
theorem k139 : Callable Tryz.prog 139 := ⟨Tryz.f139, _, Tryz.func139, rfl, by decide⟩
theorem k140 : Callable Tryz.prog 140 := ⟨Tryz.f140, _, Tryz.func140, rfl, by decide⟩
theorem k141 : Callable Tryz.prog 141 := ⟨Tryz.f141, _, Tryz.func141, rfl, by decide⟩
theorem k142 : Callable Tryz.prog 142 := ⟨Tryz.f142, _, Tryz.func142, rfl, by decide⟩
theorem k143 : Callable Tryz.prog 143 := ⟨Tryz.f143, _, Tryz.func143, rfl, by decide⟩
theorem k144 : Callable Tryz.prog 144 := ⟨Tryz.f144, _, Tryz.func144, rfl, by decide⟩
theorem k145 : Callable Tryz.prog 145 := ⟨Tryz.f145, _, Tryz.func145, rfl, by decide⟩
theorem k146 : Callable Tryz.prog 146 := ⟨Tryz.f146, _, Tryz.func146, rfl, by decide⟩
theorem k147 : Callable Tryz.prog 147 := ⟨Tryz.f147, _, Tryz.func147, rfl, by decide⟩
theorem k148 : Callable Tryz.prog 148 := ⟨Tryz.f148, _, Tryz.func148, rfl, by decide⟩
theorem k149 : Callable Tryz.prog 149 := ⟨Tryz.f149, _, Tryz.func149, rfl, by decide⟩
theorem k150 : Callable Tryz.prog 150 := ⟨Tryz.f150, _, Tryz.func150, rfl, by decide⟩
theorem k151 : Callable Tryz.prog 151 := ⟨Tryz.f151, _, Tryz.func151, rfl, by decide⟩
theorem k152 : Callable Tryz.prog 152 := ⟨Tryz.f152, _, Tryz.func152, rfl, by decide⟩
theorem k155 : Callable Tryz.prog 155 := ⟨Tryz.f155, _, Tryz.func155, rfl, by decide⟩
theorem k156 : Callable Tryz.prog 156 := ⟨Tryz.f156, _, Tryz.func156, rfl, by decide⟩
theorem k157 : Callable Tryz.prog 157 := ⟨Tryz.f157, _, Tryz.func157, rfl, by decide⟩
theorem k158 : Callable Tryz.prog 158 := ⟨Tryz.f158, _, Tryz.func158, rfl, by decide⟩
theorem k159 : Callable Tryz.prog 159 := ⟨Tryz.f159, _, Tryz.func159, rfl, by decide⟩
theorem k160 : Callable Tryz.prog 160 := ⟨Tryz.f160, _, Tryz.func160, rfl, by decide⟩
theorem k163 : Callable Tryz.prog 163 := ⟨Tryz.f163, _, Tryz.func163, rfl, by decide⟩
theorem k164 : Callable Tryz.prog 164 := ⟨Tryz.f164, _, Tryz.func164, rfl, by decide⟩
theorem k165 : Callable Tryz.prog 165 := ⟨Tryz.f165, _, Tryz.func165, rfl, by decide⟩
theorem mm104 : tmap Tryz.prog 104 = some (3, 4) := by kernel_rfl
theorem mm172 : tmap Tryz.prog 172 = some (3, 3) := by kernel_rfl
theorem p24 : bplaces Tryz.prog 24 = some (fun i => (#[(0, 1), (1, 1)] : Array (Nat × Nat))[i]?) := by kernel_rfl
theorem p26 : bplaces Tryz.prog 26 = some (fun i => (#[(0, 2), (2, 1)] : Array (Nat × Nat))[i]?) := by kernel_rfl
theorem p34 : bplaces Tryz.prog 34 = some (fun i => (#[(0, 1), (1, 1), (2, 1)] : Array (Nat × Nat))[i]?) := by kernel_rfl
theorem p52 : bplaces Tryz.prog 52 = some (fun i => (#[(0, 1), (1, 1)] : Array (Nat × Nat))[i]?) := by kernel_rfl
theorem p67 : bplaces Tryz.prog 67 = some (fun i => (#[(0, 1), (1, 1), (2, 1), (3, 1), (4, 1), (5, 1)] : Array (Nat × Nat))[i]?) := by kernel_rfl
theorem p73 : bplaces Tryz.prog 73 = some (fun i => (#[(0, 1), (1, 1), (2, 1), (3, 1), (4, 1), (5, 1)] : Array (Nat × Nat))[i]?) := by kernel_rfl
theorem p80 : bplaces Tryz.prog 80 = some (fun i => (#[(0, 1), (1, 1)] : Array (Nat × Nat))[i]?) := by kernel_rfl
theorem p88 : bplaces Tryz.prog 88 = some (fun i => (#[(0, 1), (1, 1), (2, 6)] : Array (Nat × Nat))[i]?) := by kernel_rfl
theorem p91 : bplaces Tryz.prog 91 = some (fun i => (#[(0, 1), (1, 1), (2, 6)] : Array (Nat × Nat))[i]?) := by kernel_rfl
theorem p94 : bplaces Tryz.prog 94 = some (fun i => (#[(0, 1), (1, 1), (2, 1)] : Array (Nat × Nat))[i]?) := by kernel_rfl
theorem p128 : bplaces Tryz.prog 128 = some (fun i => (#[(0, 1), (1, 1)] : Array (Nat × Nat))[i]?) := by kernel_rfl
theorem p148 : bplaces Tryz.prog 148 = some (fun i => (#[(0, 1), (1, 1)] : Array (Nat × Nat))[i]?) := by kernel_rfl
theorem p167 : bplaces Tryz.prog 167 = some (fun i => (#[(0, 1), (1, 1), (2, 1)] : Array (Nat × Nat))[i]?) := by kernel_rfl
theorem s3 : tsize Tryz.prog 3 = some 1 := by kernel_rfl
theorem s22 : tsize Tryz.prog 22 = some 1 := by kernel_rfl
theorem s24 : tsize Tryz.prog 24 = some 2 := by kernel_rfl
theorem s26 : tsize Tryz.prog 26 = some 3 := by kernel_rfl
theorem s27 : tsize Tryz.prog 27 = some 1 := by kernel_rfl
theorem s28 : tsize Tryz.prog 28 = some 1 := by kernel_rfl
theorem s34 : tsize Tryz.prog 34 = some 3 := by kernel_rfl
theorem s49 : tsize Tryz.prog 49 = some 1 := by kernel_rfl
theorem s52 : tsize Tryz.prog 52 = some 2 := by kernel_rfl
theorem s54 : tsize Tryz.prog 54 = some 1 := by kernel_rfl
theorem s67 : tsize Tryz.prog 67 = some 6 := by kernel_rfl
theorem s73 : tsize Tryz.prog 73 = some 6 := by kernel_rfl
theorem s80 : tsize Tryz.prog 80 = some 2 := by kernel_rfl
theorem s88 : tsize Tryz.prog 88 = some 8 := by kernel_rfl
theorem s91 : tsize Tryz.prog 91 = some 8 := by kernel_rfl
theorem s93 : tsize Tryz.prog 93 = some 3 := by kernel_rfl
theorem s94 : tsize Tryz.prog 94 = some 3 := by kernel_rfl
theorem s104 : tsize Tryz.prog 104 = some 1 := by kernel_rfl
theorem s126 : tsize Tryz.prog 126 = some 1 := by kernel_rfl
theorem s128 : tsize Tryz.prog 128 = some 2 := by kernel_rfl
theorem s148 : tsize Tryz.prog 148 = some 2 := by kernel_rfl
theorem s167 : tsize Tryz.prog 167 = some 3 := by kernel_rfl
theorem s172 : tsize Tryz.prog 172 = some 1 := by kernel_rfl
theorem u3 : Tryz.prog.underlying 3 = some (.int .i64) := by kernel_rfl
theorem u4 : Tryz.prog.underlying 4 = some (.bool) := by kernel_rfl
theorem z3 : tzero Tryz.prog 3 = some ((.int .i64 0)) := by kernel_rfl
theorem z4 : tzero Tryz.prog 4 = some ((.bool false)) := by kernel_rfl
theorem z24 : tzero Tryz.prog 24 = some ((.agg #[(.slice none 0 0), (.int .i64 0)])) := by kernel_rfl
theorem z26 : tzero Tryz.prog 26 = some ((.agg #[(.slice none 0 0), (.int .i64 0), (.int .i64 0)])) := by kernel_rfl
theorem z27 : tzero Tryz.prog 27 = some ((.slice none 0 0)) := by kernel_rfl
theorem z28 : tzero Tryz.prog 28 = some ((.slice none 0 0)) := by kernel_rfl
theorem z34 : tzero Tryz.prog 34 = some ((.agg #[(.slice none 0 0), (.int .i64 0), (.int .i64 0)])) := by kernel_rfl
theorem z49 : tzero Tryz.prog 49 = some ((.slice none 0 0)) := by kernel_rfl
theorem z52 : tzero Tryz.prog 52 = some ((.agg #[(.int .i64 0), (.int .i64 0)])) := by kernel_rfl
theorem z54 : tzero Tryz.prog 54 = some ((.int .i64 0)) := by kernel_rfl
theorem z67 : tzero Tryz.prog 67 = some ((.agg #[(.int .i64 0), (.int .i64 0), (.int .i64 0), (.int .i64 0), (.bool false), (.slice none 0 0)])) := by kernel_rfl
theorem z73 : tzero Tryz.prog 73 = some ((.agg #[(.int .i64 0), (.int .i64 0), (.int .i64 0), (.int .i64 0), (.bool false), (.slice none 0 0)])) := by kernel_rfl
theorem z80 : tzero Tryz.prog 80 = some ((.agg #[(.int .i64 0), (.int .i64 0)])) := by kernel_rfl
theorem z88 : tzero Tryz.prog 88 = some ((.agg #[(.int .i64 0), (.int .i64 0), (.int .i64 0), (.int .i64 0), (.int .i64 0), (.int .i64 0), (.bool false), (.slice none 0 0)])) := by kernel_rfl
theorem z91 : tzero Tryz.prog 91 = some ((.agg #[(.int .i64 0), (.int .i64 0), (.int .i64 0), (.int .i64 0), (.int .i64 0), (.int .i64 0), (.bool false), (.slice none 0 0)])) := by kernel_rfl
theorem z93 : tzero Tryz.prog 93 = some ((.agg #[(.int .i64 0), (.int .i64 0), (.int .i64 0)])) := by kernel_rfl
theorem z94 : tzero Tryz.prog 94 = some ((.agg #[(.int .i64 0), (.int .i64 0), (.int .i64 0)])) := by kernel_rfl
theorem z104 : tzero Tryz.prog 104 = some ((.map none)) := by kernel_rfl
theorem z128 : tzero Tryz.prog 128 = some ((.agg #[(.slice none 0 0), (.int .i64 0)])) := by kernel_rfl
theorem z148 : tzero Tryz.prog 148 = some ((.agg #[(.slice none 0 0), (.int .i64 0)])) := by kernel_rfl
theorem z167 : tzero Tryz.prog 167 = some ((.agg #[(.int .i64 0), (.int .i64 0), (.int .i64 0)])) := by kernel_rfl
theorem z172 : tzero Tryz.prog 172 = some ((.map none)) := by kernel_rfl
theorem mix : Tryz.prog.follows .mixedOrders = true := by kernel_rfl
end Ty
theorem sortAt : SortAt Tryz.prog (Tryz.sortF_ren.f 6) := sortAt_of Tryz.sortF
theorem w12_small_ok {a0 : store_Store} {r : Bool} (h : w12_small a0 = some r) : PCalls Tryz.prog 57 [store_Store.Pv a0] (.bool r) := by
 unfold w12_small at h
 refine pc_intro (N := 31) Tryz.func57 rfl rfl nl fun w0 imm0 => sR <| y1 rfl (o_box (d := store_Store.Pv a0) (z := 3) (cl := true) rfl rfl rfl rfl rfl) rfl <| y0 rfl (o_assign (d := .bool false) rfl) <| y_nil ?_
 obtain ⟨κ5, hκ5, h⟩ := jnE h
 refine pw_jn0 (κ := κ5) (r := r) (fun (_ : Unit) => St.of [(1, .ptr 1 0 0)] [(1, ⟨[store_Store.Pv a0], 0, false, 3, true⟩)]) (fun q6 h => ?_) ?_
 ·subst hκ5
  refine sR <| y0 rfl (o_fieldAddrP (k := 0) rfl Ty.f26_0 rfl) <| y0 rfl (o_fieldAddrP (k := 0) rfl Ty.f24_0 rfl) <| y0 rfl (o_loadS rfl rfl rfl Ty.a22 rfl) <| y0 rfl (o_lnL (f := slab_Cell_store_Obj.Pv) rfl Ty.e22) <| y0 rfl (o_cmp rfl rfl rfl) <| y0 rfl (o_assign (d := .bool (decide ((a0.S.Cells.length : Int) ≤ 30))) rfl) <| y_nil ?_
  refine pw_ret ?_
  obtain rfl := Option.some.inj h
  exact ⟨rfl, [_], ⟨rfl, trivial⟩, rfl, io⟩
 ·skip
  refine sR <| y0 rfl (o_assign (d := .int .i64 0) rfl) <| y_nil <| pw_block ?_
  obtain ⟨e7, hl6, hk7⟩ := bindE h
  refine pw_lp0 (fun (s8 : Int) => St.of [(1, .ptr 1 0 0), (3, .int .i64 s8)] [(1, ⟨[store_Store.Pv a0], 0, false, 3, true⟩)]) hl6 (wk_st _ _ ⟨rfl, rfl, rfl, rfl, rfl, rfl, trivial⟩ ⟨rS, trivial⟩) (fun s8 x9 h hx8 => ?_)
  refine pw_seq <| sR <| y0 rfl (o_move (d := .int .i64 s8) rfl) <| y0 rfl (o_fieldAddrP (k := 0) rfl Ty.f26_0 rfl) <| y0 rfl (o_fieldAddrP (k := 0) rfl Ty.f24_0 rfl) <| y0 rfl (o_loadS rfl rfl rfl Ty.a22 rfl) <| y0 rfl (o_lnL (f := slab_Cell_store_Obj.Pv) rfl Ty.e22) <| y0 rfl (o_cmp rfl rfl rfl) ?_
  refine y0 rfl (o_move (d := .bool (decide (s8 < (a0.S.Cells.length : Int)))) rfl) <| y_if (g := ((decide (s8 < (a0.S.Cells.length : Int))) == true)) rfl (fun hg => o_move (d := .int .i64 s8) rfl) <| y_if (g := ((decide (s8 < (a0.S.Cells.length : Int))) == true)) rfl (fun hg => o_cmp (ct hg) rfl rfl) <| y0 rfl (pk_and rfl rfl rfl (fun q => eqT q)) <| y_nil ?_
  refine pw_cond ((decide (s8 < (a0.S.Cells.length : Int))) && (decide (s8 < 30))) rfl (fun hc => ?_) (fun hc => ?_)
  ·have h := ifT h hc
   refine pw_skip <| pw_seq <| pw_block <| sR <| y0 rfl (o_fieldAddrP (k := 0) rfl Ty.f26_0 rfl) <| y0 rfl (o_fieldAddrP (k := 0) rfl Ty.f24_0 rfl) <| y0 rfl (o_loadS rfl rfl rfl Ty.a22 rfl) <| y0 rfl (o_move (d := .int .i64 s8) rfl) ?_
   obtain ⟨v10, hv9, h⟩ := bindE h
   refine y0 rfl (o_ixL (f := slab_Cell_store_Obj.Pv) (cs := slab_Cell_store_Obj.Pc v10) hv9 rfl rfl Ty.e22 Ty.s88 rfl rfl) <| y0 rfl (o_fieldAddrR rfl Ty.f88_2 rfl) <| y0 rfl (o_fieldAddrR rfl Ty.f73_5 rfl) <| y0 rfl (o_loadRS rfl Ty.a28 rfl) <| y0 rfl (o_lnL (f := (PV.int .i64)) rfl Ty.e28) <| y0 rfl (o_cmp rfl rfl rfl) <| y_nil ?_
   refine pw_cond (decide ((v10.Val.Fields.length : Int) > 10)) rfl (fun hc => ?_) (fun hc => ?_)
   ·have h := ifT h hc
    refine sR <| y0 rfl (o_assign (d := .bool false) rfl) <| y_nil <| pw_ret ?_
    have he := hx8 _ (Option.some.inj h).symm
    have h := hk7
    rw [← he] at h
    obtain rfl := Option.some.inj h
    exact ⟨rfl, [_], ⟨rfl, trivial⟩, rfl, io⟩
   ·have h := ifF h hc
    refine pw_skip <| sr1 (by kernel_rfl) <| y0 rfl (o_move (d := .int .i64 s8) rfl) <| y0 rfl (o_ari rfl rfl rfl) <| y0 rfl (o_assign (d := .int .i64 (w64 (s8 + 1))) rfl) <| y_nil ?_
    exact ⟨rfl, w64 (s8 + 1), (Option.some.inj h).symm, (wk_st _ _ ⟨rfl, rfl, rfl, rfl, rfl, rfl, trivial⟩ ⟨rS, trivial⟩)⟩
  ·have h := ifF h hc
   refine pw_exit <| thenQ_exit <| thenQ_exit <| blockQ_exit ?_
   have he := hx8 _ (Option.some.inj h).symm
   have h := hk7
   rw [← he] at h
   exact ⟨rfl, (), h, (wk_st _ _ ⟨rfl, rfl, rfl, trivial⟩ ⟨rS, trivial⟩)⟩

theorem w12_obj_ok {a0 : store_Obj} {r : r06_Obj} (h : w12_obj a0 = some r) : PCalls Tryz.prog 62 [store_Obj.Pv a0] (r06_Obj.Pv r) := by
 unfold w12_obj at h
 refine pc_intro (N := 16) Tryz.func62 rfl rfl nl fun w0 imm0 => sR <| y1 rfl (o_box (d := store_Obj.Pv a0) (z := 6) (cl := true) rfl rfl rfl rfl rfl) rfl <| y1 rfl (o_alloc (d := .agg [.int .i64 0, .int .i64 0, .int .i64 0, .int .i64 0, .bool false, .lst true (List.map (PV.int .i64) [])]) (z := 6) rfl Ty.z67 rfl rfl rfl) rfl <| y_nil <| sR <| y0 rfl (o_fieldAddrP (k := 0) rfl Ty.f73_0 rfl) <| y0 rfl (o_loadS rfl rfl rfl Ty.a3 rfl) ?_
 refine y0 rfl (o_fieldAddrP (k := 1) rfl Ty.f73_1 rfl) <| y0 rfl (o_loadS rfl rfl rfl Ty.a3 rfl) <| y0 rfl (o_fieldAddrP (k := 2) rfl Ty.f73_2 rfl) <| y0 rfl (o_loadS rfl rfl rfl Ty.a3 rfl) <| y0 rfl (o_fieldAddrP (k := 3) rfl Ty.f73_3 rfl) <| y0 rfl (o_loadS rfl rfl rfl Ty.a3 rfl) <| y0 rfl (o_fieldAddrP (k := 4) rfl Ty.f73_4 rfl) <| y0 rfl (o_loadS rfl rfl rfl Ty.a4 rfl) ?_
 refine y0 rfl (o_fieldAddrP (k := 5) rfl Ty.f73_5 rfl) <| y0 rfl (o_loadS rfl rfl rfl Ty.a28 rfl) <| y0 rfl (o_build (cs := [.int .i64 a0.Serial, .int .i64 a0.Strong, .int .i64 a0.Weak, .int .i64 a0.Prog, .bool a0.Started, .lst false (List.map (PV.int .i64) a0.Fields)]) rfl Ty.p67 Ty.z67 rfl rfl rfl) <| y_sto (x' := .agg [.int .i64 a0.Serial, .int .i64 a0.Strong, .int .i64 a0.Weak, .int .i64 a0.Prog, .bool a0.Started, .lst false (List.map (PV.int .i64) a0.Fields)]) (cl' := true) rfl rfl (.inr rfl) Ty.s67 <| y_nil <| pw_ret ?_
 obtain rfl := Option.some.inj h
 exact ⟨rfl, [_], ⟨o_loadA rfl rfl rfl Ty.a67 Ty.s67 nl rfl, trivial⟩, rfl, io⟩

theorem w12_its_ok {a0 : store_Store} {r : r06_Store} (h : w12_its a0 = some r) : PCalls Tryz.prog 16 [store_Store.Pv a0] (r06_Store.Pv r) := by
 unfold w12_its at h
 refine pc_intro (N := 39) Tryz.func16 rfl rfl nl fun w0 imm0 => sR <| y1 rfl (o_box (d := store_Store.Pv a0) (z := 3) (cl := true) rfl rfl rfl rfl rfl) rfl <| y1 rfl (o_alloc (d := .agg [.lst true (List.map r06_Cell.Pv []), .int .i64 0, .int .i64 0]) (z := 3) rfl Ty.z34 rfl rfl rfl) rfl <| y_nil <| sR <| y0 rfl (o_nslice rfl Ty.e32 Ty.s91) <| y0 rfl (o_assign (d := .lst true (List.map r06_Cell.Pv [])) rfl) ?_
 refine y_nil ?_
 obtain ⟨κ9, hκ7, h⟩ := jnE h
 refine pw_jn0 (κ := κ9) (r := r) (fun (j10 : List r06_Cell) => St.of [(1, .ptr 1 0 0), (2, .ptr 2 0 0), (3, .sl 910003)] [(910003, ⟨List.map r06_Cell.Pv j10, (List.map r06_Cell.Pv j10).length, true, 8, true⟩), (2, ⟨[.agg [.lst true (List.map r06_Cell.Pv []), .int .i64 0, .int .i64 0]], 0, false, 3, true⟩), (1, ⟨[store_Store.Pv a0], 0, false, 3, true⟩)]) (fun j10 h => ?_) ?_
 ·subst hκ7
  refine sR <| y0 rfl (o_move (d := .sl 910003) rfl) <| y0 rfl (o_fieldAddrP (k := 0) rfl Ty.f26_0 rfl) <| y0 rfl (o_fieldAddrP (k := 1) rfl Ty.f24_1 rfl) <| y0 rfl (o_loadS rfl rfl rfl Ty.a3 rfl) <| y0 rfl (o_fieldAddrP (k := 2) rfl Ty.f26_1 rfl) <| y0 rfl (o_loadS rfl rfl rfl Ty.a3 rfl) <| y0 rfl (o_build (cs := [.sl 910003, .int .i64 a0.S.Last, .int .i64 a0.Serial]) rfl Ty.p34 Ty.z34 rfl rfl rfl) ?_
  refine y_sto (x' := .agg [.sl 910003, .int .i64 a0.S.Last, .int .i64 a0.Serial]) (cl' := false) rfl rfl (.inl rfl) Ty.s34 <| y_nil <| pw_ret ?_
  obtain rfl := Option.some.inj h
  exact ⟨rfl, [_], ⟨o_loadA rfl rfl rfl Ty.a34 Ty.s34 nl rfl, trivial⟩, rfl, io⟩
 ·skip
  refine sR <| y0 rfl (o_assign (d := .int .i64 0) rfl) <| y_nil <| pw_block ?_
  obtain ⟨e11, hl8, hk9⟩ := bindE h
  refine pw_lp0 (fun (q : Int × (List r06_Cell)) => St.of [(1, .ptr 1 0 0), (2, .ptr 2 0 0), (3, .sl 910003), (4, .int .i64 q.1)] [(2, ⟨[.agg [.lst true (List.map r06_Cell.Pv []), .int .i64 0, .int .i64 0]], 0, false, 3, true⟩), (1, ⟨[store_Store.Pv a0], 0, false, 3, true⟩), (910003, ⟨List.map r06_Cell.Pv q.2, (List.map r06_Cell.Pv q.2).length, true, 8, true⟩)]) hl8 (Wk.trans (wk_nil (t := 3) (l := 920003) (z := 8) rfl rfl) (wk_stP (fun l => if l = 910003 then 920003 else l) _ _ ⟨rfl, rfl, rfl, rfl, rfl, rfl, rfl, rfl, rfl, rfl, rfl, rfl, trivial⟩ ⟨rN, rN, rN, trivial⟩ rfl)) (fun q15 x14 h hx10 => ?_)
  obtain ⟨s12, s13⟩ := q15
  refine pw_seq <| sR <| y0 rfl (o_move (d := .int .i64 s12) rfl) <| y0 rfl (o_fieldAddrP (k := 0) rfl Ty.f26_0 rfl) <| y0 rfl (o_fieldAddrP (k := 0) rfl Ty.f24_0 rfl) <| y0 rfl (o_loadS rfl rfl rfl Ty.a22 rfl) <| y0 rfl (o_lnL (f := slab_Cell_store_Obj.Pv) rfl Ty.e22) <| y0 rfl (o_cmp rfl rfl rfl) ?_
  refine y_nil ?_
  refine pw_cond (decide (s12 < (a0.S.Cells.length : Int))) rfl (fun hc => ?_) (fun hc => ?_)
  ·have h := ifT h hc
   refine pw_skip <| pw_seq <| pw_block <| sR <| y0 rfl (o_fieldAddrP (k := 0) rfl Ty.f26_0 rfl) <| y0 rfl (o_fieldAddrP (k := 0) rfl Ty.f24_0 rfl) <| y0 rfl (o_loadS rfl rfl rfl Ty.a22 rfl) <| y0 rfl (o_move (d := .int .i64 s12) rfl) ?_
   obtain ⟨v16, hv11, h⟩ := bindE h
   refine y0 rfl (o_ixL (f := slab_Cell_store_Obj.Pv) (cs := slab_Cell_store_Obj.Pc v16) hv11 rfl rfl Ty.e22 Ty.s88 rfl rfl) <| y0 rfl (o_loadRA (cs := slab_Cell_store_Obj.Pc v16) rfl Ty.a88 Ty.s88 nl rfl) <| y1 rfl (o_alloc (d := .agg [.int .i64 0, .int .i64 0, .int .i64 0, .int .i64 0, .int .i64 0, .int .i64 0, .bool false, .lst true (List.map (PV.int .i64) [])]) (z := 8) rfl Ty.z88 rfl rfl rfl) rfl <| y_sto (x' := slab_Cell_store_Obj.Pv v16) (cl' := true) rfl rfl (.inr rfl) Ty.s88 <| y_nil <| pw_drw [] Ty.mix (by kernel_rfl) (by kernel_rfl) <| d7 rfl (fun _ hN => o_move (d := .sl 910003) rfl) rfl <| d7 rfl (fun _ hN => o_fieldAddrP (k := 0) rfl Ty.f88_0 rfl) rfl ?_
   refine d0 rfl (o_loadS rfl rfl rfl Ty.a3 rfl) rfl <| d7 rfl (fun _ hN => o_fieldAddrP (k := 1) rfl Ty.f88_1 rfl) rfl <| d0 rfl (o_loadS rfl rfl rfl Ty.a3 rfl) rfl <| d7 rfl (fun _ hN => o_fieldAddrP (k := 2) rfl Ty.f88_2 rfl) rfl <| d0 rfl (o_loadA (cs := store_Obj.Pc v16.Val) rfl rfl rfl Ty.a73 Ty.s73 nl rfl) rfl ?_
   obtain ⟨v17, hv12, h⟩ := bindE h
   refine d2f rfl (o_callF (ls := []) (ds := [store_Obj.Pv v16.Val]) rfl Ty.k62 rfl (w12_obj_ok hv12)) rfl <| d7 rfl (fun _ hN => o_build (cs := [.int .i64 v16.State, .int .i64 v16.Gen, .int .i64 v17.Serial, .int .i64 v17.Strong, .int .i64 v17.Weak, .int .i64 v17.Prog, .bool v17.Started, .lst false (List.map (PV.int .i64) v17.Fields)]) rfl Ty.p91 Ty.z91 rfl rfl rfl) rfl <| d1n rfl (o_bI (f := r06_Cell.Pv) (l := [(⟨v16.State, v16.Gen, v17⟩ : r06_Cell)]) rfl Ty.e32 Ty.s91 Ty.z91 rfl rfl nl rfl rfl) rfl ?_
   obtain ⟨v18, hv13, h⟩ := bindE h
   refine d3a rfl (o_apR (f := r06_Cell.Pv) hv13 rfl rfl rfl rfl rfl rfl (.inl ⟨_, rfl, rfl⟩) Ty.e32 Ty.s91 Ty.b91 Ty.z91 rfl (fun _ => rfl)) rfl rfl rfl rfl rfl <| d7 rfl (fun _ hN => o_assign (d := .sl 31) rfl) rfl <| d_nil <| sr1 (by kernel_rfl) <| y0 rfl (o_move (d := .int .i64 s12) rfl) <| y0 rfl (o_ari rfl rfl rfl) <| y0 rfl (o_assign (d := .int .i64 (w64 (s12 + 1))) rfl) <| y_nil ?_
   exact ⟨rfl, (w64 (s12 + 1), v18), (Option.some.inj h).symm, (Wk.trans (wk_frz _ [31]) (wk_stP (fun l => if l = 910003 then 31 else l) _ _ ⟨rfl, rfl, rfl, rfl, rfl, rfl, rfl, rfl, rfl, rfl, rfl, rfl, trivial⟩ ⟨rN, rN, rN, trivial⟩ rfl))⟩
  ·have h := ifF h hc
   refine pw_exit <| thenQ_exit <| thenQ_exit <| blockQ_exit ?_
   have he := hx10 _ (Option.some.inj h).symm
   have h := hk9
   rw [← he] at h
   exact ⟨rfl, s13, h, (Wk.trans (wk_frz _ [910003]) (wk_st _ _ ⟨rfl, rfl, rfl, rfl, rfl, rfl, rfl, rfl, rfl, trivial⟩ ⟨rS, rS, rS, trivial⟩))⟩

theorem r06_Plain_ok {a0 : r06_Store} {r : r03_Slab} (h : r06_Plain a0 = some r) : PCalls Tryz.prog 98 [r06_Store.Pv a0] (r03_Slab.Pv r) := by
 unfold r06_Plain at h
 refine pc_intro (N := 35) Tryz.func98 rfl rfl nl fun w0 imm0 => sR <| y1 rfl (o_box (d := r06_Store.Pv a0) (z := 3) (cl := true) rfl rfl rfl rfl rfl) rfl <| y1 rfl (o_alloc (d := .agg [.lst true (List.map r03_Cell.Pv []), .int .i64 0]) (z := 2) rfl Ty.z128 rfl rfl rfl) rfl <| y_nil <| sR <| y0 rfl (o_fieldAddrP (k := 1) rfl Ty.f34_1 rfl) <| y0 rfl (o_loadS rfl rfl rfl Ty.a3 rfl) ?_
 refine y0 rfl (o_build (cs := [.lst true (List.map r03_Cell.Pv []), .int .i64 a0.Last]) rfl Ty.p128 Ty.z128 rfl rfl rfl) <| y1 rfl (o_alloc (d := .agg [.lst true (List.map r03_Cell.Pv []), .int .i64 0]) (z := 2) rfl Ty.z128 rfl rfl rfl) rfl <| y_sto (x' := .agg [.lst true (List.map r03_Cell.Pv []), .int .i64 a0.Last]) (cl' := true) rfl rfl (.inl rfl) Ty.s128 <| y_nil ?_
 obtain ⟨κ8, hκ6, h⟩ := jnE h
 refine pw_jn0 (κ := κ8) (r := r) (fun (j9 : List r03_Cell) => St.of [(2, .ptr 2 0 0), (3, .ptr 3 0 0)] [(3, ⟨[.agg [.sl 910503, .int .i64 a0.Last]], 0, false, 2, false⟩), (910503, ⟨List.map r03_Cell.Pv j9, (List.map r03_Cell.Pv j9).length, true, 3, true⟩), (2, ⟨[.agg [.lst true (List.map r03_Cell.Pv []), .int .i64 0]], 0, false, 2, true⟩)]) (fun j9 h => ?_) ?_
 ·subst hκ6
  refine sR <| y0 rfl (o_loadA (cs := [.sl 910503, .int .i64 a0.Last]) rfl rfl rfl Ty.a128 Ty.s128 nl rfl) <| y_sto (x' := .agg [.sl 910503, .int .i64 a0.Last]) (cl' := false) rfl rfl (.inl rfl) Ty.s128 <| y_nil <| pw_ret ?_
  obtain rfl := Option.some.inj h
  exact ⟨rfl, [_], ⟨o_loadA rfl rfl rfl Ty.a128 Ty.s128 nl rfl, trivial⟩, rfl, io⟩
 ·skip
  refine sR <| y0 rfl (o_assign (d := .int .i64 0) rfl) <| y_nil <| pw_block ?_
  obtain ⟨e10, hl7, hk8⟩ := bindE h
  refine pw_lp0 (fun (q : Int × (List r03_Cell)) => St.of [(1, .ptr 1 0 0), (2, .ptr 2 0 0), (3, .ptr 3 0 0), (4, .int .i64 q.1)] [(3, ⟨[.agg [.sl 910503, .int .i64 a0.Last]], 0, false, 2, false⟩), (2, ⟨[.agg [.lst true (List.map r03_Cell.Pv []), .int .i64 0]], 0, false, 2, true⟩), (1, ⟨[r06_Store.Pv a0], 0, false, 3, true⟩), (910503, ⟨List.map r03_Cell.Pv q.2, (List.map r03_Cell.Pv q.2).length, true, 3, true⟩)]) hl7 (Wk.trans (wk_nilC (l0 := 3) (j := 0) (l := 920503) (z := 3) rfl rfl rfl rfl rfl) (wk_stP (fun l => if l = 910503 then 920503 else l) _ _ ⟨rfl, rfl, rfl, rfl, rfl, rfl, rfl, rfl, rfl, rfl, rfl, rfl, trivial⟩ ⟨rowLe_open rfl rfl rfl (fun q => nomatch q) rfl rfl rfl rfl, rN, rN, rN, trivial⟩ rfl)) (fun q14 x13 h hx9 => ?_)
  obtain ⟨s11, s12⟩ := q14
  refine pw_seq <| sR <| y0 rfl (o_move (d := .int .i64 s11) rfl) <| y0 rfl (o_fieldAddrP (k := 0) rfl Ty.f34_0 rfl) <| y0 rfl (o_loadS rfl rfl rfl Ty.a32 rfl) <| y0 rfl (o_lnL (f := r06_Cell.Pv) rfl Ty.e32) <| y0 rfl (o_cmp rfl rfl rfl) <| y_nil ?_
  refine pw_cond (decide (s11 < (a0.Cells.length : Int))) rfl (fun hc => ?_) (fun hc => ?_)
  ·have h := ifT h hc
   refine pw_skip <| pw_seq <| pw_block <| pw_drw [] Ty.mix (by kernel_rfl) (by kernel_rfl) <| d7 rfl (fun _ hN => o_fieldAddrP (k := 0) rfl Ty.f128_0 rfl) rfl <| d0 rfl (o_loadS rfl rfl rfl Ty.a126 rfl) rfl <| d7 rfl (fun _ hN => o_fieldAddrP (k := 0) rfl Ty.f34_0 rfl) rfl <| d0 rfl (o_loadS rfl rfl rfl Ty.a32 rfl) rfl ?_
   refine d7 rfl (fun _ hN => o_move (d := .int .i64 s11) rfl) rfl ?_
   obtain ⟨v15, hv10, h⟩ := bindE h
   refine d0 rfl (o_ixL (f := r06_Cell.Pv) (cs := r06_Cell.Pc v15) hv10 rfl rfl Ty.e32 Ty.s91 rfl rfl) rfl <| d7 rfl (fun _ hN => o_fieldAddrR rfl Ty.f91_0 rfl) rfl <| d0 rfl (o_loadRS rfl Ty.a3 rfl) rfl <| d7 rfl (fun _ hN => o_fieldAddrP (k := 0) rfl Ty.f34_0 rfl) rfl <| d0 rfl (o_loadS rfl rfl rfl Ty.a32 rfl) rfl <| d7 rfl (fun _ hN => o_move (d := .int .i64 s11) rfl) rfl <| d0 rfl (o_ixL (f := r06_Cell.Pv) (cs := r06_Cell.Pc v15) hv10 rfl rfl Ty.e32 Ty.s91 rfl rfl) rfl <| d7 rfl (fun _ hN => o_fieldAddrR rfl Ty.f91_1 rfl) rfl ?_
   refine d0 rfl (o_loadRS rfl Ty.a3 rfl) rfl <| d7 rfl (fun _ hN => o_move (d := .int .i64 s11) rfl) rfl <| d7 rfl (fun _ hN => o_build (cs := [.int .i64 v15.State, .int .i64 v15.Gen, .int .i64 s11]) rfl Ty.p167 Ty.z167 rfl rfl rfl) rfl <| d1n rfl (o_bI (f := r03_Cell.Pv) (l := [(⟨v15.State, v15.Gen, s11⟩ : r03_Cell)]) rfl Ty.e126 Ty.s167 Ty.z167 rfl rfl nl rfl rfl) rfl ?_
   obtain ⟨v16, hv11, h⟩ := bindE h
   refine d3a rfl (o_apR (f := r03_Cell.Pv) hv11 rfl rfl rfl rfl rfl rfl (.inl ⟨_, rfl, rfl⟩) Ty.e126 Ty.s167 Ty.b167 Ty.z167 rfl (fun _ => rfl)) rfl rfl rfl rfl rfl <| d7 rfl (fun _ hN => o_fieldAddrP (k := 0) rfl Ty.f128_0 rfl) rfl <| d_sto (x' := .agg [.sl 32, .int .i64 a0.Last]) (cl' := false) rfl rfl (.inl rfl) Ty.s126 <| d_nil <| sr1 (by kernel_rfl) <| y0 rfl (o_move (d := .int .i64 s11) rfl) <| y0 rfl (o_ari rfl rfl rfl) <| y0 rfl (o_assign (d := .int .i64 (w64 (s11 + 1))) rfl) ?_
   refine y_nil ?_
   exact ⟨rfl, (w64 (s11 + 1), v16), (Option.some.inj h).symm, (Wk.trans (wk_frz _ [32]) (wk_stP (fun l => if l = 910503 then 32 else l) _ _ ⟨rfl, rfl, rfl, rfl, rfl, rfl, rfl, rfl, rfl, rfl, rfl, rfl, trivial⟩ ⟨rowLe_open rfl rfl rfl (fun q => nomatch q) rfl rfl rfl rfl, rN, rN, rN, trivial⟩ rfl))⟩
  ·have h := ifF h hc
   refine pw_exit <| thenQ_exit <| thenQ_exit <| blockQ_exit ?_
   have he := hx9 _ (Option.some.inj h).symm
   have h := hk8
   rw [← he] at h
   exact ⟨rfl, s12, h, (Wk.trans (wk_frz _ [910503]) (wk_st _ _ ⟨rfl, rfl, rfl, rfl, rfl, rfl, trivial⟩ ⟨rowLe_open rfl rfl rfl (fun q => nomatch q) rfl rfl rfl rfl, rS, rS, trivial⟩))⟩

theorem r03_Right_ok {a0 : r03_Slab} {r : Bool} (h : r03_Right a0 = some r) : PCalls Tryz.prog 104 [r03_Slab.Pv a0] (.bool r) := by
 unfold r03_Right at h
 refine pc_intro (N := 51) Tryz.func104 rfl rfl nl fun w0 imm0 => sR <| y1 rfl (o_box (d := r03_Slab.Pv a0) (z := 2) (cl := true) rfl rfl rfl rfl rfl) rfl <| y0 rfl (o_assign (d := .bool false) rfl) <| y_nil <| pw_seq <| sR <| y0 rfl (o_fieldAddrP (k := 0) rfl Ty.f128_0 rfl) ?_
 refine y0 rfl (o_loadS rfl rfl rfl Ty.a126 rfl) <| y0 rfl (o_lnL (f := r03_Cell.Pv) rfl Ty.e126) <| y0 rfl (o_cmp rfl rfl rfl) <| y0 rfl (o_move (d := .bool (decide ((a0.Cells.length : Int) > 24))) rfl) <| y_if (g := ((decide ((a0.Cells.length : Int) > 24)) == false)) rfl (fun hg => o_fieldAddrP (k := 1) rfl Ty.f128_1 rfl) <| y_if (g := ((decide ((a0.Cells.length : Int) > 24)) == false)) rfl (fun hg => o_loadS (ct hg) rfl rfl Ty.a3 rfl) <| y_if (g := ((decide ((a0.Cells.length : Int) > 24)) == false)) rfl (fun hg => o_cmp (ct hg) rfl rfl) <| y0 rfl (pk_or rfl rfl rfl (fun q => eqF q)) ?_
 refine y0 rfl (o_move (d := .bool ((decide ((a0.Cells.length : Int) > 24)) || (decide (a0.Last < 0)))) rfl) <| y_if (g := (((decide ((a0.Cells.length : Int) > 24)) || (decide (a0.Last < 0))) == false)) rfl (fun hg => o_fieldAddrP (k := 1) rfl Ty.f128_1 rfl) <| y_if (g := (((decide ((a0.Cells.length : Int) > 24)) || (decide (a0.Last < 0))) == false)) rfl (fun hg => o_loadS (ct hg) rfl rfl Ty.a3 rfl) <| y_if (g := (((decide ((a0.Cells.length : Int) > 24)) || (decide (a0.Last < 0))) == false)) rfl (fun hg => o_cmp (ct hg) rfl rfl) <| y0 rfl (pk_or rfl rfl rfl (fun q => eqF q)) <| y_nil ?_
 refine pw_cond (((decide ((a0.Cells.length : Int) > 24)) || (decide (a0.Last < 0))) || (decide (a0.Last > 9))) rfl (fun hc => ?_) (fun hc => ?_)
 ·have h := ifT h hc
  refine sR <| y0 rfl (o_assign (d := .bool false) rfl) <| y_nil <| pw_ret ?_
  obtain rfl := Option.some.inj h
  exact ⟨rfl, [_], ⟨rfl, trivial⟩, rfl, io⟩
 ·have h := ifF h hc
  refine pw_skip ?_
  obtain ⟨κ5, hκ5, h⟩ := jnE h
  refine pw_jn0 (κ := κ5) (r := r) (fun (_ : Unit) => St.of [] []) (fun q6 h => ?_) ?_
  ·subst hκ5
   refine sR <| y0 rfl (o_assign (d := .bool true) rfl) <| y_nil <| pw_ret ?_
   obtain rfl := Option.some.inj h
   exact ⟨rfl, [_], ⟨rfl, trivial⟩, rfl, io⟩
  ·skip
   refine sR <| y0 rfl (o_assign (d := .int .i64 0) rfl) <| y_nil <| pw_block ?_
   obtain ⟨e7, hl6, hk7⟩ := bindE h
   refine pw_lp0 (fun (s8 : Int) => St.of [(1, .ptr 1 0 0), (3, .int .i64 s8)] [(1, ⟨[r03_Slab.Pv a0], 0, false, 2, true⟩)]) hl6 (wk_st _ _ ⟨rfl, rfl, rfl, rfl, rfl, rfl, trivial⟩ ⟨rS, trivial⟩) (fun s8 x9 h hx8 => ?_)
   refine pw_seq <| sR <| y0 rfl (o_move (d := .int .i64 s8) rfl) <| y0 rfl (o_fieldAddrP (k := 0) rfl Ty.f128_0 rfl) <| y0 rfl (o_loadS rfl rfl rfl Ty.a126 rfl) <| y0 rfl (o_lnL (f := r03_Cell.Pv) rfl Ty.e126) <| y0 rfl (o_cmp rfl rfl rfl) <| y_nil ?_
   refine pw_cond (decide (s8 < (a0.Cells.length : Int))) rfl (fun hc => ?_) (fun hc => ?_)
   ·have h := ifT h hc
    refine pw_skip <| pw_seq <| pw_block <| sR <| y0 rfl (o_fieldAddrP (k := 0) rfl Ty.f128_0 rfl) <| y0 rfl (o_loadS rfl rfl rfl Ty.a126 rfl) <| y0 rfl (o_move (d := .int .i64 s8) rfl) ?_
    obtain ⟨v10, hv9, h⟩ := bindE h
    refine y0 rfl (o_ixL (f := r03_Cell.Pv) (cs := r03_Cell.Pc v10) hv9 rfl rfl Ty.e126 Ty.s167 rfl rfl) <| y0 rfl (o_loadRA (cs := r03_Cell.Pc v10) rfl Ty.a167 Ty.s167 nl rfl) <| y1 rfl (o_alloc (d := .agg [.int .i64 0, .int .i64 0, .int .i64 0]) (z := 3) rfl Ty.z167 rfl rfl rfl) rfl <| y_sto (x' := r03_Cell.Pv v10) (cl' := true) rfl rfl (.inl rfl) Ty.s167 <| y_nil <| sR <| y0 rfl (o_fieldAddrP (k := 0) rfl Ty.f167_0 rfl) <| y0 rfl (o_loadS rfl rfl rfl Ty.a3 rfl) ?_
    refine y0 rfl (o_cmp rfl rfl rfl) <| y0 rfl (o_move (d := .bool (decide (v10.State < 0))) rfl) <| y_if (g := ((decide (v10.State < 0)) == false)) rfl (fun hg => o_fieldAddrP (k := 0) rfl Ty.f167_0 rfl) <| y_if (g := ((decide (v10.State < 0)) == false)) rfl (fun hg => o_loadS (ct hg) rfl rfl Ty.a3 rfl) <| y_if (g := ((decide (v10.State < 0)) == false)) rfl (fun hg => o_cmp (ct hg) rfl rfl) <| y0 rfl (pk_or rfl rfl rfl (fun q => eqF q)) <| y0 rfl (o_move (d := .bool ((decide (v10.State < 0)) || (decide (v10.State > 3)))) rfl) <| y_if (g := (((decide (v10.State < 0)) || (decide (v10.State > 3))) == false)) rfl (fun hg => o_fieldAddrP (k := 1) rfl Ty.f167_1 rfl) ?_
    refine y_if (g := (((decide (v10.State < 0)) || (decide (v10.State > 3))) == false)) rfl (fun hg => o_loadS (ct hg) rfl rfl Ty.a3 rfl) <| y_if (g := (((decide (v10.State < 0)) || (decide (v10.State > 3))) == false)) rfl (fun hg => o_cmp (ct hg) rfl rfl) <| y0 rfl (pk_or rfl rfl rfl (fun q => eqF q)) <| y0 rfl (o_move (d := .bool (((decide (v10.State < 0)) || (decide (v10.State > 3))) || (decide (v10.Gen < 0)))) rfl) <| y_if (g := ((((decide (v10.State < 0)) || (decide (v10.State > 3))) || (decide (v10.Gen < 0))) == false)) rfl (fun hg => o_fieldAddrP (k := 1) rfl Ty.f167_1 rfl) <| y_if (g := ((((decide (v10.State < 0)) || (decide (v10.State > 3))) || (decide (v10.Gen < 0))) == false)) rfl (fun hg => o_loadS (ct hg) rfl rfl Ty.a3 rfl) <| y_if (g := ((((decide (v10.State < 0)) || (decide (v10.State > 3))) || (decide (v10.Gen < 0))) == false)) rfl (fun hg => o_fieldAddrP (k := 1) rfl Ty.f128_1 rfl) <| y_if (g := ((((decide (v10.State < 0)) || (decide (v10.State > 3))) || (decide (v10.Gen < 0))) == false)) rfl (fun hg => o_loadS (ct hg) rfl rfl Ty.a3 rfl) ?_
    refine y_if (g := ((((decide (v10.State < 0)) || (decide (v10.State > 3))) || (decide (v10.Gen < 0))) == false)) rfl (fun hg => o_cmp (ct hg) (ct hg) rfl) <| y0 rfl (pk_or rfl rfl rfl (fun q => eqF q)) <| y_nil ?_
    refine pw_cond ((((decide (v10.State < 0)) || (decide (v10.State > 3))) || (decide (v10.Gen < 0))) || (decide (v10.Gen > a0.Last))) rfl (fun hc => ?_) (fun hc => ?_)
    ·have h := ifT h hc
     refine sR <| y0 rfl (o_assign (d := .bool false) rfl) <| y_nil <| pw_ret ?_
     have he := hx8 _ (Option.some.inj h).symm
     have h := hk7
     rw [← he] at h
     obtain rfl := Option.some.inj h
     exact ⟨rfl, [_], ⟨rfl, trivial⟩, rfl, io⟩
    ·have h := ifF h hc
     refine pw_skip <| sr1 (by kernel_rfl) <| y0 rfl (o_move (d := .int .i64 s8) rfl) <| y0 rfl (o_ari rfl rfl rfl) <| y0 rfl (o_assign (d := .int .i64 (w64 (s8 + 1))) rfl) <| y_nil ?_
     exact ⟨rfl, w64 (s8 + 1), (Option.some.inj h).symm, (wk_st _ _ ⟨rfl, rfl, rfl, rfl, rfl, rfl, trivial⟩ ⟨rS, trivial⟩)⟩
   ·have h := ifF h hc
    refine pw_exit <| thenQ_exit <| thenQ_exit <| blockQ_exit ?_
    have he := hx8 _ (Option.some.inj h).symm
    have h := hk7
    rw [← he] at h
    exact ⟨rfl, (), h, (wk_st _ _ trivial trivial)⟩

theorem r06_there_ok {a0 : r06_Cell} {r : Bool} (h : r06_there a0 = some r) : PCalls Tryz.prog 105 [r06_Cell.Pv a0] (.bool r) := by
 unfold r06_there at h
 refine pc_intro (N := 11) Tryz.func105 rfl rfl nl fun w0 imm0 => sR <| y1 rfl (o_box (d := r06_Cell.Pv a0) (z := 8) (cl := true) rfl rfl rfl rfl rfl) rfl <| y0 rfl (o_assign (d := .bool false) rfl) <| y_nil <| sR <| y0 rfl (o_fieldAddrP (k := 0) rfl Ty.f91_0 rfl) <| y0 rfl (o_loadS rfl rfl rfl Ty.a3 rfl) ?_
 refine y0 rfl (o_cmp rfl rfl rfl) <| y0 rfl (o_move (d := .bool (a0.State == 1)) rfl) <| y_if (g := ((a0.State == 1) == false)) rfl (fun hg => o_fieldAddrP (k := 0) rfl Ty.f91_0 rfl) <| y_if (g := ((a0.State == 1) == false)) rfl (fun hg => o_loadS (ct hg) rfl rfl Ty.a3 rfl) <| y_if (g := ((a0.State == 1) == false)) rfl (fun hg => o_cmp (ct hg) rfl rfl) <| y0 rfl (pk_or rfl rfl rfl (fun q => eqF q)) <| y0 rfl (o_assign (d := .bool ((a0.State == 1) || (a0.State == 2))) rfl) <| y_nil ?_
 refine pw_ret ?_
 obtain rfl := Option.some.inj h
 exact ⟨rfl, [_], ⟨rfl, trivial⟩, rfl, io⟩

theorem r06_Right_ok {a0 : r06_Store} {r : Bool} (h : r06_Right a0 = some r) : PCalls Tryz.prog 58 [r06_Store.Pv a0] (.bool r) := by
 unfold r06_Right at h
 refine pc_intro (N := 120) Tryz.func58 rfl rfl nl fun w0 imm0 => sR <| y1 rfl (o_box (d := r06_Store.Pv a0) (z := 3) (cl := true) rfl rfl rfl rfl rfl) rfl <| y0 rfl (o_assign (d := .bool false) rfl) <| y_nil <| pw_seq <| sR <| y0 rfl (o_loadA (cs := r06_Store.Pc a0) rfl rfl rfl Ty.a34 Ty.s34 nl rfl) ?_
 obtain ⟨v1, hv1, h⟩ := bindE h
 refine yc rfl (o_callF (ls := []) (ds := [r06_Store.Pv a0]) rfl Ty.k98 rfl (r06_Plain_ok hv1)) ?_
 obtain ⟨v2, hv2, h⟩ := bindE h
 refine y0 rfl (o_call (ds := [r03_Slab.Pv v1]) rfl Ty.k104 rfl (r03_Right_ok hv2)) <| y0 rfl (o_not rfl rfl) <| y0 rfl (o_move (d := .bool (!v2)) rfl) <| y_if (g := ((!v2) == false)) rfl (fun hg => o_fieldAddrP (k := 2) rfl Ty.f34_2 rfl) <| y_if (g := ((!v2) == false)) rfl (fun hg => o_loadS (ct hg) rfl rfl Ty.a3 rfl) <| y_if (g := ((!v2) == false)) rfl (fun hg => o_cmp (ct hg) rfl rfl) <| y0 rfl (pk_or rfl rfl rfl (fun q => eqF q)) <| y_nil ?_
 refine pw_cond ((!v2) || (decide (a0.Serial < 0))) rfl (fun hc => ?_) (fun hc => ?_)
 ·have h := ifT h hc
  refine sR <| y0 rfl (o_assign (d := .bool false) rfl) <| y_nil <| pw_ret ?_
  obtain rfl := Option.some.inj h
  exact ⟨rfl, [_], ⟨rfl, trivial⟩, rfl, io⟩
 ·have h := ifF h hc
  refine pw_skip ?_
  obtain ⟨κ22, hκ21, h⟩ := jnE h
  refine pw_jn0 (κ := κ22) (r := r) (fun (_ : Unit) => St.of [] []) (fun q23 h => ?_) ?_
  ·subst hκ21
   refine sR <| y0 rfl (o_assign (d := .bool true) rfl) <| y_nil <| pw_ret ?_
   obtain rfl := Option.some.inj h
   exact ⟨rfl, [_], ⟨rfl, trivial⟩, rfl, io⟩
  ·skip
   refine sR <| y0 rfl (o_assign (d := .int .i64 0) rfl) <| y_nil <| pw_block ?_
   obtain ⟨e24, hl22, hk23⟩ := bindE h
   refine pw_lp0 (fun (s25 : Int) => St.of [(1, .ptr 1 0 0), (3, .int .i64 s25)] [(1, ⟨[r06_Store.Pv a0], 0, false, 3, true⟩)]) hl22 (wk_st _ _ ⟨rfl, rfl, rfl, rfl, rfl, rfl, trivial⟩ ⟨rS, trivial⟩) (fun s25 x26 h hx24 => ?_)
   refine pw_seq <| sR <| y0 rfl (o_move (d := .int .i64 s25) rfl) <| y0 rfl (o_fieldAddrP (k := 0) rfl Ty.f34_0 rfl) <| y0 rfl (o_loadS rfl rfl rfl Ty.a32 rfl) <| y0 rfl (o_lnL (f := r06_Cell.Pv) rfl Ty.e32) <| y0 rfl (o_cmp rfl rfl rfl) <| y_nil ?_
   refine pw_cond (decide (s25 < (a0.Cells.length : Int))) rfl (fun hc => ?_) (fun hc => ?_)
   ·have h := ifT h hc
    refine pw_skip ?_
    obtain ⟨κ34, hκ32, h⟩ := jnE h
    refine pw_jn0 (κ := κ34) (r := x26) (fun (_ : Unit) => St.of [(1, .ptr 1 0 0), (3, .int .i64 s25)] [(1, ⟨[r06_Store.Pv a0], 0, false, 3, true⟩)]) (fun q35 h => ?_) ?_
    ·subst hκ32
     refine sr1 (by kernel_rfl) <| y0 rfl (o_move (d := .int .i64 s25) rfl) <| y0 rfl (o_ari rfl rfl rfl) <| y0 rfl (o_assign (d := .int .i64 (w64 (s25 + 1))) rfl) <| y_nil ?_
     exact ⟨rfl, w64 (s25 + 1), (Option.some.inj h).symm, (wk_st _ _ ⟨rfl, rfl, rfl, rfl, rfl, rfl, trivial⟩ ⟨rS, trivial⟩)⟩
    ·skip
     refine pw_block <| sR <| y0 rfl (o_fieldAddrP (k := 0) rfl Ty.f34_0 rfl) <| y0 rfl (o_loadS rfl rfl rfl Ty.a32 rfl) <| y0 rfl (o_move (d := .int .i64 s25) rfl) ?_
     obtain ⟨v36, hv33, h⟩ := bindE h
     refine y0 rfl (o_ixL (f := r06_Cell.Pv) (cs := r06_Cell.Pc v36) hv33 rfl rfl Ty.e32 Ty.s91 rfl rfl) <| y0 rfl (o_loadRA (cs := r06_Cell.Pc v36) rfl Ty.a91 Ty.s91 nl rfl) <| y1 rfl (o_alloc (d := .agg [.int .i64 0, .int .i64 0, .int .i64 0, .int .i64 0, .int .i64 0, .int .i64 0, .bool false, .lst true (List.map (PV.int .i64) [])]) (z := 8) rfl Ty.z91 rfl rfl rfl) rfl <| y_sto (x' := r06_Cell.Pv v36) (cl' := true) rfl rfl (.inr rfl) Ty.s91 <| y_nil <| sR <| y0 rfl (o_fieldAddrP (k := 2) rfl Ty.f91_2 rfl) <| y0 rfl (o_loadA (cs := r06_Obj.Pc v36.Val) rfl rfl rfl Ty.a67 Ty.s67 nl rfl) ?_
     refine y1 rfl (o_alloc (d := .agg [.int .i64 0, .int .i64 0, .int .i64 0, .int .i64 0, .bool false, .lst true (List.map (PV.int .i64) [])]) (z := 6) rfl Ty.z67 rfl rfl rfl) rfl <| y_sto (x' := r06_Obj.Pv v36.Val) (cl' := true) rfl rfl (.inr rfl) Ty.s67 <| y_nil <| pw_seq <| sR <| y0 rfl (o_loadA (cs := r06_Cell.Pc v36) rfl rfl rfl Ty.a91 Ty.s91 nl rfl) ?_
     obtain ⟨v37, hv34, h⟩ := bindE h
     refine y0 rfl (o_call (ds := [r06_Cell.Pv v36]) rfl Ty.k105 rfl (r06_there_ok hv34)) <| y0 rfl (o_not rfl rfl) <| y_nil ?_
     refine pw_cond (!v37) rfl (fun hc => ?_) (fun hc => ?_)
     ·have h := ifT h hc
      refine pw_seq <| sR <| y0 rfl (o_fieldAddrP (k := 0) rfl Ty.f67_0 rfl) <| y0 rfl (o_loadS rfl rfl rfl Ty.a3 rfl) <| y0 rfl (o_cmp rfl rfl rfl) <| y0 rfl (o_move (d := .bool (v36.Val.Serial != 0)) rfl) <| y_if (g := ((v36.Val.Serial != 0) == false)) rfl (fun hg => o_fieldAddrP (k := 1) rfl Ty.f67_1 rfl) <| y_if (g := ((v36.Val.Serial != 0) == false)) rfl (fun hg => o_loadS (ct hg) rfl rfl Ty.a3 rfl) ?_
      refine y_if (g := ((v36.Val.Serial != 0) == false)) rfl (fun hg => o_cmp (ct hg) rfl rfl) <| y0 rfl (pk_or rfl rfl rfl (fun q => eqF q)) <| y0 rfl (o_move (d := .bool ((v36.Val.Serial != 0) || (v36.Val.Strong != 0))) rfl) <| y_if (g := (((v36.Val.Serial != 0) || (v36.Val.Strong != 0)) == false)) rfl (fun hg => o_fieldAddrP (k := 2) rfl Ty.f67_2 rfl) <| y_if (g := (((v36.Val.Serial != 0) || (v36.Val.Strong != 0)) == false)) rfl (fun hg => o_loadS (ct hg) rfl rfl Ty.a3 rfl) <| y_if (g := (((v36.Val.Serial != 0) || (v36.Val.Strong != 0)) == false)) rfl (fun hg => o_cmp (ct hg) rfl rfl) <| y0 rfl (pk_or rfl rfl rfl (fun q => eqF q)) <| y0 rfl (o_move (d := .bool (((v36.Val.Serial != 0) || (v36.Val.Strong != 0)) || (v36.Val.Weak != 0))) rfl) ?_
      refine y_if (g := ((((v36.Val.Serial != 0) || (v36.Val.Strong != 0)) || (v36.Val.Weak != 0)) == false)) rfl (fun hg => o_fieldAddrP (k := 3) rfl Ty.f67_3 rfl) <| y_if (g := ((((v36.Val.Serial != 0) || (v36.Val.Strong != 0)) || (v36.Val.Weak != 0)) == false)) rfl (fun hg => o_loadS (ct hg) rfl rfl Ty.a3 rfl) <| y_if (g := ((((v36.Val.Serial != 0) || (v36.Val.Strong != 0)) || (v36.Val.Weak != 0)) == false)) rfl (fun hg => o_cmp (ct hg) rfl rfl) <| y0 rfl (pk_or rfl rfl rfl (fun q => eqF q)) <| y0 rfl (o_move (d := .bool ((((v36.Val.Serial != 0) || (v36.Val.Strong != 0)) || (v36.Val.Weak != 0)) || (v36.Val.Prog != 0))) rfl) <| y_if (g := (((((v36.Val.Serial != 0) || (v36.Val.Strong != 0)) || (v36.Val.Weak != 0)) || (v36.Val.Prog != 0)) == false)) rfl (fun hg => o_fieldAddrP (k := 4) rfl Ty.f67_4 rfl) <| y_if (g := (((((v36.Val.Serial != 0) || (v36.Val.Strong != 0)) || (v36.Val.Weak != 0)) || (v36.Val.Prog != 0)) == false)) rfl (fun hg => o_loadS (ct hg) rfl rfl Ty.a4 rfl) <| y0 rfl (pk_or rfl rfl rfl (fun q => eqF q)) ?_
      refine y0 rfl (o_move (d := .bool (((((v36.Val.Serial != 0) || (v36.Val.Strong != 0)) || (v36.Val.Weak != 0)) || (v36.Val.Prog != 0)) || v36.Val.Started)) rfl) <| y_if (g := ((((((v36.Val.Serial != 0) || (v36.Val.Strong != 0)) || (v36.Val.Weak != 0)) || (v36.Val.Prog != 0)) || v36.Val.Started) == false)) rfl (fun hg => o_fieldAddrP (k := 5) rfl Ty.f67_5 rfl) <| y_if (g := ((((((v36.Val.Serial != 0) || (v36.Val.Strong != 0)) || (v36.Val.Weak != 0)) || (v36.Val.Prog != 0)) || v36.Val.Started) == false)) rfl (fun hg => o_loadS (ct hg) rfl rfl Ty.a28 rfl) <| y_if (g := ((((((v36.Val.Serial != 0) || (v36.Val.Strong != 0)) || (v36.Val.Weak != 0)) || (v36.Val.Prog != 0)) || v36.Val.Started) == false)) rfl (fun hg => o_lnL (f := (PV.int .i64)) (ct hg) Ty.e28) <| y_if (g := ((((((v36.Val.Serial != 0) || (v36.Val.Strong != 0)) || (v36.Val.Weak != 0)) || (v36.Val.Prog != 0)) || v36.Val.Started) == false)) rfl (fun hg => o_cmp (ct hg) rfl rfl) <| y0 rfl (pk_or rfl rfl rfl (fun q => eqF q)) <| y_nil ?_
      refine pw_cond ((((((v36.Val.Serial != 0) || (v36.Val.Strong != 0)) || (v36.Val.Weak != 0)) || (v36.Val.Prog != 0)) || v36.Val.Started) || ((v36.Val.Fields.length : Int) != 0)) rfl (fun hc => ?_) (fun hc => ?_)
      ·have h := ifT h hc
       refine sR <| y0 rfl (o_assign (d := .bool false) rfl) <| y_nil <| pw_ret ?_
       have he := hx24 _ (Option.some.inj h).symm
       have h := hk23
       rw [← he] at h
       obtain rfl := Option.some.inj h
       exact ⟨rfl, [_], ⟨rfl, trivial⟩, rfl, io⟩
      ·have h := ifF h hc
       refine pw_skip <| pw_exit <| thenQ_exit <| blockQ_exit ?_
       exact ⟨rfl, (), h, (wk_st _ _ ⟨rfl, rfl, rfl, rfl, rfl, rfl, trivial⟩ ⟨rS, trivial⟩)⟩
     ·have h := ifF h hc
      refine pw_skip <| pw_seq <| sR <| y0 rfl (o_fieldAddrP (k := 0) rfl Ty.f67_0 rfl) <| y0 rfl (o_loadS rfl rfl rfl Ty.a3 rfl) <| y0 rfl (o_cmp rfl rfl rfl) <| y0 rfl (o_move (d := .bool (decide (v36.Val.Serial < 1))) rfl) <| y_if (g := ((decide (v36.Val.Serial < 1)) == false)) rfl (fun hg => o_fieldAddrP (k := 0) rfl Ty.f67_0 rfl) ?_
      refine y_if (g := ((decide (v36.Val.Serial < 1)) == false)) rfl (fun hg => o_loadS (ct hg) rfl rfl Ty.a3 rfl) <| y_if (g := ((decide (v36.Val.Serial < 1)) == false)) rfl (fun hg => o_fieldAddrP (k := 2) rfl Ty.f34_2 rfl) <| y_if (g := ((decide (v36.Val.Serial < 1)) == false)) rfl (fun hg => o_loadS (ct hg) rfl rfl Ty.a3 rfl) <| y_if (g := ((decide (v36.Val.Serial < 1)) == false)) rfl (fun hg => o_cmp (ct hg) (ct hg) rfl) <| y0 rfl (pk_or rfl rfl rfl (fun q => eqF q)) <| y0 rfl (o_move (d := .bool ((decide (v36.Val.Serial < 1)) || (decide (v36.Val.Serial > a0.Serial)))) rfl) <| y_if (g := (((decide (v36.Val.Serial < 1)) || (decide (v36.Val.Serial > a0.Serial))) == false)) rfl (fun hg => o_fieldAddrP (k := 1) rfl Ty.f67_1 rfl) <| y_if (g := (((decide (v36.Val.Serial < 1)) || (decide (v36.Val.Serial > a0.Serial))) == false)) rfl (fun hg => o_loadS (ct hg) rfl rfl Ty.a3 rfl) ?_
      refine y_if (g := (((decide (v36.Val.Serial < 1)) || (decide (v36.Val.Serial > a0.Serial))) == false)) rfl (fun hg => o_cmp (ct hg) rfl rfl) <| y0 rfl (pk_or rfl rfl rfl (fun q => eqF q)) <| y0 rfl (o_move (d := .bool (((decide (v36.Val.Serial < 1)) || (decide (v36.Val.Serial > a0.Serial))) || (decide (v36.Val.Strong < 0)))) rfl) <| y_if (g := ((((decide (v36.Val.Serial < 1)) || (decide (v36.Val.Serial > a0.Serial))) || (decide (v36.Val.Strong < 0))) == false)) rfl (fun hg => o_fieldAddrP (k := 2) rfl Ty.f67_2 rfl) <| y_if (g := ((((decide (v36.Val.Serial < 1)) || (decide (v36.Val.Serial > a0.Serial))) || (decide (v36.Val.Strong < 0))) == false)) rfl (fun hg => o_loadS (ct hg) rfl rfl Ty.a3 rfl) <| y_if (g := ((((decide (v36.Val.Serial < 1)) || (decide (v36.Val.Serial > a0.Serial))) || (decide (v36.Val.Strong < 0))) == false)) rfl (fun hg => o_cmp (ct hg) rfl rfl) <| y0 rfl (pk_or rfl rfl rfl (fun q => eqF q)) <| y0 rfl (o_move (d := .bool ((((decide (v36.Val.Serial < 1)) || (decide (v36.Val.Serial > a0.Serial))) || (decide (v36.Val.Strong < 0))) || (decide (v36.Val.Weak < 0)))) rfl) ?_
      refine y_if (g := (((((decide (v36.Val.Serial < 1)) || (decide (v36.Val.Serial > a0.Serial))) || (decide (v36.Val.Strong < 0))) || (decide (v36.Val.Weak < 0))) == false)) rfl (fun hg => o_fieldAddrP (k := 3) rfl Ty.f67_3 rfl) <| y_if (g := (((((decide (v36.Val.Serial < 1)) || (decide (v36.Val.Serial > a0.Serial))) || (decide (v36.Val.Strong < 0))) || (decide (v36.Val.Weak < 0))) == false)) rfl (fun hg => o_loadS (ct hg) rfl rfl Ty.a3 rfl) <| y_if (g := (((((decide (v36.Val.Serial < 1)) || (decide (v36.Val.Serial > a0.Serial))) || (decide (v36.Val.Strong < 0))) || (decide (v36.Val.Weak < 0))) == false)) rfl (fun hg => o_cmp (ct hg) rfl rfl) <| y0 rfl (pk_or rfl rfl rfl (fun q => eqF q)) <| y0 rfl (o_move (d := .bool (((((decide (v36.Val.Serial < 1)) || (decide (v36.Val.Serial > a0.Serial))) || (decide (v36.Val.Strong < 0))) || (decide (v36.Val.Weak < 0))) || (decide (v36.Val.Prog < (-1))))) rfl) <| y_if (g := ((((((decide (v36.Val.Serial < 1)) || (decide (v36.Val.Serial > a0.Serial))) || (decide (v36.Val.Strong < 0))) || (decide (v36.Val.Weak < 0))) || (decide (v36.Val.Prog < (-1)))) == false)) rfl (fun hg => o_fieldAddrP (k := 3) rfl Ty.f67_3 rfl) <| y_if (g := ((((((decide (v36.Val.Serial < 1)) || (decide (v36.Val.Serial > a0.Serial))) || (decide (v36.Val.Strong < 0))) || (decide (v36.Val.Weak < 0))) || (decide (v36.Val.Prog < (-1)))) == false)) rfl (fun hg => o_loadS (ct hg) rfl rfl Ty.a3 rfl) <| y_if (g := ((((((decide (v36.Val.Serial < 1)) || (decide (v36.Val.Serial > a0.Serial))) || (decide (v36.Val.Strong < 0))) || (decide (v36.Val.Weak < 0))) || (decide (v36.Val.Prog < (-1)))) == false)) rfl (fun hg => o_cmp (ct hg) rfl rfl) ?_
      refine y0 rfl (pk_or rfl rfl rfl (fun q => eqF q)) <| y0 rfl (o_move (d := .bool ((((((decide (v36.Val.Serial < 1)) || (decide (v36.Val.Serial > a0.Serial))) || (decide (v36.Val.Strong < 0))) || (decide (v36.Val.Weak < 0))) || (decide (v36.Val.Prog < (-1)))) || (decide (v36.Val.Prog > 5)))) rfl) <| y_if (g := (((((((decide (v36.Val.Serial < 1)) || (decide (v36.Val.Serial > a0.Serial))) || (decide (v36.Val.Strong < 0))) || (decide (v36.Val.Weak < 0))) || (decide (v36.Val.Prog < (-1)))) || (decide (v36.Val.Prog > 5))) == false)) rfl (fun hg => o_fieldAddrP (k := 5) rfl Ty.f67_5 rfl) <| y_if (g := (((((((decide (v36.Val.Serial < 1)) || (decide (v36.Val.Serial > a0.Serial))) || (decide (v36.Val.Strong < 0))) || (decide (v36.Val.Weak < 0))) || (decide (v36.Val.Prog < (-1)))) || (decide (v36.Val.Prog > 5))) == false)) rfl (fun hg => o_loadS (ct hg) rfl rfl Ty.a28 rfl) <| y_if (g := (((((((decide (v36.Val.Serial < 1)) || (decide (v36.Val.Serial > a0.Serial))) || (decide (v36.Val.Strong < 0))) || (decide (v36.Val.Weak < 0))) || (decide (v36.Val.Prog < (-1)))) || (decide (v36.Val.Prog > 5))) == false)) rfl (fun hg => o_lnL (f := (PV.int .i64)) (ct hg) Ty.e28) <| y_if (g := (((((((decide (v36.Val.Serial < 1)) || (decide (v36.Val.Serial > a0.Serial))) || (decide (v36.Val.Strong < 0))) || (decide (v36.Val.Weak < 0))) || (decide (v36.Val.Prog < (-1)))) || (decide (v36.Val.Prog > 5))) == false)) rfl (fun hg => o_cmp (ct hg) rfl rfl) <| y0 rfl (pk_or rfl rfl rfl (fun q => eqF q)) <| y_nil ?_
      refine pw_cond (((((((decide (v36.Val.Serial < 1)) || (decide (v36.Val.Serial > a0.Serial))) || (decide (v36.Val.Strong < 0))) || (decide (v36.Val.Weak < 0))) || (decide (v36.Val.Prog < (-1)))) || (decide (v36.Val.Prog > 5))) || (decide ((v36.Val.Fields.length : Int) > 4))) rfl (fun hc => ?_) (fun hc => ?_)
      ·have h := ifT h hc
       refine sR <| y0 rfl (o_assign (d := .bool false) rfl) <| y_nil <| pw_ret ?_
       have he := hx24 _ (Option.some.inj h).symm
       have h := hk23
       rw [← he] at h
       obtain rfl := Option.some.inj h
       exact ⟨rfl, [_], ⟨rfl, trivial⟩, rfl, io⟩
      ·have h := ifF h hc
       refine pw_skip <| sR <| y0 rfl (o_assign (d := .int .i64 0) rfl) <| y_nil <| pw_block ?_
       obtain ⟨e38, hl35, hk36⟩ := bindE h
       refine pw_lp0 (fun (s39 : Int) => St.of [(1, .ptr 1 0 0), (3, .int .i64 s25), (5, .ptr 5 0 0), (6, .int .i64 s39)] [(5, ⟨[r06_Obj.Pv v36.Val], 0, false, 6, true⟩), (1, ⟨[r06_Store.Pv a0], 0, false, 3, true⟩)]) hl35 (wk_st _ _ ⟨rfl, rfl, rfl, rfl, rfl, rfl, rfl, rfl, rfl, rfl, rfl, rfl, trivial⟩ ⟨rS, rS, trivial⟩) (fun s39 x40 h hx37 => ?_)
       refine pw_seq <| sR <| y0 rfl (o_move (d := .int .i64 s39) rfl) <| y0 rfl (o_move (d := .int .i64 s25) rfl) <| y0 rfl (o_cmp rfl rfl rfl) <| y_nil ?_
       refine pw_cond (decide (s39 < s25)) rfl (fun hc => ?_) (fun hc => ?_)
       ·have h := ifT h hc
        refine pw_skip <| pw_seq <| pw_block <| dr [] Ty.mix (by kernel_rfl) (by kernel_rfl) <| d7 rfl (fun _ hN => o_fieldAddrP (k := 0) rfl Ty.f34_0 rfl) rfl <| d0 rfl (o_loadS rfl rfl rfl Ty.a32 rfl) rfl <| d7 rfl (fun _ hN => o_move (d := .int .i64 s39) rfl) rfl ?_
        obtain ⟨v41, hv38, h⟩ := bindE h
        refine d0 rfl (o_ixL (f := r06_Cell.Pv) (cs := r06_Cell.Pc v41) hv38 rfl rfl Ty.e32 Ty.s91 rfl rfl) rfl <| d0 rfl (o_loadRA (cs := r06_Cell.Pc v41) rfl Ty.a91 Ty.s91 nl rfl) rfl ?_
        obtain ⟨v42, hv39, h⟩ := bindE h
        refine d2 rfl (o_call (ds := [r06_Cell.Pv v41]) rfl Ty.k105 rfl (r06_there_ok hv39)) rfl <| d7 rfl (fun _ hN => o_move (d := .bool v42) rfl) rfl <| d_if7 (g := (v42 == true)) rfl (fun hg _ hN => o_fieldAddrP (k := 0) rfl Ty.f34_0 rfl) rfl <| d_if0 (g := (v42 == true)) rfl (fun hg => o_loadS (ct hg) rfl rfl Ty.a32 rfl) rfl <| d_if7 (g := (v42 == true)) rfl (fun hg _ hN => o_move (d := .int .i64 s39) rfl) rfl <| d_if0 (g := (v42 == true)) rfl (fun hg => o_ixL (f := r06_Cell.Pv) (cs := r06_Cell.Pc v41) hv38 (ct hg) (ct hg) Ty.e32 Ty.s91 rfl rfl) rfl <| d_if7 (g := (v42 == true)) rfl (fun hg _ hN => o_fieldAddrR (ct hg) Ty.f91_2 rfl) rfl <| d_if7 (g := (v42 == true)) rfl (fun hg _ hN => o_fieldAddrR (ct hg) Ty.f67_0 rfl) rfl ?_
        refine d_if0 (g := (v42 == true)) rfl (fun hg => o_loadRS (ct hg) Ty.a3 rfl) rfl <| d_if7 (g := (v42 == true)) rfl (fun hg _ hN => o_fieldAddrP (k := 0) rfl Ty.f67_0 rfl) rfl <| d_if0 (g := (v42 == true)) rfl (fun hg => o_loadS (ct hg) rfl rfl Ty.a3 rfl) rfl <| d_if7 (g := (v42 == true)) rfl (fun hg _ hN => o_cmp (ct hg) (ct hg) rfl) rfl <| d7 rfl (fun _ hN => pk_and rfl rfl rfl (fun q => eqT q)) rfl <| d_nil ?_
        refine pw_cond (v42 && (v41.Val.Serial == v36.Val.Serial)) rfl (fun hc => ?_) (fun hc => ?_)
        ·have h := ifT h hc
         refine sR <| y0 rfl (o_assign (d := .bool false) rfl) <| y_nil <| pw_ret ?_
         have he := hx37 _ (Option.some.inj h).symm
         have h := hk36
         rw [← he] at h
         have he := hx24 _ (Option.some.inj h).symm
         have h := hk23
         rw [← he] at h
         obtain rfl := Option.some.inj h
         exact ⟨rfl, [_], ⟨rfl, trivial⟩, rfl, io⟩
        ·have h := ifF h hc
         refine pw_skip <| sr1 (by kernel_rfl) <| y0 rfl (o_move (d := .int .i64 s39) rfl) <| y0 rfl (o_ari rfl rfl rfl) <| y0 rfl (o_assign (d := .int .i64 (w64 (s39 + 1))) rfl) <| y_nil ?_
         exact ⟨rfl, w64 (s39 + 1), (Option.some.inj h).symm, (wk_st _ _ ⟨rfl, rfl, rfl, rfl, rfl, rfl, rfl, rfl, rfl, rfl, rfl, rfl, trivial⟩ ⟨rS, rS, trivial⟩)⟩
       ·have h := ifF h hc
        refine pw_exit <| thenQ_exit <| thenQ_exit <| blockQ_exit ?_
        have he := hx37 _ (Option.some.inj h).symm
        have h := hk36
        rw [← he] at h
        exact ⟨rfl, (), h, (wk_st _ _ ⟨rfl, rfl, rfl, rfl, rfl, rfl, trivial⟩ ⟨rS, trivial⟩)⟩
   ·have h := ifF h hc
    refine pw_exit <| thenQ_exit <| thenQ_exit <| blockQ_exit ?_
    have he := hx24 _ (Option.some.inj h).symm
    have h := hk23
    rw [← he] at h
    exact ⟨rfl, (), h, (wk_st _ _ trivial trivial)⟩

theorem w12_right_ok {a0 : store_Store} {r : Bool} (h : w12_right a0 = some r) : PCalls Tryz.prog 13 [store_Store.Pv a0] (.bool r) := by
 unfold w12_right at h
 refine pc_intro (N := 15) Tryz.func13 rfl rfl nl fun w0 imm0 => sR <| y1 rfl (o_box (d := store_Store.Pv a0) (z := 3) (cl := true) rfl rfl rfl rfl rfl) rfl <| y0 rfl (o_assign (d := .bool false) rfl) <| y_nil <| sR <| y0 rfl (o_loadA (cs := store_Store.Pc a0) rfl rfl rfl Ty.a26 Ty.s26 nl rfl) ?_
 obtain ⟨v1, hv1, h⟩ := bindE h
 refine y0 rfl (o_call (ds := [store_Store.Pv a0]) rfl Ty.k57 rfl (w12_small_ok hv1)) <| y0 rfl (o_move (d := .bool v1) rfl) <| y_if (g := (v1 == true)) rfl (fun hg => o_fieldAddrP (k := 2) rfl Ty.f26_1 rfl) <| y_if (g := (v1 == true)) rfl (fun hg => o_loadS (ct hg) rfl rfl Ty.a3 rfl) <| y_if (g := (v1 == true)) rfl (fun hg => o_cmp (ct hg) rfl rfl) <| y0 rfl (pk_and rfl rfl rfl (fun q => eqT q)) <| y0 rfl (o_move (d := .bool (v1 && (decide (a0.Serial < 1000000000)))) rfl) <| y_if (g := ((v1 && (decide (a0.Serial < 1000000000))) == true)) rfl (fun hg => o_loadA (cs := store_Store.Pc a0) rfl rfl rfl Ty.a26 Ty.s26 nl rfl) ?_
 obtain ⟨v2, hv2, h⟩ := bindE h
 refine y_ifc (g := ((v1 && (decide (a0.Serial < 1000000000))) == true)) rfl (fun hg => o_callF (ls := []) (ds := [store_Store.Pv a0]) rfl Ty.k16 (consE (ct hg) rfl) (w12_its_ok (onlyE hv2 hg))) ?_
 obtain ⟨v3, hv3, h⟩ := bindE h
 refine y_if (g := ((v1 && (decide (a0.Serial < 1000000000))) == true)) rfl (fun hg => o_call (ds := [r06_Store.Pv v2]) rfl Ty.k58 (consE (ct hg) rfl) (r06_Right_ok (onlyE hv3 hg))) <| y0 rfl (pk_and rfl rfl rfl (fun q => eqT q)) <| y0 rfl (o_assign (d := .bool ((v1 && (decide (a0.Serial < 1000000000))) && v3)) rfl) <| y_nil <| pw_ret ?_
 obtain rfl := Option.some.inj h
 exact ⟨rfl, [_], ⟨rfl, trivial⟩, rfl, io⟩

theorem w12_tab_ok {a0 : List hash_Place} {r : List r10_Place} (h : w12_tab a0 = some r) : PCalls Tryz.prog 17 [.lst false (List.map hash_Place.Pv a0)] (.lst false (List.map r10_Place.Pv r)) := by
 unfold w12_tab at h
 refine pc_intro (N := 20) Tryz.func17 rfl rfl nl fun w0 imm0 => sR <| y0 rfl (o_assign (d := .lst true (List.map r10_Place.Pv [])) rfl) <| y_nil <| sR <| y0 rfl (o_nslice rfl Ty.e36 Ty.s93) <| y0 rfl (o_assign (d := .lst true (List.map r10_Place.Pv [])) rfl) <| y_nil ?_
 obtain ⟨κ8, hκ6, h⟩ := jnE h
 refine pw_jn0 (κ := κ8) (r := r) (fun (j9 : List r10_Place) => St.of [(3, .sl 910003)] [(910003, ⟨List.map r10_Place.Pv j9, (List.map r10_Place.Pv j9).length, true, 3, true⟩)]) (fun j9 h => ?_) ?_
 ·subst hκ6
  refine sR <| y0 rfl (o_move (d := .sl 910003) rfl) <| y0 rfl (o_assign (d := .sl 910003) rfl) <| y_nil <| pw_ret ?_
  obtain rfl := Option.some.inj h
  exact ⟨rfl, [_], ⟨rfl, trivial⟩, rfl, io⟩
 ·skip
  refine sR <| y0 rfl (o_assign (d := .int .i64 0) rfl) <| y_nil <| pw_block ?_
  obtain ⟨e10, hl7, hk8⟩ := bindE h
  refine pw_lp0 (fun (q : Int × (List r10_Place)) => St.of [(0, .lst false (List.map hash_Place.Pv a0)), (3, .sl 910003), (4, .int .i64 q.1)] [(910003, ⟨List.map r10_Place.Pv q.2, (List.map r10_Place.Pv q.2).length, true, 3, true⟩)]) hl7 (Wk.trans (wk_nil (t := 3) (l := 920003) (z := 3) rfl rfl) (wk_stP (fun l => if l = 910003 then 920003 else l) _ _ ⟨rfl, rfl, rfl, rfl, rfl, rfl, rfl, rfl, rfl, trivial⟩ ⟨rN, trivial⟩ rfl)) (fun q14 x13 h hx9 => ?_)
  obtain ⟨s11, s12⟩ := q14
  refine pw_seq <| sR <| y0 rfl (o_move (d := .int .i64 s11) rfl) <| y0 rfl (o_move (d := .lst false (List.map hash_Place.Pv a0)) rfl) <| y0 rfl (o_lnL (f := hash_Place.Pv) rfl Ty.e27) <| y0 rfl (o_cmp rfl rfl rfl) <| y_nil ?_
  refine pw_cond (decide (s11 < (a0.length : Int))) rfl (fun hc => ?_) (fun hc => ?_)
  ·have h := ifT h hc
   refine pw_skip <| pw_seq <| pw_block <| sr1 (by kernel_rfl) <| y0 rfl (o_move (d := .sl 910003) rfl) <| y0 rfl (o_move (d := .lst false (List.map hash_Place.Pv a0)) rfl) <| y0 rfl (o_move (d := .int .i64 s11) rfl) ?_
   obtain ⟨v15, hv10, h⟩ := bindE h
   refine y0 rfl (o_ixL (f := hash_Place.Pv) (cs := hash_Place.Pc v15) hv10 rfl rfl Ty.e27 Ty.s94 rfl rfl) <| y0 rfl (o_loadRA (cs := hash_Place.Pc v15) rfl Ty.a94 Ty.s94 nl rfl) <| y0 rfl (o_bI (f := r10_Place.Pv) (l := [(⟨v15.State, v15.Key, v15.Val⟩ : r10_Place)]) rfl Ty.e36 Ty.s93 Ty.z93 rfl rfl nl rfl rfl) ?_
   obtain ⟨v16, hv11, h⟩ := bindE h
   refine y_app rfl (o_apR (f := r10_Place.Pv) hv11 rfl rfl rfl rfl rfl rfl (.inl ⟨_, rfl, rfl⟩) Ty.e36 Ty.s93 Ty.b93 Ty.z93 rfl (fun _ => rfl)) rfl rfl rfl <| y0 rfl (o_assign (d := .sl 18) rfl) <| y_nil <| sr1 (by kernel_rfl) <| y0 rfl (o_move (d := .int .i64 s11) rfl) <| y0 rfl (o_ari rfl rfl rfl) <| y0 rfl (o_assign (d := .int .i64 (w64 (s11 + 1))) rfl) <| y_nil ?_
   exact ⟨rfl, (w64 (s11 + 1), v16), (Option.some.inj h).symm, (Wk.trans (wk_frz _ [18]) (wk_stP (fun l => if l = 910003 then 18 else l) _ _ ⟨rfl, rfl, rfl, rfl, rfl, rfl, rfl, rfl, rfl, trivial⟩ ⟨rN, trivial⟩ rfl))⟩
  ·have h := ifF h hc
   refine pw_exit <| thenQ_exit <| thenQ_exit <| blockQ_exit ?_
   have he := hx9 _ (Option.some.inj h).symm
   have h := hk8
   rw [← he] at h
   exact ⟨rfl, s12, h, (Wk.trans (wk_frz _ [910003]) (wk_st _ _ ⟨rfl, rfl, rfl, trivial⟩ ⟨rS, trivial⟩))⟩

theorem r10_Find_ok {a0 : List r10_Place} {a1 : Int} {r : Int} (h : r10_Find a0 a1 = some r) : PCalls Tryz.prog 106 [.lst false (List.map r10_Place.Pv a0), .int .i64 a1] (.int .i64 r) := by
 unfold r10_Find at h
 refine pc_intro (N := 28) Tryz.func106 rfl rfl nl fun w0 imm0 => sR <| y0 rfl (o_assign (d := .int .i64 0) rfl) <| y_nil ?_
 obtain ⟨κ5, hκ5, h⟩ := jnE h
 refine pw_jn0 (κ := κ5) (r := r) (fun (_ : Unit) => St.of [] []) (fun q6 h => ?_) ?_
 ·subst hκ5
  refine sR <| y0 rfl (o_assign (d := .int .i64 (-1)) rfl) <| y_nil <| pw_ret ?_
  obtain rfl := Option.some.inj h
  exact ⟨rfl, [_], ⟨rfl, trivial⟩, rfl, io⟩
 ·skip
  refine sR <| y0 rfl (o_assign (d := .int .i64 0) rfl) <| y_nil <| pw_block ?_
  obtain ⟨e7, hl6, hk7⟩ := bindE h
  refine pw_lp0 (fun (s8 : Int) => St.of [(0, .lst false (List.map r10_Place.Pv a0)), (1, .int .i64 a1), (5, .int .i64 s8)] []) hl6 (wk_st _ _ ⟨rfl, rfl, rfl, rfl, rfl, rfl, rfl, rfl, rfl, trivial⟩ trivial) (fun s8 x9 h hx8 => ?_)
  refine pw_seq <| sR <| y0 rfl (o_move (d := .int .i64 s8) rfl) <| y0 rfl (o_move (d := .lst false (List.map r10_Place.Pv a0)) rfl) <| y0 rfl (o_lnL (f := r10_Place.Pv) rfl Ty.e36) <| y0 rfl (o_cmp rfl rfl rfl) <| y_nil ?_
  refine pw_cond (decide (s8 < (a0.length : Int))) rfl (fun hc => ?_) (fun hc => ?_)
  ·have h := ifT h hc
   refine pw_skip <| pw_seq <| pw_block <| sR <| y0 rfl (o_move (d := .lst false (List.map r10_Place.Pv a0)) rfl) <| y0 rfl (o_move (d := .int .i64 s8) rfl) ?_
   obtain ⟨v10, hv9, h⟩ := bindE h
   refine y0 rfl (o_ixL (f := r10_Place.Pv) (cs := r10_Place.Pc v10) hv9 rfl rfl Ty.e36 Ty.s93 rfl rfl) <| y0 rfl (o_fieldAddrR rfl Ty.f93_0 rfl) <| y0 rfl (o_loadRS rfl Ty.a3 rfl) <| y0 rfl (o_cmp rfl rfl rfl) <| y0 rfl (o_move (d := .bool (v10.State == 1)) rfl) <| y_if (g := ((v10.State == 1) == true)) rfl (fun hg => o_move (d := .lst false (List.map r10_Place.Pv a0)) rfl) <| y_if (g := ((v10.State == 1) == true)) rfl (fun hg => o_move (d := .int .i64 s8) rfl) <| y_if (g := ((v10.State == 1) == true)) rfl (fun hg => o_ixL (f := r10_Place.Pv) (cs := r10_Place.Pc v10) hv9 (ct hg) (ct hg) Ty.e36 Ty.s93 rfl rfl) ?_
   refine y_if (g := ((v10.State == 1) == true)) rfl (fun hg => o_fieldAddrR (ct hg) Ty.f93_1 rfl) <| y_if (g := ((v10.State == 1) == true)) rfl (fun hg => o_loadRS (ct hg) Ty.a3 rfl) <| y_if (g := ((v10.State == 1) == true)) rfl (fun hg => o_move (d := .int .i64 a1) rfl) <| y_if (g := ((v10.State == 1) == true)) rfl (fun hg => o_cmp (ct hg) (ct hg) rfl) <| y0 rfl (pk_and rfl rfl rfl (fun q => eqT q)) <| y_nil ?_
   refine pw_cond ((v10.State == 1) && (v10.Key == a1)) rfl (fun hc => ?_) (fun hc => ?_)
   ·have h := ifT h hc
    refine sR <| y0 rfl (o_move (d := .int .i64 s8) rfl) <| y0 rfl (o_assign (d := .int .i64 s8) rfl) <| y_nil <| pw_ret ?_
    have he := hx8 _ (Option.some.inj h).symm
    have h := hk7
    rw [← he] at h
    obtain rfl := Option.some.inj h
    exact ⟨rfl, [_], ⟨rfl, trivial⟩, rfl, io⟩
   ·have h := ifF h hc
    refine pw_skip <| sr1 (by kernel_rfl) <| y0 rfl (o_move (d := .int .i64 s8) rfl) <| y0 rfl (o_ari rfl rfl rfl) <| y0 rfl (o_assign (d := .int .i64 (w64 (s8 + 1))) rfl) <| y_nil ?_
    exact ⟨rfl, w64 (s8 + 1), (Option.some.inj h).symm, (wk_st _ _ ⟨rfl, rfl, rfl, rfl, rfl, rfl, rfl, rfl, rfl, trivial⟩ trivial)⟩
  ·have h := ifF h hc
   refine pw_exit <| thenQ_exit <| thenQ_exit <| blockQ_exit ?_
   have he := hx8 _ (Option.some.inj h).symm
   have h := hk7
   rw [← he] at h
   exact ⟨rfl, (), h, (wk_st _ _ trivial trivial)⟩

theorem r10_Home_ok {a0 : Int} {a1 : Int} {r : Int} (h : r10_Home a0 a1 = some r) : PCalls Tryz.prog 107 [.int .i64 a0, .int .i64 a1] (.int .i64 r) := by
 unfold r10_Home at h
 refine pc_intro (N := 19) Tryz.func107 rfl rfl nl fun w0 imm0 => sR <| y0 rfl (o_assign (d := .int .i64 0) rfl) <| y_nil <| pw_seq <| sR <| y0 rfl (o_move (d := .int .i64 a0) rfl) <| y0 rfl (o_cmp rfl rfl rfl) ?_
 refine y_nil ?_
 refine pw_cond (decide (a0 < 1)) rfl (fun hc => ?_) (fun hc => ?_)
 ·have h := ifT h hc
  refine sR <| y0 rfl (o_assign (d := .int .i64 0) rfl) <| y_nil <| pw_ret ?_
  obtain rfl := Option.some.inj h
  exact ⟨rfl, [_], ⟨rfl, trivial⟩, rfl, io⟩
 ·have h := ifF h hc
  refine pw_skip <| sR <| y0 rfl (o_move (d := .int .i64 a1) rfl) <| y0 rfl (o_ari rfl rfl rfl) <| y0 rfl (o_ari rfl rfl rfl) <| y0 rfl (o_move (d := .int .i64 a0) rfl) ?_
  obtain ⟨v1, hv1, h⟩ := bindE h
  refine y0 rfl (o_ari rfl rfl hv1) <| y0 rfl (o_assign (d := .int .i64 v1) rfl) <| y_nil <| pw_seq <| sR <| y0 rfl (o_move (d := .int .i64 v1) rfl) <| y0 rfl (o_cmp rfl rfl rfl) <| y_nil ?_
  refine pw_cond (decide (v1 < 0)) rfl (fun hc => ?_) (fun hc => ?_)
  ·have h := ifT h hc
   refine sr1 (by kernel_rfl) <| y0 rfl (o_move (d := .int .i64 v1) rfl) <| y0 rfl (o_move (d := .int .i64 a0) rfl) <| y0 rfl (o_ari rfl rfl rfl) <| y0 rfl (o_assign (d := .int .i64 (w64 (v1 + a0))) rfl) <| y_nil <| sR <| y0 rfl (o_move (d := .int .i64 (w64 (v1 + a0))) rfl) ?_
   refine y0 rfl (o_assign (d := .int .i64 (w64 (v1 + a0))) rfl) <| y_nil <| pw_ret ?_
   obtain rfl := Option.some.inj h
   exact ⟨rfl, [_], ⟨rfl, trivial⟩, rfl, io⟩
  ·have h := ifF h hc
   refine pw_skip <| sR <| y0 rfl (o_move (d := .int .i64 v1) rfl) <| y0 rfl (o_assign (d := .int .i64 v1) rfl) <| y_nil <| pw_ret ?_
   obtain rfl := Option.some.inj h
   exact ⟨rfl, [_], ⟨rfl, trivial⟩, rfl, io⟩

theorem r10_Right_ok {a0 : List r10_Place} {r : Bool} (h : r10_Right a0 = some r) : PCalls Tryz.prog 59 [.lst false (List.map r10_Place.Pv a0)] (.bool r) := by
 unfold r10_Right at h
 refine pc_intro (N := 73) Tryz.func59 rfl rfl nl fun w0 imm0 => sR <| y0 rfl (o_assign (d := .bool false) rfl) <| y_nil <| sR <| y0 rfl (o_move (d := .lst false (List.map r10_Place.Pv a0)) rfl) <| y0 rfl (o_lnL (f := r10_Place.Pv) rfl Ty.e36) <| y0 rfl (o_assign (d := .int .i64 (a0.length : Int)) rfl) ?_
 refine y_nil <| pw_seq <| sR <| y0 rfl (o_move (d := .int .i64 (a0.length : Int)) rfl) <| y0 rfl (o_cmp rfl rfl rfl) <| y0 rfl (o_move (d := .bool (decide ((a0.length : Int) < 1))) rfl) <| y_if (g := ((decide ((a0.length : Int) < 1)) == false)) rfl (fun hg => o_move (d := .int .i64 (a0.length : Int)) rfl) <| y_if (g := ((decide ((a0.length : Int) < 1)) == false)) rfl (fun hg => o_cmp (ct hg) rfl rfl) ?_
 refine y0 rfl (pk_or rfl rfl rfl (fun q => eqF q)) <| y_nil ?_
 refine pw_cond ((decide ((a0.length : Int) < 1)) || (decide ((a0.length : Int) > 8))) rfl (fun hc => ?_) (fun hc => ?_)
 ·have h := ifT h hc
  refine sR <| y0 rfl (o_assign (d := .bool false) rfl) <| y_nil <| pw_ret ?_
  obtain rfl := Option.some.inj h
  exact ⟨rfl, [_], ⟨rfl, trivial⟩, rfl, io⟩
 ·have h := ifF h hc
  refine pw_skip ?_
  obtain ⟨κ22, hκ21, h⟩ := jnE h
  refine pw_jn0 (κ := κ22) (r := r) (fun (_ : Unit) => St.of [] []) (fun q23 h => ?_) ?_
  ·subst hκ21
   refine sR <| y0 rfl (o_assign (d := .bool true) rfl) <| y_nil <| pw_ret ?_
   obtain rfl := Option.some.inj h
   exact ⟨rfl, [_], ⟨rfl, trivial⟩, rfl, io⟩
  ·skip
   refine sR <| y0 rfl (o_assign (d := .int .i64 0) rfl) <| y_nil <| pw_block ?_
   obtain ⟨e24, hl22, hk23⟩ := bindE h
   refine pw_lp0 (fun (s25 : Int) => St.of [(0, .lst false (List.map r10_Place.Pv a0)), (3, .int .i64 (a0.length : Int)), (4, .int .i64 s25)] []) hl22 (wk_st _ _ ⟨rfl, rfl, rfl, rfl, rfl, rfl, rfl, rfl, rfl, trivial⟩ trivial) (fun s25 x26 h hx24 => ?_)
   refine pw_seq <| sR <| y0 rfl (o_move (d := .int .i64 s25) rfl) <| y0 rfl (o_move (d := .int .i64 (a0.length : Int)) rfl) <| y0 rfl (o_cmp rfl rfl rfl) <| y_nil ?_
   refine pw_cond (decide (s25 < (a0.length : Int))) rfl (fun hc => ?_) (fun hc => ?_)
   ·have h := ifT h hc
    refine pw_skip ?_
    obtain ⟨κ35, hκ33, h⟩ := jnE h
    refine pw_jn0 (κ := κ35) (r := x26) (fun (_ : Unit) => St.of [(0, .lst false (List.map r10_Place.Pv a0)), (3, .int .i64 (a0.length : Int)), (4, .int .i64 s25)] []) (fun q36 h => ?_) ?_
    ·subst hκ33
     refine sr1 (by kernel_rfl) <| y0 rfl (o_move (d := .int .i64 s25) rfl) <| y0 rfl (o_ari rfl rfl rfl) <| y0 rfl (o_assign (d := .int .i64 (w64 (s25 + 1))) rfl) <| y_nil ?_
     exact ⟨rfl, w64 (s25 + 1), (Option.some.inj h).symm, (wk_st _ _ ⟨rfl, rfl, rfl, rfl, rfl, rfl, rfl, rfl, rfl, trivial⟩ trivial)⟩
    ·skip
     refine pw_block <| sR <| y0 rfl (o_move (d := .lst false (List.map r10_Place.Pv a0)) rfl) <| y0 rfl (o_move (d := .int .i64 s25) rfl) ?_
     obtain ⟨v37, hv34, h⟩ := bindE h
     refine y0 rfl (o_ixL (f := r10_Place.Pv) (cs := r10_Place.Pc v37) hv34 rfl rfl Ty.e36 Ty.s93 rfl rfl) <| y0 rfl (o_loadRA (cs := r10_Place.Pc v37) rfl Ty.a93 Ty.s93 nl rfl) <| y1 rfl (o_alloc (d := .agg [.int .i64 0, .int .i64 0, .int .i64 0]) (z := 3) rfl Ty.z93 rfl rfl rfl) rfl <| y_sto (x' := r10_Place.Pv v37) (cl' := true) rfl rfl (.inl rfl) Ty.s93 <| y_nil <| pw_seq <| sR <| y0 rfl (o_fieldAddrP (k := 0) rfl Ty.f93_0 rfl) ?_
     refine y0 rfl (o_loadS rfl rfl rfl Ty.a3 rfl) <| y0 rfl (o_cmp rfl rfl rfl) <| y0 rfl (o_move (d := .bool (decide (v37.State < 0))) rfl) <| y_if (g := ((decide (v37.State < 0)) == false)) rfl (fun hg => o_fieldAddrP (k := 0) rfl Ty.f93_0 rfl) <| y_if (g := ((decide (v37.State < 0)) == false)) rfl (fun hg => o_loadS (ct hg) rfl rfl Ty.a3 rfl) <| y_if (g := ((decide (v37.State < 0)) == false)) rfl (fun hg => o_cmp (ct hg) rfl rfl) <| y0 rfl (pk_or rfl rfl rfl (fun q => eqF q)) <| y0 rfl (o_move (d := .bool ((decide (v37.State < 0)) || (decide (v37.State > 2)))) rfl) ?_
     refine y_if (g := (((decide (v37.State < 0)) || (decide (v37.State > 2))) == false)) rfl (fun hg => o_fieldAddrP (k := 0) rfl Ty.f93_0 rfl) <| y_if (g := (((decide (v37.State < 0)) || (decide (v37.State > 2))) == false)) rfl (fun hg => o_loadS (ct hg) rfl rfl Ty.a3 rfl) <| y_if (g := (((decide (v37.State < 0)) || (decide (v37.State > 2))) == false)) rfl (fun hg => o_cmp (ct hg) rfl rfl) <| y_if (g := (((decide (v37.State < 0)) || (decide (v37.State > 2))) == false)) rfl (fun hg => o_move (d := .bool (v37.State != 1)) (ct hg)) <| y_if (g := ((((decide (v37.State < 0)) || (decide (v37.State > 2))) == false) && ((v37.State != 1) == true))) (want2 rfl rfl rfl) (fun hg => o_fieldAddrP (k := 1) rfl Ty.f93_1 rfl) <| y_if (g := ((((decide (v37.State < 0)) || (decide (v37.State > 2))) == false) && ((v37.State != 1) == true))) (want2 rfl rfl rfl) (fun hg => o_loadS (ct hg) rfl rfl Ty.a3 rfl) <| y_if (g := ((((decide (v37.State < 0)) || (decide (v37.State > 2))) == false) && ((v37.State != 1) == true))) (want2 rfl rfl rfl) (fun hg => o_cmp (ct hg) rfl rfl) <| y_if (g := ((((decide (v37.State < 0)) || (decide (v37.State > 2))) == false) && ((v37.State != 1) == true))) (want2 rfl rfl rfl) (fun hg => o_move (d := .bool (v37.Key != 0)) (ct hg)) ?_
     refine y_if (g := (((((decide (v37.State < 0)) || (decide (v37.State > 2))) == false) && ((v37.State != 1) == true)) && ((v37.Key != 0) == false))) (want2 rfl rfl rfl) (fun hg => o_fieldAddrP (k := 2) rfl Ty.f93_2 rfl) <| y_if (g := (((((decide (v37.State < 0)) || (decide (v37.State > 2))) == false) && ((v37.State != 1) == true)) && ((v37.Key != 0) == false))) (want2 rfl rfl rfl) (fun hg => o_loadS (ct hg) rfl rfl Ty.a3 rfl) <| y_if (g := (((((decide (v37.State < 0)) || (decide (v37.State > 2))) == false) && ((v37.State != 1) == true)) && ((v37.Key != 0) == false))) (want2 rfl rfl rfl) (fun hg => o_cmp (ct hg) rfl rfl) <| y_if (g := ((((decide (v37.State < 0)) || (decide (v37.State > 2))) == false) && ((v37.State != 1) == true))) (want2 rfl rfl rfl) (fun hg => pk_or (ct hg) rfl rfl (fun q => andI hg (eqF q))) <| y_if (g := (((decide (v37.State < 0)) || (decide (v37.State > 2))) == false)) rfl (fun hg => pk_and (ct hg) rfl rfl (fun q => andI hg (eqT q))) <| y0 rfl (pk_or rfl rfl rfl (fun q => eqF q)) <| y_nil ?_
     refine pw_cond (((decide (v37.State < 0)) || (decide (v37.State > 2))) || ((v37.State != 1) && ((v37.Key != 0) || (v37.Val != 0)))) rfl (fun hc => ?_) (fun hc => ?_)
     ·have h := ifT h hc
      refine sR <| y0 rfl (o_assign (d := .bool false) rfl) <| y_nil <| pw_ret ?_
      have he := hx24 _ (Option.some.inj h).symm
      have h := hk23
      rw [← he] at h
      obtain rfl := Option.some.inj h
      exact ⟨rfl, [_], ⟨rfl, trivial⟩, rfl, io⟩
     ·have h := ifF h hc
      refine pw_skip <| pw_seq <| sR <| y0 rfl (o_fieldAddrP (k := 0) rfl Ty.f93_0 rfl) <| y0 rfl (o_loadS rfl rfl rfl Ty.a3 rfl) <| y0 rfl (o_cmp rfl rfl rfl) <| y_nil ?_
      refine pw_cond (v37.State != 1) rfl (fun hc => ?_) (fun hc => ?_)
      ·have h := ifT h hc
       refine pw_exit <| thenQ_exit <| blockQ_exit ?_
       exact ⟨rfl, (), h, (wk_st _ _ ⟨rfl, rfl, rfl, rfl, rfl, rfl, rfl, rfl, rfl, trivial⟩ trivial)⟩
      ·have h := ifF h hc
       refine pw_skip <| pw_seq <| sR <| y0 rfl (o_move (d := .lst false (List.map r10_Place.Pv a0)) rfl) <| y0 rfl (o_fieldAddrP (k := 1) rfl Ty.f93_1 rfl) <| y0 rfl (o_loadS rfl rfl rfl Ty.a3 rfl) ?_
       obtain ⟨v38, hv35, h⟩ := bindE h
       refine y0 rfl (o_call (ds := [.lst false (List.map r10_Place.Pv a0), .int .i64 v37.Key]) rfl Ty.k106 rfl (r10_Find_ok hv35)) <| y0 rfl (o_move (d := .int .i64 s25) rfl) <| y0 rfl (o_cmp rfl rfl rfl) <| y_nil ?_
       refine pw_cond (v38 != s25) rfl (fun hc => ?_) (fun hc => ?_)
       ·have h := ifT h hc
        refine sR <| y0 rfl (o_assign (d := .bool false) rfl) <| y_nil <| pw_ret ?_
        have he := hx24 _ (Option.some.inj h).symm
        have h := hk23
        rw [← he] at h
        obtain rfl := Option.some.inj h
        exact ⟨rfl, [_], ⟨rfl, trivial⟩, rfl, io⟩
       ·have h := ifF h hc
        refine pw_skip <| sR <| y0 rfl (o_move (d := .int .i64 (a0.length : Int)) rfl) <| y0 rfl (o_fieldAddrP (k := 1) rfl Ty.f93_1 rfl) <| y0 rfl (o_loadS rfl rfl rfl Ty.a3 rfl) ?_
        obtain ⟨v39, hv36, h⟩ := bindE h
        refine y0 rfl (o_call (ds := [.int .i64 (a0.length : Int), .int .i64 v37.Key]) rfl Ty.k107 rfl (r10_Home_ok hv36)) <| y0 rfl (o_assign (d := .int .i64 v39) rfl) <| y_nil <| pw_block ?_
        obtain ⟨e40, hl37, hk38⟩ := bindE h
        refine pw_lp0 (fun (s41 : Int) => St.of [(0, .lst false (List.map r10_Place.Pv a0)), (3, .int .i64 (a0.length : Int)), (4, .int .i64 s25), (6, .int .i64 s41)] []) hl37 (wk_st _ _ ⟨rfl, rfl, rfl, rfl, rfl, rfl, rfl, rfl, rfl, rfl, rfl, rfl, trivial⟩ trivial) (fun s41 x42 h hx39 => ?_)
        refine pw_seq <| sR <| y0 rfl (o_move (d := .int .i64 s41) rfl) <| y0 rfl (o_move (d := .int .i64 s25) rfl) <| y0 rfl (o_cmp rfl rfl rfl) <| y_nil ?_
        refine pw_cond (s41 != s25) rfl (fun hc => ?_) (fun hc => ?_)
        ·have h := ifT h hc
         refine pw_skip <| pw_seq <| pw_block <| sR <| y0 rfl (o_move (d := .lst false (List.map r10_Place.Pv a0)) rfl) <| y0 rfl (o_move (d := .int .i64 s41) rfl) ?_
         obtain ⟨v43, hv40, h⟩ := bindE h
         refine y0 rfl (o_ixL (f := r10_Place.Pv) (cs := r10_Place.Pc v43) hv40 rfl rfl Ty.e36 Ty.s93 rfl rfl) <| y0 rfl (o_fieldAddrR rfl Ty.f93_0 rfl) <| y0 rfl (o_loadRS rfl Ty.a3 rfl) <| y0 rfl (o_cmp rfl rfl rfl) <| y_nil ?_
         refine pw_cond (v43.State == 0) rfl (fun hc => ?_) (fun hc => ?_)
         ·have h := ifT h hc
          refine sR <| y0 rfl (o_assign (d := .bool false) rfl) <| y_nil <| pw_ret ?_
          have he := hx39 _ (Option.some.inj h).symm
          have h := hk38
          rw [← he] at h
          have he := hx24 _ (Option.some.inj h).symm
          have h := hk23
          rw [← he] at h
          obtain rfl := Option.some.inj h
          exact ⟨rfl, [_], ⟨rfl, trivial⟩, rfl, io⟩
         ·have h := ifF h hc
          refine pw_skip <| sr1 (by kernel_rfl) <| y0 rfl (o_move (d := .int .i64 s41) rfl) <| y0 rfl (o_ari rfl rfl rfl) <| y0 rfl (o_move (d := .int .i64 (a0.length : Int)) rfl) ?_
          obtain ⟨v44, hv41, h⟩ := bindE h
          refine y0 rfl (o_ari rfl rfl hv41) <| y0 rfl (o_assign (d := .int .i64 v44) rfl) <| y_nil ?_
          exact ⟨rfl, v44, (Option.some.inj h).symm, (wk_st _ _ ⟨rfl, rfl, rfl, rfl, rfl, rfl, rfl, rfl, rfl, rfl, rfl, rfl, trivial⟩ trivial)⟩
        ·have h := ifF h hc
         refine pw_exit <| thenQ_exit <| thenQ_exit <| blockQ_exit ?_
         have he := hx39 _ (Option.some.inj h).symm
         have h := hk38
         rw [← he] at h
         exact ⟨rfl, (), h, (wk_st _ _ ⟨rfl, rfl, rfl, rfl, rfl, rfl, rfl, rfl, rfl, trivial⟩ trivial)⟩
   ·have h := ifF h hc
    refine pw_exit <| thenQ_exit <| thenQ_exit <| blockQ_exit ?_
    have he := hx24 _ (Option.some.inj h).symm
    have h := hk23
    rw [← he] at h
    exact ⟨rfl, (), h, (wk_st _ _ trivial trivial)⟩

theorem w12_even_ok {a0 : List hash_Place} {r : Bool} (h : w12_even a0 = some r) : PCalls Tryz.prog 14 [.lst false (List.map hash_Place.Pv a0)] (.bool r) := by
 unfold w12_even at h
 refine pc_intro (N := 11) Tryz.func14 rfl rfl nl fun w0 imm0 => sR <| y0 rfl (o_assign (d := .bool false) rfl) <| y_nil <| sR <| y0 rfl (o_move (d := .lst false (List.map hash_Place.Pv a0)) rfl) <| y0 rfl (o_lnL (f := hash_Place.Pv) rfl Ty.e27) <| y0 rfl (o_cmp rfl rfl rfl) ?_
 refine y0 rfl (o_move (d := .bool (decide ((a0.length : Int) ≤ 8))) rfl) <| y_if (g := ((decide ((a0.length : Int) ≤ 8)) == true)) rfl (fun hg => o_move (d := .lst false (List.map hash_Place.Pv a0)) rfl) ?_
 obtain ⟨v1, hv1, h⟩ := bindE h
 refine y_ifc (g := ((decide ((a0.length : Int) ≤ 8)) == true)) rfl (fun hg => o_callF (ls := []) (ds := [.lst false (List.map hash_Place.Pv a0)]) rfl Ty.k17 (consE (ct hg) rfl) (w12_tab_ok (onlyE hv1 hg))) ?_
 obtain ⟨v2, hv2, h⟩ := bindE h
 refine y_if (g := ((decide ((a0.length : Int) ≤ 8)) == true)) rfl (fun hg => o_call (ds := [.lst false (List.map r10_Place.Pv v1)]) rfl Ty.k59 (consE (ct hg) rfl) (r10_Right_ok (onlyE hv2 hg))) <| y0 rfl (pk_and rfl rfl rfl (fun q => eqT q)) <| y0 rfl (o_assign (d := .bool ((decide ((a0.length : Int) ≤ 8)) && v2)) rfl) <| y_nil <| pw_ret ?_
 obtain rfl := Option.some.inj h
 exact ⟨rfl, [_], ⟨rfl, trivial⟩, rfl, io⟩

theorem slab_New_store_Obj_ok {a0 : Int} {a1 : Int} {r : slab_Slab_store_Obj} (h : slab_New_store_Obj a0 a1 = some r) : PCalls Tryz.prog 108 [.int .i64 a0, .int .i64 a1] (slab_Slab_store_Obj.Pv r) := by
 unfold slab_New_store_Obj at h
 refine pc_intro (N := 24) Tryz.func108 rfl rfl nl fun w0 imm0 => sR <| y1 rfl (o_alloc (d := .agg [.lst true (List.map slab_Cell_store_Obj.Pv []), .int .i64 0]) (z := 2) rfl Ty.z24 rfl rfl rfl) rfl <| y_nil <| pw_seq <| sR <| y0 rfl (o_move (d := .int .i64 a0) rfl) <| y0 rfl (o_cmp rfl rfl rfl) ?_
 refine y0 rfl (o_move (d := .bool (decide (a0 < 0))) rfl) <| y_if (g := ((decide (a0 < 0)) == false)) rfl (fun hg => o_move (d := .int .i64 a0) rfl) <| y_if (g := ((decide (a0 < 0)) == false)) rfl (fun hg => o_cmp (ct hg) rfl rfl) <| y0 rfl (pk_or rfl rfl rfl (fun q => eqF q)) <| y0 rfl (o_move (d := .bool ((decide (a0 < 0)) || (decide (a0 > 24)))) rfl) <| y_if (g := (((decide (a0 < 0)) || (decide (a0 > 24))) == false)) rfl (fun hg => o_move (d := .int .i64 a1) rfl) <| y_if (g := (((decide (a0 < 0)) || (decide (a0 > 24))) == false)) rfl (fun hg => o_cmp (ct hg) rfl rfl) <| y0 rfl (pk_or rfl rfl rfl (fun q => eqF q)) ?_
 refine y0 rfl (o_move (d := .bool (((decide (a0 < 0)) || (decide (a0 > 24))) || (decide (a1 < 0)))) rfl) <| y_if (g := ((((decide (a0 < 0)) || (decide (a0 > 24))) || (decide (a1 < 0))) == false)) rfl (fun hg => o_move (d := .int .i64 a1) rfl) <| y_if (g := ((((decide (a0 < 0)) || (decide (a0 > 24))) || (decide (a1 < 0))) == false)) rfl (fun hg => o_cmp (ct hg) rfl rfl) <| y0 rfl (pk_or rfl rfl rfl (fun q => eqF q)) <| y_nil ?_
 refine pw_cond ((((decide (a0 < 0)) || (decide (a0 > 24))) || (decide (a1 < 0))) || (decide (a1 > 9))) rfl (fun hc => ?_) (fun hc => ?_)
 ·have h := ifT h hc
  refine sR <| y0 rfl (o_build (cs := [.lst true (List.map slab_Cell_store_Obj.Pv []), .int .i64 0]) rfl Ty.p24 Ty.z24 rfl rfl rfl) <| y_sto (x' := .agg [.lst true (List.map slab_Cell_store_Obj.Pv []), .int .i64 0]) (cl' := true) rfl rfl (.inl rfl) Ty.s24 <| y_nil <| pw_ret ?_
  obtain rfl := Option.some.inj h
  exact ⟨rfl, [_], ⟨o_loadA rfl rfl rfl Ty.a24 Ty.s24 nl rfl, trivial⟩, rfl, io⟩
 ·have h := ifF h hc
  refine pw_skip <| sR <| y0 rfl (o_move (d := .int .i64 a0) rfl) ?_
  obtain ⟨v1, hv1, h⟩ := bindE h
  refine y1 rfl (o_mk (f := slab_Cell_store_Obj.Pv) hv1 rfl rfl rfl Ty.e22 Ty.s88 Ty.z88 Ty.b88 rfl rfl rfl) rfl <| y0 rfl (o_move (d := .int .i64 a1) rfl) <| y0 rfl (o_build (cs := [.sl 21, .int .i64 a1]) rfl Ty.p24 Ty.z24 rfl rfl rfl) <| y_sto (x' := .agg [.sl 21, .int .i64 a1]) (cl' := false) rfl rfl (.inl rfl) Ty.s24 <| y_nil <| pw_ret ?_
  obtain rfl := Option.some.inj h
  exact ⟨rfl, [_], ⟨o_loadA rfl rfl rfl Ty.a24 Ty.s24 nl rfl, trivial⟩, rfl, io⟩

theorem store_New_ok {a0 : Int} {a1 : Int} {r : store_Store} (h : store_New a0 a1 = some r) : PCalls Tryz.prog 60 [.int .i64 a0, .int .i64 a1] (store_Store.Pv r) := by
 unfold store_New at h
 refine pc_intro (N := 9) Tryz.func60 rfl rfl nl fun w0 imm0 => sR <| y1 rfl (o_alloc (d := .agg [.lst true (List.map slab_Cell_store_Obj.Pv []), .int .i64 0, .int .i64 0]) (z := 3) rfl Ty.z26 rfl rfl rfl) rfl <| y_nil <| sR <| y0 rfl (o_move (d := .int .i64 a0) rfl) <| y0 rfl (o_move (d := .int .i64 a1) rfl) ?_
 obtain ⟨v1, hv1, h⟩ := bindE h
 refine yc rfl (o_callF (ls := []) (ds := [.int .i64 a0, .int .i64 a1]) rfl Ty.k108 rfl (slab_New_store_Obj_ok hv1)) <| y0 rfl (o_build (cs := [.lst false (List.map slab_Cell_store_Obj.Pv v1.Cells), .int .i64 v1.Last, .int .i64 0]) rfl Ty.p26 Ty.z26 rfl rfl rfl) <| y_sto (x' := .agg [.lst false (List.map slab_Cell_store_Obj.Pv v1.Cells), .int .i64 v1.Last, .int .i64 0]) (cl' := true) rfl rfl (.inr rfl) Ty.s26 <| y_nil <| pw_ret ?_
 obtain rfl := Option.some.inj h
 exact ⟨rfl, [_], ⟨o_loadA rfl rfl rfl Ty.a26 Ty.s26 nl rfl, trivial⟩, rfl, io⟩

theorem vec_New_ok {a0 : Int} {r : (List Int) × Int} (h : vec_New a0 = some r) : PCalls Tryz.prog 109 [.int .i64 a0] (.tup [.lst false (List.map (PV.int .i64) r.1), .int .i64 r.2]) := by
 unfold vec_New at h
 refine pc_intro (N := 12) Tryz.func109 rfl rfl nl fun w0 imm0 => sR <| y0 rfl (o_assign (d := .lst true (List.map (PV.int .i64) [])) rfl) <| y0 rfl (o_assign (d := .int .i64 0) rfl) <| y_nil <| pw_seq <| sR <| y0 rfl (o_move (d := .int .i64 a0) rfl) ?_
 refine y0 rfl (o_cmp rfl rfl rfl) <| y0 rfl (o_move (d := .bool (decide (a0 < 0))) rfl) <| y_if (g := ((decide (a0 < 0)) == false)) rfl (fun hg => o_move (d := .int .i64 a0) rfl) <| y_if (g := ((decide (a0 < 0)) == false)) rfl (fun hg => o_cmp (ct hg) rfl rfl) <| y0 rfl (pk_or rfl rfl rfl (fun q => eqF q)) <| y_nil ?_
 refine pw_cond ((decide (a0 < 0)) || (decide (a0 > 4))) rfl (fun hc => ?_) (fun hc => ?_)
 ·have h := ifT h hc
  refine sR <| y0 rfl (o_assign (d := .lst true (List.map (PV.int .i64) [])) rfl) <| y0 rfl (o_assign (d := .int .i64 1) rfl) <| y_nil <| pw_ret ?_
  obtain rfl := Option.some.inj h
  exact ⟨rfl, [_, _], ⟨rfl, ⟨rfl, trivial⟩⟩, rfl, io⟩
 ·have h := ifF h hc
  refine pw_skip <| sR <| y0 rfl (o_move (d := .int .i64 a0) rfl) ?_
  obtain ⟨v1, hv1, h⟩ := bindE h
  refine y1 rfl (o_mk (f := (PV.int .i64)) hv1 rfl rfl rfl Ty.e28 Ty.s3 Ty.z3 Ty.b3 rfl rfl rfl) rfl <| y0 rfl (o_assign (d := .sl 11) rfl) <| y0 rfl (o_assign (d := .int .i64 0) rfl) <| y_nil <| pw_ret ?_
  obtain rfl := Option.some.inj h
  exact ⟨rfl, [_, _], ⟨rfl, ⟨rfl, trivial⟩⟩, rfl, io⟩

theorem store_programFits_ok {a0 : Int} {r : Bool} (h : store_programFits a0 = some r) : PCalls Tryz.prog 110 [.int .i64 a0] (.bool r) := by
 unfold store_programFits at h
 refine pc_intro (N := 9) Tryz.func110 rfl rfl nl fun w0 imm0 => sR <| y0 rfl (o_assign (d := .bool false) rfl) <| y_nil <| sR <| y0 rfl (o_move (d := .int .i64 a0) rfl) <| y0 rfl (o_cmp rfl rfl rfl) <| y0 rfl (o_move (d := .bool (decide (a0 ≥ (-1)))) rfl) ?_
 refine y_if (g := ((decide (a0 ≥ (-1))) == true)) rfl (fun hg => o_move (d := .int .i64 a0) rfl) <| y_if (g := ((decide (a0 ≥ (-1))) == true)) rfl (fun hg => o_cmp (ct hg) rfl rfl) <| y0 rfl (pk_and rfl rfl rfl (fun q => eqT q)) <| y0 rfl (o_assign (d := .bool ((decide (a0 ≥ (-1))) && (decide (a0 < 6)))) rfl) <| y_nil <| pw_ret ?_
 obtain rfl := Option.some.inj h
 exact ⟨rfl, [_], ⟨rfl, trivial⟩, rfl, io⟩

theorem slab_free_store_Obj_ok {a0 : slab_Slab_store_Obj} {r : slab_Slab_store_Obj} (h : slab_free_store_Obj a0 = some r) : PCalls Tryz.prog 140 [slab_Slab_store_Obj.Pv a0] (.fn (.func 159) [.rptr (slab_Slab_store_Obj.Pc r)]) := by
 unfold slab_free_store_Obj at h
 refine pc_intro (N := 4) Tryz.func140 rfl rfl nl fun w0 imm0 => sR <| y1 rfl (o_box (d := slab_Slab_store_Obj.Pv a0) (z := 2) (cl := true) rfl rfl rfl rfl rfl) rfl <| y0 rfl (o_assign (d := .nilfn) rfl) <| y_nil <| sR <| y0 rfl (o_mkFunc rfl) <| y0 rfl (o_assign (d := .fn (.func 159) [.ptr 1 0 0]) rfl) ?_
 refine y_nil <| pw_ret ?_
 obtain rfl := Option.some.inj h
 exact ⟨rfl, [_], ⟨rfl, trivial⟩, rfl, io⟩

theorem slices_Clone_slab_Cell_store_Obj_slab_Cell_store_Obj_okN {a0 r : List slab_Cell_store_Obj} (h : slices_Clone_slab_Cell_store_Obj_slab_Cell_store_Obj a0 = some r) : PCallsN Tryz.prog 158 [.lst false (List.map slab_Cell_store_Obj.Pv a0)] ⟨List.map slab_Cell_store_Obj.Pv r, 0, true, 8, true⟩ := by
 unfold slices_Clone_slab_Cell_store_Obj_slab_Cell_store_Obj at h
 refine pc_introN (N := 8) Tryz.func158 rfl rfl nl fun w0 imm0 => sR <| y0 rfl (o_assign (d := .lst true (List.map slab_Cell_store_Obj.Pv [])) rfl) <| y_nil <| pw_seq <| sR <| y0 rfl (o_move (d := .lst false (List.map slab_Cell_store_Obj.Pv a0)) rfl) <| y_eqnil rfl Ty.e22 fun b hb => ?_
 refine y_nil ?_
 refine pw_cond b rfl (fun hc => ?_) (fun hc => ?_)
 ·obtain rfl : a0 = [] := by simpa using hb hc
  refine sR <| y0 rfl (o_assign (d := .lst true (List.map slab_Cell_store_Obj.Pv [])) rfl) <| y_nil <| pw_wk (wk_nil (t := 2) (l := 920000) (z := 8) rfl rfl) <| pw_ret ?_
  obtain rfl := Option.some.inj h
  exact ⟨rfl, _, _, rfl, rfl, rfl, rfl⟩
 ·refine pw_skip ?_
  refine sR <| y0 rfl (o_nslice rfl Ty.e22 Ty.s88) <| y0 rfl (o_move (d := .lst false (List.map slab_Cell_store_Obj.Pv a0)) rfl) <| y1 rfl (o_apT (f := slab_Cell_store_Obj.Pv) h rfl rfl (.inl ⟨_, rfl, rfl⟩) Ty.e22 Ty.s88 Ty.b88 Ty.z88 rfl (fun _ => rfl)) rfl <| y0 rfl (o_assign (d := .sl 7) rfl) <| y_nil <| pw_ret ?_
  exact ⟨rfl, _, _, rfl, rfl, rfl, rfl⟩

theorem slices_Clone_slab_Cell_store_Obj_slab_Cell_store_Obj_ok {a0 r : List slab_Cell_store_Obj} (h : slices_Clone_slab_Cell_store_Obj_slab_Cell_store_Obj a0 = some r) : PCalls Tryz.prog 158 [.lst false (List.map slab_Cell_store_Obj.Pv a0)] (.lst false (List.map slab_Cell_store_Obj.Pv r)) := pcalls_ofN (slices_Clone_slab_Cell_store_Obj_slab_Cell_store_Obj_okN h) rfl

theorem slab_with_store_Obj_ok {a0 : slab_Slab_store_Obj} {a1 : Int} {a2 : slab_Cell_store_Obj} {r : slab_Slab_store_Obj} (h : slab_with_store_Obj a0 a1 a2 = some r) : PCalls Tryz.prog 139 [slab_Slab_store_Obj.Pv a0, .int .i64 a1, slab_Cell_store_Obj.Pv a2] (slab_Slab_store_Obj.Pv r) := by
 unfold slab_with_store_Obj at h
 refine pc_intro (N := 17) Tryz.func139 rfl rfl nl fun w0 imm0 => sR <| y1 rfl (o_box (d := slab_Slab_store_Obj.Pv a0) (z := 2) (cl := true) rfl rfl rfl rfl rfl) rfl <| y1 rfl (o_box (d := slab_Cell_store_Obj.Pv a2) (z := 8) (cl := true) rfl rfl rfl rfl rfl) rfl <| y1 rfl (o_alloc (d := .agg [.lst true (List.map slab_Cell_store_Obj.Pv []), .int .i64 0]) (z := 2) rfl Ty.z24 rfl rfl rfl) rfl <| y_nil <| sR <| y0 rfl (o_fieldAddrP (k := 0) rfl Ty.f24_0 rfl) ?_
 refine y0 rfl (o_loadS rfl rfl rfl Ty.a22 rfl) ?_
 obtain ⟨v1, hv1, h⟩ := bindE h
 refine ycN rfl (o_callN (ls := []) (ds := [.lst false (List.map slab_Cell_store_Obj.Pv a0.Cells)]) rfl Ty.k158 rfl (slices_Clone_slab_Cell_store_Obj_slab_Cell_store_Obj_okN hv1)) rfl rfl <| y0 rfl (o_fieldAddrP (k := 0) rfl Ty.f24_0 rfl) <| y_sto (x' := .agg [.sl 9, .int .i64 a0.Last]) (cl' := false) rfl rfl (.inl rfl) Ty.s22 <| y_nil <| sR <| y0 rfl (o_fieldAddrP (k := 0) rfl Ty.f24_0 rfl) <| y0 rfl (o_loadS rfl rfl rfl Ty.a22 rfl) <| y0 rfl (o_move (d := .int .i64 a1) rfl) ?_
 refine y0 rfl (o_loadA (cs := slab_Cell_store_Obj.Pc a2) rfl rfl rfl Ty.a88 Ty.s88 nl rfl) ?_
 obtain ⟨v2, hv2, h⟩ := bindE h
 refine y0 rfl (o_ixR (f := slab_Cell_store_Obj.Pv) hv2 rfl rfl rfl rfl Ty.e22 Ty.s88 rfl) <| y_stE (f := slab_Cell_store_Obj.Pv) (v := a2) hv2 rfl rfl (.inr rfl) Ty.s88 <| y_nil <| sR <| y0 rfl (o_loadA (cs := [.sl 9, .int .i64 a0.Last]) rfl rfl rfl Ty.a24 Ty.s24 nl rfl) <| y_sto (x' := .agg [.sl 9, .int .i64 a0.Last]) (cl' := false) rfl rfl (.inl rfl) Ty.s24 <| y_nil <| pw_ret ?_
 obtain rfl := Option.some.inj h
 exact ⟨rfl, [_], ⟨o_loadA rfl rfl rfl Ty.a24 Ty.s24 nl rfl, trivial⟩, rfl, io⟩

theorem handle_Pack_ok {a0 : Int} {a1 : Int} {r : Int} (h : handle_Pack a0 a1 = some r) : PCalls Tryz.prog 141 [.int .i64 a0, .int .i64 a1] (.int .i64 r) := by
 unfold handle_Pack at h
 refine pc_intro (N := 25) Tryz.func141 rfl rfl nl fun w0 imm0 => sR <| y0 rfl (o_assign (d := .int .i64 0) rfl) <| y_nil <| pw_seq <| sR <| y0 rfl (o_move (d := .int .i64 a0) rfl) <| y0 rfl (o_cmp rfl rfl rfl) ?_
 refine y0 rfl (o_move (d := .bool (decide (a0 < 0))) rfl) <| y_if (g := ((decide (a0 < 0)) == false)) rfl (fun hg => o_move (d := .int .i64 a0) rfl) <| y_if (g := ((decide (a0 < 0)) == false)) rfl (fun hg => o_cmp (ct hg) rfl rfl) <| y0 rfl (pk_or rfl rfl rfl (fun q => eqF q)) <| y0 rfl (o_move (d := .bool ((decide (a0 < 0)) || (decide (a0 ≥ 24)))) rfl) <| y_if (g := (((decide (a0 < 0)) || (decide (a0 ≥ 24))) == false)) rfl (fun hg => o_move (d := .int .i64 a1) rfl) <| y_if (g := (((decide (a0 < 0)) || (decide (a0 ≥ 24))) == false)) rfl (fun hg => o_cmp (ct hg) rfl rfl) <| y0 rfl (pk_or rfl rfl rfl (fun q => eqF q)) ?_
 refine y0 rfl (o_move (d := .bool (((decide (a0 < 0)) || (decide (a0 ≥ 24))) || (decide (a1 < 0)))) rfl) <| y_if (g := ((((decide (a0 < 0)) || (decide (a0 ≥ 24))) || (decide (a1 < 0))) == false)) rfl (fun hg => o_move (d := .int .i64 a1) rfl) <| y_if (g := ((((decide (a0 < 0)) || (decide (a0 ≥ 24))) || (decide (a1 < 0))) == false)) rfl (fun hg => o_cmp (ct hg) rfl rfl) <| y0 rfl (pk_or rfl rfl rfl (fun q => eqF q)) <| y_nil ?_
 refine pw_cond ((((decide (a0 < 0)) || (decide (a0 ≥ 24))) || (decide (a1 < 0))) || (decide (a1 > 9))) rfl (fun hc => ?_) (fun hc => ?_)
 ·have h := ifT h hc
  refine sR <| y0 rfl (o_assign (d := .int .i64 0) rfl) <| y_nil <| pw_ret ?_
  obtain rfl := Option.some.inj h
  exact ⟨rfl, [_], ⟨rfl, trivial⟩, rfl, io⟩
 ·have h := ifF h hc
  refine pw_skip <| sR <| y0 rfl (o_move (d := .int .i64 a0) rfl) <| y0 rfl (o_ari rfl rfl rfl) <| y0 rfl (o_ari rfl rfl rfl) <| y0 rfl (o_move (d := .int .i64 a1) rfl) <| y0 rfl (o_ari rfl rfl rfl) <| y0 rfl (o_ari rfl rfl rfl) ?_
  refine y0 rfl (o_assign (d := .int .i64 (w64 ((w64 (1 + (w64 (a0 * 1)))) + (w64 (a1 * 32))))) rfl) <| y_nil <| pw_ret ?_
  obtain rfl := Option.some.inj h
  exact ⟨rfl, [_], ⟨rfl, trivial⟩, rfl, io⟩

theorem slab_Take_store_Obj_ok {a0 : slab_Slab_store_Obj} {a1 : store_Obj} {r : slab_Slab_store_Obj × Int × Int} (h : slab_Take_store_Obj a0 a1 = some r) : PCalls Tryz.prog 111 [slab_Slab_store_Obj.Pv a0, store_Obj.Pv a1] (.tup [slab_Slab_store_Obj.Pv r.1, .int .i64 r.2.1, .int .i64 r.2.2]) := by
 unfold slab_Take_store_Obj at h
 refine pc_intro (N := 28) Tryz.func111 rfl rfl nl fun w0 imm0 => sR <| y1 rfl (o_box (d := slab_Slab_store_Obj.Pv a0) (z := 2) (cl := true) rfl rfl rfl rfl rfl) rfl <| y1 rfl (o_box (d := store_Obj.Pv a1) (z := 6) (cl := true) rfl rfl rfl rfl rfl) rfl <| y1 rfl (o_alloc (d := .agg [.lst true (List.map slab_Cell_store_Obj.Pv []), .int .i64 0]) (z := 2) rfl Ty.z24 rfl rfl rfl) rfl <| y1 rfl (o_alloc (d := .int .i64 0) (z := 1) rfl Ty.z3 rfl rfl rfl) rfl <| y1 rfl (o_alloc (d := .int .i64 0) (z := 1) rfl Ty.z54 rfl rfl rfl) rfl <| y_nil ?_
 obtain ⟨κ9, hκ17, h⟩ := jnE h
 refine pw_jn0 (κ := κ9) (r := r) (fun (_ : Unit) => St.of [(2, .ptr 2005 0 0), (4, .ptr 2003 0 0), (5, .ptr 2002 0 0), (6, .ptr 2001 0 0)] [(2001, ⟨[.int .i64 0], 0, false, 1, true⟩), (2002, ⟨[.int .i64 0], 0, false, 1, true⟩), (2003, ⟨[.agg [.lst true (List.map slab_Cell_store_Obj.Pv []), .int .i64 0]], 0, false, 2, true⟩), (2005, ⟨[slab_Slab_store_Obj.Pv a0], 0, false, 2, true⟩)]) (fun q10 h => ?_) ?_
 ·subst hκ17
  refine sR <| y0 rfl (o_loadA (cs := slab_Slab_store_Obj.Pc a0) rfl rfl rfl Ty.a24 Ty.s24 nl rfl) <| y_sto (x' := slab_Slab_store_Obj.Pv a0) (cl' := true) rfl rfl (.inr rfl) Ty.s24 <| y_sto (x' := .int .i64 0) (cl' := true) rfl rfl (.inl rfl) Ty.s3 <| y_sto (x' := .int .i64 4) (cl' := true) rfl rfl (.inl rfl) Ty.s54 <| y_nil <| pw_ret ?_
  obtain rfl := Option.some.inj h
  exact ⟨rfl, [_, _, _], ⟨o_loadA rfl rfl rfl Ty.a24 Ty.s24 nl rfl, ⟨o_loadS rfl rfl rfl Ty.a3 rfl, ⟨o_loadS rfl rfl rfl Ty.a54 rfl, trivial⟩⟩⟩, rfl, io⟩
 ·skip
  refine sR <| y0 rfl (o_loadA (cs := slab_Slab_store_Obj.Pc a0) rfl rfl rfl Ty.a24 Ty.s24 nl rfl) ?_
  obtain ⟨v11, hv18, h⟩ := bindE h
  refine yc rfl (o_callF (ls := []) (ds := [slab_Slab_store_Obj.Pv a0]) rfl Ty.k140 rfl (slab_free_store_Obj_ok hv18)) <| y_nil <| pw_block <| pw_wk (wk_stP (fun l => if l = 2006 then 6 else if l = 2007 then 5 else if l = 2008 then 4 else if l = 2009 then 3 else if l = 2010 then 2 else l) [(2, .ptr 2010 0 0), (3, .ptr 2009 0 0), (4, .ptr 2008 0 0), (5, .ptr 2007 0 0), (6, .ptr 2006 0 0), (10, .fn (.func 159) [.rptr (slab_Slab_store_Obj.Pc v11)])] [(2006, ⟨[.int .i64 0], 0, false, 1, true⟩), (2007, ⟨[.int .i64 0], 0, false, 1, true⟩), (2008, ⟨[.agg [.lst true (List.map slab_Cell_store_Obj.Pv []), .int .i64 0]], 0, false, 2, true⟩), (2009, ⟨[store_Obj.Pv a1], 0, false, 6, true⟩), (2010, ⟨[slab_Slab_store_Obj.Pv a0], 0, false, 2, true⟩)] ⟨rfl, rfl, rfl, rfl, rfl, rfl, rfl, rfl, rfl, rfl, rfl, rfl, rfl, rfl, rfl, rfl, rfl, rfl, trivial⟩ ⟨rN, rN, rN, rN, rN, trivial⟩ rfl) ?_
  refine pw_range (fn := Tryz.f159) (N1 := 23) rfl Tryz.func159 rfl rfl nl rfl Ty.k159 rfl rfl (fun l19 e20 o21 hR22 => ?_)
  refine sR <| y0 rfl (o_fieldAddrR rfl Ty.f24_0 rfl) <| y0 rfl (o_loadRS rfl Ty.a22 rfl) <| y0 rfl (o_lnL (f := slab_Cell_store_Obj.Pv) rfl Ty.e22) <| y0 rfl (o_move (d := .int .i64 0) rfl) <| y_nil <| pw_block ?_
  obtain ⟨e12, hl23, hk24⟩ := bindE h
  refine pw_lp0 (fun (s13 : Int) => St.of [(1000002, .ptr 2010 0 0), (1000003, .ptr 2009 0 0), (1000004, .ptr 2008 0 0), (1000005, .ptr 2007 0 0), (1000006, .ptr 2006 0 0), (1000010, .fn (.func 159) [.rptr (slab_Slab_store_Obj.Pc v11)]), (0, .fn (.yield l19) []), (6, .lst false (List.map slab_Cell_store_Obj.Pv v11.Cells)), (7, .int .i64 (v11.Cells.length : Int)), (8, .int .i64 s13)] [(2006, ⟨[.int .i64 0], 0, false, 1, true⟩), (2007, ⟨[.int .i64 0], 0, false, 1, true⟩), (2008, ⟨[.agg [.lst true (List.map slab_Cell_store_Obj.Pv []), .int .i64 0]], 0, false, 2, true⟩), (2009, ⟨[store_Obj.Pv a1], 0, false, 6, true⟩), (2010, ⟨[slab_Slab_store_Obj.Pv a0], 0, false, 2, true⟩)]) hl23 (wk_st _ _ ⟨rfl, rfl, rfl, rfl, rfl, rfl, rfl, rfl, rfl, rfl, rfl, rfl, rfl, rfl, rfl, rfl, rfl, rfl, rfl, rfl, rfl, rfl, rfl, rfl, rfl, rfl, rfl, rfl, rfl, rfl, trivial⟩ ⟨rS, rS, rS, rS, rS, trivial⟩) (fun s13 x14 h hx25 => ?_)
  refine sR <| y0 rfl (o_cmp rfl rfl rfl) <| y_nil <| pw_seq ?_
  refine pw_cond (decide (s13 < (v11.Cells.length : Int))) rfl (fun hc => ?_) (fun hc => ?_)
  ·have h := ifT h hc
   refine pw_skip <| pw_seq <| pw_block <| sR <| y0 rfl (o_move (d := .int .i64 s13) rfl) ?_
   obtain ⟨v15, hv26, h⟩ := bindE h
   refine y0 rfl (o_ixL (f := slab_Cell_store_Obj.Pv) (cs := slab_Cell_store_Obj.Pc v15) hv26 rfl rfl Ty.e22 Ty.s88 rfl rfl) <| y0 rfl (o_loadRA (cs := slab_Cell_store_Obj.Pc v15) rfl Ty.a88 Ty.s88 nl rfl) <| y1 rfl (o_alloc (d := .agg [.int .i64 0, .int .i64 0, .int .i64 0, .int .i64 0, .int .i64 0, .int .i64 0, .bool false, .lst true (List.map (PV.int .i64) [])]) (z := 8) rfl Ty.z88 rfl rfl rfl) rfl <| y0 rfl (o_assign (d := .int .i64 s13) rfl) <| y_sto (x' := slab_Cell_store_Obj.Pv v15) (cl' := true) rfl rfl (.inr rfl) Ty.s88 <| y_nil <| sR <| y0 rfl (o_fieldAddrP (k := 0) rfl Ty.f88_0 rfl) ?_
   refine y0 rfl (o_loadS rfl rfl rfl Ty.a3 rfl) <| y0 rfl (o_cmp rfl rfl rfl) <| y0 rfl (o_move (d := .bool (v15.State == 0)) rfl) <| y_if (g := ((v15.State == 0) == true)) rfl (fun hg => o_move (d := .fn (.yield l19) []) rfl) <| y_if (g := ((v15.State == 0) == true)) rfl (fun hg => o_move (d := .int .i64 s13) rfl) ?_
   rcases Bool.eq_false_or_eq_true ((v15.State == 0) == true) with hg27 | hg27
   ·have h := ifT h hg27
    refine y_wk (wk_st [(1000002, .ptr 2010 0 0), (1000003, .ptr 2009 0 0), (1000004, .ptr 2008 0 0), (1000005, .ptr 2007 0 0), (1000006, .ptr 2006 0 0), (1000010, .fn (.func 159) [.rptr (slab_Slab_store_Obj.Pc v11)]), (0, .fn (.yield l19) []), (6, .lst false (List.map slab_Cell_store_Obj.Pv v11.Cells)), (7, .int .i64 (v11.Cells.length : Int)), (8, .int .i64 s13), (16, .bool (v15.State == 0)), (17, .fn (.yield l19) []), (18, .int .i64 s13)] [(2006, ⟨[.int .i64 0], 0, false, 1, true⟩), (2007, ⟨[.int .i64 0], 0, false, 1, true⟩), (2008, ⟨[.agg [.lst true (List.map slab_Cell_store_Obj.Pv []), .int .i64 0]], 0, false, 2, true⟩), (2009, ⟨[store_Obj.Pv a1], 0, false, 6, true⟩), (2010, ⟨[slab_Slab_store_Obj.Pv a0], 0, false, 2, true⟩)] ⟨rfl, rfl, rfl, rfl, rfl, rfl, rfl, rfl, rfl, rfl, rfl, rfl, rfl, rfl, rfl, rfl, rfl, rfl, rfl, rfl, rfl, rfl, rfl, rfl, rfl, rfl, rfl, rfl, rfl, rfl, rfl, rfl, rfl, (ct hg27), rfl, rfl, (ct hg27), rfl, rfl, trivial⟩ ⟨rS, rS, rS, rS, rS, trivial⟩) ?_
    refine y_yield hR22 (congrArg some hg27) rfl rfl rfl rfl rfl (fun e28 o29 o30 => ?_)
    refine sr1 (by kernel_rfl) <| y0 rfl (o_assign (d := .int .i64 s13) rfl) <| y_nil ?_
    refine ⟨rfl, ?_⟩
    refine pw_block <| sR <| y0 rfl (o_fieldAddrP (k := 0) rfl Ty.f24_0 rfl) <| y0 rfl (o_loadS rfl rfl rfl Ty.a22 rfl) <| y0 rfl (o_move (d := .int .i64 s13) rfl) ?_
    obtain ⟨v16, hv31, h⟩ := bindE h
    refine y0 rfl (o_ixL (f := slab_Cell_store_Obj.Pv) (cs := slab_Cell_store_Obj.Pc v16) hv31 rfl rfl Ty.e22 Ty.s88 rfl rfl) <| y0 rfl (o_fieldAddrR rfl Ty.f88_1 rfl) <| y0 rfl (o_loadRS rfl Ty.a3 rfl) <| y0 rfl (o_assign (d := .int .i64 v16.Gen) rfl) <| y_nil <| sR <| y0 rfl (o_loadA (cs := slab_Slab_store_Obj.Pc a0) rfl rfl rfl Ty.a24 Ty.s24 nl rfl) <| y0 rfl (o_move (d := .int .i64 s13) rfl) ?_
    refine y0 rfl (o_move (d := .int .i64 v16.Gen) rfl) <| y0 rfl (o_loadA (cs := store_Obj.Pc a1) rfl rfl rfl Ty.a73 Ty.s73 nl rfl) <| y0 rfl (o_build (cs := [.int .i64 1, .int .i64 v16.Gen, .int .i64 a1.Serial, .int .i64 a1.Strong, .int .i64 a1.Weak, .int .i64 a1.Prog, .bool a1.Started, .lst false (List.map (PV.int .i64) a1.Fields)]) rfl Ty.p88 Ty.z88 rfl rfl rfl) ?_
    obtain ⟨v17, hv32, h⟩ := bindE h
    refine yc rfl (o_callF (ls := []) (ds := [slab_Slab_store_Obj.Pv a0, .int .i64 s13, .agg [.int .i64 1, .int .i64 v16.Gen, .int .i64 a1.Serial, .int .i64 a1.Strong, .int .i64 a1.Weak, .int .i64 a1.Prog, .bool a1.Started, .lst false (List.map (PV.int .i64) a1.Fields)]]) rfl Ty.k139 rfl (slab_with_store_Obj_ok hv32)) <| y0 rfl (o_move (d := .int .i64 s13) rfl) <| y0 rfl (o_move (d := .int .i64 v16.Gen) rfl) ?_
    obtain ⟨v18, hv33, h⟩ := bindE h
    refine y0 rfl (o_call (ds := [.int .i64 s13, .int .i64 v16.Gen]) rfl Ty.k141 rfl (handle_Pack_ok hv33)) <| y_sto (x' := slab_Slab_store_Obj.Pv v17) (cl' := true) rfl rfl (.inr rfl) Ty.s24 <| y_sto (x' := .int .i64 v18) (cl' := true) rfl rfl (.inl rfl) Ty.s3 <| y_sto (x' := .int .i64 0) (cl' := true) rfl rfl (.inl rfl) Ty.s54 <| y_nil <| pw_ret ?_
    refine ⟨rfl, ?_⟩
    refine y_wk (wk_st [(1000002, .ptr 2010 0 0), (1000003, .ptr 2009 0 0), (1000004, .ptr 2008 0 0), (1000005, .ptr 2007 0 0), (1000006, .ptr 2006 0 0), (1000010, .fn (.func 159) [.rptr (slab_Slab_store_Obj.Pc v11)]), (0, .fn (.yield l19) []), (6, .lst false (List.map slab_Cell_store_Obj.Pv v11.Cells)), (7, .int .i64 (v11.Cells.length : Int)), (8, .int .i64 s13), (16, .bool (v15.State == 0)), (19, .bool false)] [(2006, ⟨[.int .i64 0], 0, false, 1, true⟩), (2007, ⟨[.int .i64 v18], 0, false, 1, true⟩), (2008, ⟨[slab_Slab_store_Obj.Pv v17], 0, false, 2, true⟩), (2009, ⟨[store_Obj.Pv a1], 0, false, 6, true⟩), (2010, ⟨[slab_Slab_store_Obj.Pv a0], 0, false, 2, true⟩)] ⟨rfl, rfl, rfl, rfl, rfl, rfl, rfl, rfl, rfl, rfl, rfl, rfl, rfl, rfl, rfl, rfl, rfl, rfl, rfl, rfl, rfl, rfl, rfl, rfl, rfl, rfl, rfl, rfl, rfl, rfl, rfl, rfl, rfl, rfl, rfl, rfl, trivial⟩ ⟨rS, rS, rS, rS, rS, trivial⟩) <| y0 (congrArg some hg27) (o_not rfl rfl) <| y0 rfl (pk_andT rfl rfl hg27) <| y_nil ?_
    refine pw_cond true rfl (fun _ => ?_) (fun q => nomatch q)
    refine pw_ret ?_
    refine .inr ⟨.ret, rfl, jmpR ?_⟩
    have he := hx25 _ (Option.some.inj h).symm
    have h := hk24
    rw [← he] at h
    obtain rfl := Option.some.inj h
    exact ⟨rfl, [_, _, _], ⟨o_loadA rfl rfl rfl Ty.a24 Ty.s24 nl rfl, ⟨o_loadS rfl rfl rfl Ty.a3 rfl, ⟨o_loadS rfl rfl rfl Ty.a54 rfl, trivial⟩⟩⟩, rfl, io⟩
   ·have h := ifF h hg27
    refine y_skip (congrArg some hg27) <| y_skip (congrArg some hg27) <| y0 rfl (pk_andF rfl rfl hg27) <| y_nil ?_
    refine pw_cond false rfl (fun q => nomatch q) (fun _ => ?_)
    refine pw_skip <| sr1 (by kernel_rfl) <| y0 rfl (o_ari rfl rfl rfl) <| y0 rfl (o_move (d := .int .i64 (w64 (s13 + 1))) rfl) <| y_nil ?_
    exact ⟨rfl, w64 (s13 + 1), (Option.some.inj h).symm, (wk_st _ _ ⟨rfl, rfl, rfl, rfl, rfl, rfl, rfl, rfl, rfl, rfl, rfl, rfl, rfl, rfl, rfl, rfl, rfl, rfl, rfl, rfl, rfl, rfl, rfl, rfl, rfl, rfl, rfl, rfl, rfl, rfl, trivial⟩ ⟨rS, rS, rS, rS, rS, trivial⟩)⟩
  ·have h := ifF h hc
   refine pw_exit <| thenQ_exit <| thenQ_exit <| blockQ_exit ?_
   refine .inl ⟨rfl, ?_⟩
   have he := hx25 _ (Option.some.inj h).symm
   have h := hk24
   rw [← he] at h
   exact ⟨rfl, (), h, (wk_stP (fun l => if l = 2005 then 2010 else if l = 2003 then 2008 else if l = 2002 then 2007 else if l = 2001 then 2006 else l) _ _ ⟨rfl, rfl, rfl, rfl, rfl, rfl, rfl, rfl, rfl, rfl, rfl, rfl, trivial⟩ ⟨rN, rN, rN, rN, trivial⟩ rfl)⟩

theorem store_Make_ok {a0 : store_Store} {a1 : Int} {a2 : Int} {r : store_Store × Int × Int} (h : store_Make a0 a1 a2 = some r) : PCalls Tryz.prog 61 [store_Store.Pv a0, .int .i64 a1, .int .i64 a2] (.tup [store_Store.Pv r.1, .int .i64 r.2.1, .int .i64 r.2.2]) := by
 unfold store_Make at h
 refine pc_intro (N := 49) Tryz.func61 rfl rfl nl fun w0 imm0 => sR <| y1 rfl (o_box (d := store_Store.Pv a0) (z := 3) (cl := true) rfl rfl rfl rfl rfl) rfl <| y1 rfl (o_alloc (d := .agg [.lst true (List.map slab_Cell_store_Obj.Pv []), .int .i64 0, .int .i64 0]) (z := 3) rfl Ty.z26 rfl rfl rfl) rfl <| y0 rfl (o_assign (d := .int .i64 0) rfl) <| y0 rfl (o_assign (d := .int .i64 0) rfl) <| y_nil <| sR ?_
 refine y0 rfl (o_move (d := .int .i64 a1) rfl) ?_
 obtain ⟨v1, hv1, h⟩ := bindE h
 refine yc rfl (o_callF (ls := []) (ds := [.int .i64 a1]) rfl Ty.k109 rfl (vec_New_ok hv1)) <| y0 rfl (o_move (d := .tup [.lst false (List.map (PV.int .i64) v1.1), .int .i64 v1.2]) rfl) <| y0 rfl (o_extract rfl rfl) <| y0 rfl (o_extract rfl rfl) <| y0 rfl (o_assign (d := .lst false (List.map (PV.int .i64) v1.1)) rfl) <| y0 rfl (o_assign (d := .int .i64 v1.2) rfl) <| y_nil <| pw_seq ?_
 refine sR <| y0 rfl (o_move (d := .int .i64 v1.2) rfl) <| y0 rfl (o_cmp rfl rfl rfl) <| y_nil ?_
 refine pw_cond (v1.2 != 0) rfl (fun hc => ?_) (fun hc => ?_)
 ·have h := ifT h hc
  refine sR <| y0 rfl (o_loadA (cs := store_Store.Pc a0) rfl rfl rfl Ty.a26 Ty.s26 nl rfl) <| y0 rfl (o_move (d := .int .i64 v1.2) rfl) <| y_sto (x' := store_Store.Pv a0) (cl' := true) rfl rfl (.inr rfl) Ty.s26 <| y0 rfl (o_assign (d := .int .i64 0) rfl) <| y0 rfl (o_assign (d := .int .i64 v1.2) rfl) <| y_nil <| pw_ret ?_
  obtain rfl := Option.some.inj h
  exact ⟨rfl, [_, _, _], ⟨o_loadA rfl rfl rfl Ty.a26 Ty.s26 nl rfl, ⟨rfl, ⟨rfl, trivial⟩⟩⟩, rfl, io⟩
 ·have h := ifF h hc
  refine pw_skip <| pw_seq <| sR <| y0 rfl (o_move (d := .int .i64 a2) rfl) ?_
  obtain ⟨v2, hv2, h⟩ := bindE h
  refine y0 rfl (o_call (ds := [.int .i64 a2]) rfl Ty.k110 rfl (store_programFits_ok hv2)) <| y0 rfl (o_not rfl rfl) <| y_nil ?_
  refine pw_cond (!v2) rfl (fun hc => ?_) (fun hc => ?_)
  ·have h := ifT h hc
   refine sR <| y0 rfl (o_loadA (cs := store_Store.Pc a0) rfl rfl rfl Ty.a26 Ty.s26 nl rfl) <| y_sto (x' := store_Store.Pv a0) (cl' := true) rfl rfl (.inr rfl) Ty.s26 <| y0 rfl (o_assign (d := .int .i64 0) rfl) <| y0 rfl (o_assign (d := .int .i64 13) rfl) <| y_nil <| pw_ret ?_
   obtain rfl := Option.some.inj h
   exact ⟨rfl, [_, _, _], ⟨o_loadA rfl rfl rfl Ty.a26 Ty.s26 nl rfl, ⟨rfl, ⟨rfl, trivial⟩⟩⟩, rfl, io⟩
  ·have h := ifF h hc
   refine pw_skip <| sR <| y0 rfl (o_fieldAddrP (k := 0) rfl Ty.f26_0 rfl) <| y0 rfl (o_loadA (cs := slab_Slab_store_Obj.Pc a0.S) rfl rfl rfl Ty.a24 Ty.s24 nl rfl) <| y0 rfl (o_fieldAddrP (k := 2) rfl Ty.f26_1 rfl) <| y0 rfl (o_loadS rfl rfl rfl Ty.a3 rfl) <| y0 rfl (o_ari rfl rfl rfl) <| y0 rfl (o_move (d := .int .i64 a2) rfl) ?_
   refine y0 rfl (o_move (d := .lst false (List.map (PV.int .i64) v1.1)) rfl) <| y0 rfl (o_build (cs := [.int .i64 (w64 (a0.Serial + 1)), .int .i64 0, .int .i64 0, .int .i64 a2, .bool false, .lst false (List.map (PV.int .i64) v1.1)]) rfl Ty.p73 Ty.z73 rfl rfl rfl) ?_
   obtain ⟨v3, hv3, h⟩ := bindE h
   refine yc rfl (o_callF (ls := []) (ds := [slab_Slab_store_Obj.Pv a0.S, .agg [.int .i64 (w64 (a0.Serial + 1)), .int .i64 0, .int .i64 0, .int .i64 a2, .bool false, .lst false (List.map (PV.int .i64) v1.1)]]) rfl Ty.k111 rfl (slab_Take_store_Obj_ok hv3)) <| y0 rfl (o_move (d := .tup [slab_Slab_store_Obj.Pv v3.1, .int .i64 v3.2.1, .int .i64 v3.2.2]) rfl) <| y0 rfl (o_extract rfl rfl) <| y0 rfl (o_extract rfl rfl) <| y0 rfl (o_extract rfl rfl) <| y1 rfl (o_alloc (d := .agg [.lst true (List.map slab_Cell_store_Obj.Pv []), .int .i64 0]) (z := 2) rfl Ty.z24 rfl rfl rfl) rfl <| y_sto (x' := slab_Slab_store_Obj.Pv v3.1) (cl' := true) rfl rfl (.inr rfl) Ty.s24 <| y0 rfl (o_assign (d := .int .i64 v3.2.1) rfl) ?_
   refine y0 rfl (o_assign (d := .int .i64 v3.2.2) rfl) <| y_nil <| pw_seq <| sR <| y0 rfl (o_move (d := .int .i64 v3.2.2) rfl) <| y0 rfl (o_cmp rfl rfl rfl) <| y_nil ?_
   refine pw_cond (v3.2.2 != 0) rfl (fun hc => ?_) (fun hc => ?_)
   ·have h := ifT h hc
    refine sR <| y0 rfl (o_loadA (cs := store_Store.Pc a0) rfl rfl rfl Ty.a26 Ty.s26 nl rfl) <| y0 rfl (o_move (d := .int .i64 v3.2.2) rfl) <| y_sto (x' := store_Store.Pv a0) (cl' := true) rfl rfl (.inr rfl) Ty.s26 <| y0 rfl (o_assign (d := .int .i64 0) rfl) <| y0 rfl (o_assign (d := .int .i64 v3.2.2) rfl) <| y_nil <| pw_ret ?_
    obtain rfl := Option.some.inj h
    exact ⟨rfl, [_, _, _], ⟨o_loadA rfl rfl rfl Ty.a26 Ty.s26 nl rfl, ⟨rfl, ⟨rfl, trivial⟩⟩⟩, rfl, io⟩
   ·have h := ifF h hc
    refine pw_skip <| sR <| y0 rfl (o_loadA (cs := slab_Slab_store_Obj.Pc v3.1) rfl rfl rfl Ty.a24 Ty.s24 nl rfl) <| y0 rfl (o_fieldAddrP (k := 2) rfl Ty.f26_1 rfl) <| y0 rfl (o_loadS rfl rfl rfl Ty.a3 rfl) <| y0 rfl (o_ari rfl rfl rfl) <| y0 rfl (o_build (cs := [.lst false (List.map slab_Cell_store_Obj.Pv v3.1.Cells), .int .i64 v3.1.Last, .int .i64 (w64 (a0.Serial + 1))]) rfl Ty.p26 Ty.z26 rfl rfl rfl) <| y0 rfl (o_move (d := .int .i64 v3.2.1) rfl) ?_
    refine y_sto (x' := .agg [.lst false (List.map slab_Cell_store_Obj.Pv v3.1.Cells), .int .i64 v3.1.Last, .int .i64 (w64 (a0.Serial + 1))]) (cl' := true) rfl rfl (.inr rfl) Ty.s26 <| y0 rfl (o_assign (d := .int .i64 v3.2.1) rfl) <| y0 rfl (o_assign (d := .int .i64 0) rfl) <| y_nil <| pw_ret ?_
    obtain rfl := Option.some.inj h
    exact ⟨rfl, [_, _, _], ⟨o_loadA rfl rfl rfl Ty.a26 Ty.s26 nl rfl, ⟨rfl, ⟨rfl, trivial⟩⟩⟩, rfl, io⟩

theorem hash_New_ok {a0 : Int} {r : List hash_Place} (h : hash_New a0 = some r) : PCalls Tryz.prog 31 [.int .i64 a0] (.lst false (List.map hash_Place.Pv r)) := by
 unfold hash_New at h
 refine pc_intro (N := 11) Tryz.func31 rfl rfl nl fun w0 imm0 => sR <| y0 rfl (o_assign (d := .lst true (List.map hash_Place.Pv [])) rfl) <| y_nil <| pw_seq <| sR <| y0 rfl (o_move (d := .int .i64 a0) rfl) <| y0 rfl (o_cmp rfl rfl rfl) ?_
 refine y0 rfl (o_move (d := .bool (decide (a0 < 1))) rfl) <| y_if (g := ((decide (a0 < 1)) == false)) rfl (fun hg => o_move (d := .int .i64 a0) rfl) <| y_if (g := ((decide (a0 < 1)) == false)) rfl (fun hg => o_cmp (ct hg) rfl rfl) <| y0 rfl (pk_or rfl rfl rfl (fun q => eqF q)) <| y_nil ?_
 refine pw_cond ((decide (a0 < 1)) || (decide (a0 > 8))) rfl (fun hc => ?_) (fun hc => ?_)
 ·have h := ifT h hc
  refine sR <| y0 rfl (o_assign (d := .lst true (List.map hash_Place.Pv [])) rfl) <| y_nil <| pw_ret ?_
  obtain rfl := Option.some.inj h
  exact ⟨rfl, [_], ⟨rfl, trivial⟩, rfl, io⟩
 ·have h := ifF h hc
  refine pw_skip <| sR <| y0 rfl (o_move (d := .int .i64 a0) rfl) ?_
  obtain ⟨v1, hv1, h⟩ := bindE h
  refine y1 rfl (o_mk (f := hash_Place.Pv) hv1 rfl rfl rfl Ty.e27 Ty.s94 Ty.z94 Ty.b94 rfl rfl rfl) rfl <| y0 rfl (o_assign (d := .sl 10) rfl) <| y_nil <| pw_ret ?_
  obtain rfl := Option.some.inj h
  exact ⟨rfl, [_], ⟨rfl, trivial⟩, rfl, io⟩

theorem hash_road_ok {a0 : Int} {a1 : Int} {r : Int × Int} (h : hash_road a0 a1 = some r) : PCalls Tryz.prog 132 [.int .i64 a0, .int .i64 a1] (.fn (.func 151) [.rptr [.int .i64 r.1], .rptr [.int .i64 r.2]]) := by
 unfold hash_road at h
 refine pc_intro (N := 6) Tryz.func132 rfl rfl nl fun w0 imm0 => sR <| y1 rfl (o_box (d := .int .i64 a0) (z := 1) (cl := true) rfl rfl rfl rfl rfl) rfl <| y1 rfl (o_box (d := .int .i64 a1) (z := 1) (cl := true) rfl rfl rfl rfl rfl) rfl <| y0 rfl (o_assign (d := .nilfn) rfl) <| y_nil <| sR <| y0 rfl (o_mkFunc rfl) ?_
 refine y0 rfl (o_assign (d := .fn (.func 151) [.ptr 2 0 0, .ptr 3 0 0]) rfl) <| y_nil <| pw_ret ?_
 obtain rfl := Option.some.inj h
 exact ⟨rfl, [_], ⟨rfl, trivial⟩, rfl, io⟩

theorem hash_Home_ok {a0 : Int} {a1 : Int} {r : Int} (h : hash_Home a0 a1 = some r) : PCalls Tryz.prog 152 [.int .i64 a0, .int .i64 a1] (.int .i64 r) := by
 unfold hash_Home at h
 refine pc_intro (N := 19) Tryz.func152 rfl rfl nl fun w0 imm0 => sR <| y0 rfl (o_assign (d := .int .i64 0) rfl) <| y_nil <| pw_seq <| sR <| y0 rfl (o_move (d := .int .i64 a0) rfl) <| y0 rfl (o_cmp rfl rfl rfl) ?_
 refine y_nil ?_
 refine pw_cond (decide (a0 < 1)) rfl (fun hc => ?_) (fun hc => ?_)
 ·have h := ifT h hc
  refine sR <| y0 rfl (o_assign (d := .int .i64 0) rfl) <| y_nil <| pw_ret ?_
  obtain rfl := Option.some.inj h
  exact ⟨rfl, [_], ⟨rfl, trivial⟩, rfl, io⟩
 ·have h := ifF h hc
  refine pw_skip <| sR <| y0 rfl (o_move (d := .int .i64 a1) rfl) <| y0 rfl (o_ari rfl rfl rfl) <| y0 rfl (o_ari rfl rfl rfl) <| y0 rfl (o_move (d := .int .i64 a0) rfl) ?_
  obtain ⟨v1, hv1, h⟩ := bindE h
  refine y0 rfl (o_ari rfl rfl hv1) <| y0 rfl (o_assign (d := .int .i64 v1) rfl) <| y_nil <| pw_seq <| sR <| y0 rfl (o_move (d := .int .i64 v1) rfl) <| y0 rfl (o_cmp rfl rfl rfl) <| y_nil ?_
  refine pw_cond (decide (v1 < 0)) rfl (fun hc => ?_) (fun hc => ?_)
  ·have h := ifT h hc
   refine sr1 (by kernel_rfl) <| y0 rfl (o_move (d := .int .i64 v1) rfl) <| y0 rfl (o_move (d := .int .i64 a0) rfl) <| y0 rfl (o_ari rfl rfl rfl) <| y0 rfl (o_assign (d := .int .i64 (w64 (v1 + a0))) rfl) <| y_nil <| sR <| y0 rfl (o_move (d := .int .i64 (w64 (v1 + a0))) rfl) ?_
   refine y0 rfl (o_assign (d := .int .i64 (w64 (v1 + a0))) rfl) <| y_nil <| pw_ret ?_
   obtain rfl := Option.some.inj h
   exact ⟨rfl, [_], ⟨rfl, trivial⟩, rfl, io⟩
  ·have h := ifF h hc
   refine pw_skip <| sR <| y0 rfl (o_move (d := .int .i64 v1) rfl) <| y0 rfl (o_assign (d := .int .i64 v1) rfl) <| y_nil <| pw_ret ?_
   obtain rfl := Option.some.inj h
   exact ⟨rfl, [_], ⟨rfl, trivial⟩, rfl, io⟩

theorem hash_Find_ok {a0 : List hash_Place} {a1 : Int} {r : Int} (h : hash_Find a0 a1 = some r) : PCalls Tryz.prog 130 [.lst false (List.map hash_Place.Pv a0), .int .i64 a1] (.int .i64 r) := by
 unfold hash_Find at h
 refine pc_intro (N := 33) Tryz.func130 rfl rfl nl fun w0 imm0 => sR <| y1 rfl (o_box (d := .lst false (List.map hash_Place.Pv a0)) (z := 1) (cl := true) rfl rfl rfl rfl rfl) rfl <| y1 rfl (o_box (d := .int .i64 a1) (z := 1) (cl := true) rfl rfl rfl rfl rfl) rfl <| y1 rfl (o_alloc (d := .int .i64 0) (z := 1) rfl Ty.z3 rfl rfl rfl) rfl <| y_nil ?_
 obtain ⟨κ8, hκ15, h⟩ := jnE h
 refine pw_jn0 (κ := κ8) (r := r) (fun (_ : Unit) => St.of [(4, .ptr 2001 0 0)] [(2001, ⟨[.int .i64 0], 0, false, 1, true⟩)]) (fun q9 h => ?_) ?_
 ·subst hκ15
  refine sR <| y_sto (x' := .int .i64 (-1)) (cl' := true) rfl rfl (.inl rfl) Ty.s3 <| y_nil <| pw_ret ?_
  obtain rfl := Option.some.inj h
  exact ⟨rfl, [_], ⟨o_loadS rfl rfl rfl Ty.a3 rfl, trivial⟩, rfl, io⟩
 ·skip
  refine sR <| y0 rfl (o_loadS rfl rfl rfl Ty.a27 rfl) <| y0 rfl (o_lnL (f := hash_Place.Pv) rfl Ty.e27) <| y0 rfl (o_loadS rfl rfl rfl Ty.a3 rfl) ?_
  obtain ⟨v10, hv16, h⟩ := bindE h
  refine yc rfl (o_callF (ls := []) (ds := [.int .i64 (a0.length : Int), .int .i64 a1]) rfl Ty.k132 rfl (hash_road_ok hv16)) <| y_nil <| pw_block <| pw_wk (wk_stP (fun l => if l = 2004 then 4 else if l = 2005 then 3 else if l = 2006 then 2 else l) [(2, .ptr 2006 0 0), (3, .ptr 2005 0 0), (4, .ptr 2004 0 0), (9, .fn (.func 151) [.rptr [.int .i64 v10.1], .rptr [.int .i64 v10.2]])] [(2004, ⟨[.int .i64 0], 0, false, 1, true⟩), (2005, ⟨[.int .i64 a1], 0, false, 1, true⟩), (2006, ⟨[.lst false (List.map hash_Place.Pv a0)], 0, false, 1, true⟩)] ⟨rfl, rfl, rfl, rfl, rfl, rfl, rfl, rfl, rfl, rfl, rfl, rfl, trivial⟩ ⟨rN, rN, rN, trivial⟩ rfl) ?_
  refine pw_range (fn := Tryz.f151) (N1 := 20) rfl Tryz.func151 rfl rfl nl rfl Ty.k151 rfl rfl (fun l17 e18 o19 hR20 => ?_)
  refine sR <| y0 rfl (o_loadRS rfl Ty.a3 rfl) <| y0 rfl (o_move (d := .int .i64 0) rfl) <| y_nil <| pw_block ?_
  obtain ⟨e11, hl21, hk22⟩ := bindE h
  refine pw_lp0 (fun (s12 : Int) => St.of [(1000002, .ptr 2006 0 0), (1000003, .ptr 2005 0 0), (1000004, .ptr 2004 0 0), (1000009, .fn (.func 151) [.rptr [.int .i64 v10.1], .rptr [.int .i64 v10.2]]), (0, .fn (.yield l17) []), (1, .rptr [.int .i64 v10.1]), (2, .rptr [.int .i64 v10.2]), (5, .int .i64 v10.1), (6, .int .i64 s12)] [(2004, ⟨[.int .i64 0], 0, false, 1, true⟩), (2005, ⟨[.int .i64 a1], 0, false, 1, true⟩), (2006, ⟨[.lst false (List.map hash_Place.Pv a0)], 0, false, 1, true⟩)]) hl21 (wk_st _ _ ⟨rfl, rfl, rfl, rfl, rfl, rfl, rfl, rfl, rfl, rfl, rfl, rfl, rfl, rfl, rfl, rfl, rfl, rfl, rfl, rfl, rfl, rfl, rfl, rfl, rfl, rfl, rfl, trivial⟩ ⟨rS, rS, rS, trivial⟩) (fun s12 x13 h hx23 => ?_)
  refine sR <| y0 rfl (o_cmp rfl rfl rfl) <| y_nil <| pw_seq ?_
  refine pw_cond (decide (s12 < v10.1)) rfl (fun hc => ?_) (fun hc => ?_)
  ·have h := ifT h hc
   refine pw_skip <| pw_seq <| pw_block <| sR <| y0 rfl (o_move (d := .int .i64 s12) rfl) <| y0 rfl (o_assign (d := .int .i64 s12) rfl) <| y_nil <| drY [] 8 Ty.mix (by kernel_rfl) (by kernel_rfl) (by kernel_rfl) (by kernel_rfl) nl ?_
   refine d7 rfl (fun _ hN => o_move (d := .fn (.yield l17) []) rfl) rfl <| d0 rfl (o_loadRS rfl Ty.a3 rfl) rfl <| d0 rfl (o_loadRS rfl Ty.a3 rfl) rfl ?_
   obtain ⟨v14, hv24, h⟩ := bindE h
   refine d2 rfl (o_call (ds := [.int .i64 v10.1, .int .i64 v10.2]) rfl Ty.k152 rfl (hash_Home_ok hv24)) rfl <| d7 rfl (fun _ hN => o_move (d := .int .i64 s12) rfl) rfl <| d7 rfl (fun _ hN => o_ari rfl rfl rfl) rfl <| d0 rfl (o_loadRS rfl Ty.a3 rfl) rfl ?_
   obtain ⟨v15, hv25, h⟩ := bindE h
   refine d7 rfl (fun _ hN => o_ari rfl rfl hv25) rfl <| d_nil <| opq_wk (wk_st [(1000002, .ptr 2006 0 0), (1000003, .ptr 2005 0 0), (1000004, .ptr 2004 0 0), (1000009, .fn (.func 151) [.rptr [.int .i64 v10.1], .rptr [.int .i64 v10.2]]), (0, .fn (.yield l17) []), (1, .rptr [.int .i64 v10.1]), (2, .rptr [.int .i64 v10.2]), (5, .int .i64 v10.1), (6, .int .i64 s12), (9, .fn (.yield l17) []), (16, .int .i64 v15)] [(2004, ⟨[.int .i64 0], 0, false, 1, true⟩), (2005, ⟨[.int .i64 a1], 0, false, 1, true⟩), (2006, ⟨[.lst false (List.map hash_Place.Pv a0)], 0, false, 1, true⟩)] ⟨rfl, rfl, rfl, rfl, rfl, rfl, rfl, rfl, rfl, rfl, rfl, rfl, rfl, rfl, rfl, rfl, rfl, rfl, rfl, rfl, rfl, rfl, rfl, rfl, rfl, rfl, rfl, rfl, rfl, rfl, rfl, rfl, rfl, trivial⟩ ⟨rS, rS, rS, trivial⟩) ?_
   refine y_yield0 rfl hR20 rfl rfl rfl rfl rfl rfl (fun e26 o27 o28 => ?_)
   refine sr1 (by kernel_rfl) <| y0 rfl (o_assign (d := .int .i64 v15) rfl) <| y_nil ?_
   refine ⟨rfl, ?_⟩
   refine pw_block <| pw_seq <| sR <| y0 rfl (o_loadS rfl rfl rfl Ty.a27 rfl) <| y0 rfl (o_move (d := .int .i64 v15) rfl) ?_
   obtain ⟨v16, hv29, h⟩ := bindE h
   refine y0 rfl (o_ixL (f := hash_Place.Pv) (cs := hash_Place.Pc v16) hv29 rfl rfl Ty.e27 Ty.s94 rfl rfl) <| y0 rfl (o_fieldAddrR rfl Ty.f94_0 rfl) <| y0 rfl (o_loadRS rfl Ty.a3 rfl) <| y0 rfl (o_cmp rfl rfl rfl) <| y_nil ?_
   refine pw_cond (v16.State == 0) rfl (fun hc => ?_) (fun hc => ?_)
   ·have h := ifT h hc
    refine pw_exit <| thenQ_exit <| blockQ_other (by decide) ?_
    refine ⟨rfl, ?_⟩
    refine ⟨_, wk_st [(1000002, .ptr 2006 0 0), (1000003, .ptr 2005 0 0), (1000004, .ptr 2004 0 0), (1000009, .fn (.func 151) [.rptr [.int .i64 v10.1], .rptr [.int .i64 v10.2]]), (0, .fn (.yield l17) []), (1, .rptr [.int .i64 v10.1]), (2, .rptr [.int .i64 v10.2]), (5, .int .i64 v10.1), (6, .int .i64 s12), (17, .bool false)] [(2004, ⟨[.int .i64 0], 0, false, 1, true⟩), (2005, ⟨[.int .i64 a1], 0, false, 1, true⟩), (2006, ⟨[.lst false (List.map hash_Place.Pv a0)], 0, false, 1, true⟩)] ⟨rfl, rfl, rfl, rfl, rfl, rfl, rfl, rfl, rfl, rfl, rfl, rfl, rfl, rfl, rfl, rfl, rfl, rfl, rfl, rfl, rfl, rfl, rfl, rfl, rfl, rfl, rfl, rfl, rfl, rfl, trivial⟩ ⟨rS, rS, rS, trivial⟩, ?_⟩
    refine d7 rfl (fun _ hN => o_not rfl rfl) rfl <| d_nil ?_
    refine pw_cond true rfl (fun _ => ?_) (fun q => nomatch q)
    refine pw_ret ?_
    refine .inr ⟨.exit 0, rfl, jmpE ?_⟩
    refine blockQ_exit ?_
    have he := hx23 _ (Option.some.inj h).symm
    have h := hk22
    rw [← he] at h
    exact ⟨rfl, (), h, (wk_stP (fun l => if l = 2001 then 2004 else l) _ _ ⟨rfl, rfl, rfl, trivial⟩ ⟨rN, trivial⟩ rfl)⟩
   ·have h := ifF h hc
    refine pw_skip <| dr [] Ty.mix (by kernel_rfl) (by kernel_rfl) <| d0 rfl (o_loadS rfl rfl rfl Ty.a27 rfl) rfl <| d7 rfl (fun _ hN => o_move (d := .int .i64 v15) rfl) rfl <| d0 rfl (o_ixL (f := hash_Place.Pv) (cs := hash_Place.Pc v16) hv29 rfl rfl Ty.e27 Ty.s94 rfl rfl) rfl <| d7 rfl (fun _ hN => o_fieldAddrR rfl Ty.f94_0 rfl) rfl <| d0 rfl (o_loadRS rfl Ty.a3 rfl) rfl <| d7 rfl (fun _ hN => o_cmp rfl rfl rfl) rfl ?_
    refine d7 rfl (fun _ hN => o_move (d := .bool (v16.State == 1)) rfl) rfl <| d_if0 (g := ((v16.State == 1) == true)) rfl (fun hg => o_loadS rfl rfl rfl Ty.a27 rfl) rfl <| d_if7 (g := ((v16.State == 1) == true)) rfl (fun hg _ hN => o_move (d := .int .i64 v15) rfl) rfl <| d_if0 (g := ((v16.State == 1) == true)) rfl (fun hg => o_ixL (f := hash_Place.Pv) (cs := hash_Place.Pc v16) hv29 (ct hg) (ct hg) Ty.e27 Ty.s94 rfl rfl) rfl <| d_if7 (g := ((v16.State == 1) == true)) rfl (fun hg _ hN => o_fieldAddrR (ct hg) Ty.f94_1 rfl) rfl <| d_if0 (g := ((v16.State == 1) == true)) rfl (fun hg => o_loadRS (ct hg) Ty.a3 rfl) rfl <| d_if0 (g := ((v16.State == 1) == true)) rfl (fun hg => o_loadS rfl rfl rfl Ty.a3 rfl) rfl <| d_if7 (g := ((v16.State == 1) == true)) rfl (fun hg _ hN => o_cmp (ct hg) (ct hg) rfl) rfl ?_
    refine d7 rfl (fun _ hN => pk_and rfl rfl rfl (fun q => eqT q)) rfl <| d_nil ?_
    refine pw_cond ((v16.State == 1) && (v16.Key == a1)) rfl (fun hc => ?_) (fun hc => ?_)
    ·have h := ifT h hc
     refine sR <| y0 rfl (o_move (d := .int .i64 v15) rfl) <| y_sto (x' := .int .i64 v15) (cl' := true) rfl rfl (.inl rfl) Ty.s3 <| y_nil <| pw_ret ?_
     refine ⟨rfl, ?_⟩
     refine ⟨_, wk_st [(1000002, .ptr 2006 0 0), (1000003, .ptr 2005 0 0), (1000004, .ptr 2004 0 0), (1000009, .fn (.func 151) [.rptr [.int .i64 v10.1], .rptr [.int .i64 v10.2]]), (0, .fn (.yield l17) []), (1, .rptr [.int .i64 v10.1]), (2, .rptr [.int .i64 v10.2]), (5, .int .i64 v10.1), (6, .int .i64 s12), (17, .bool false)] [(2004, ⟨[.int .i64 v15], 0, false, 1, true⟩), (2005, ⟨[.int .i64 a1], 0, false, 1, true⟩), (2006, ⟨[.lst false (List.map hash_Place.Pv a0)], 0, false, 1, true⟩)] ⟨rfl, rfl, rfl, rfl, rfl, rfl, rfl, rfl, rfl, rfl, rfl, rfl, rfl, rfl, rfl, rfl, rfl, rfl, rfl, rfl, rfl, rfl, rfl, rfl, rfl, rfl, rfl, rfl, rfl, rfl, trivial⟩ ⟨rS, rS, rS, trivial⟩, ?_⟩
     refine d7 rfl (fun _ hN => o_not rfl rfl) rfl <| d_nil ?_
     refine pw_cond true rfl (fun _ => ?_) (fun q => nomatch q)
     refine pw_ret ?_
     refine .inr ⟨.ret, rfl, jmpR ?_⟩
     have he := hx23 _ (Option.some.inj h).symm
     have h := hk22
     rw [← he] at h
     obtain rfl := Option.some.inj h
     exact ⟨rfl, [_], ⟨o_loadS rfl rfl rfl Ty.a3 rfl, trivial⟩, rfl, io⟩
    ·have h := ifF h hc
     refine pw_skip ?_
     refine ⟨rfl, ?_⟩
     refine ⟨_, wk_st [(1000002, .ptr 2006 0 0), (1000003, .ptr 2005 0 0), (1000004, .ptr 2004 0 0), (1000009, .fn (.func 151) [.rptr [.int .i64 v10.1], .rptr [.int .i64 v10.2]]), (0, .fn (.yield l17) []), (1, .rptr [.int .i64 v10.1]), (2, .rptr [.int .i64 v10.2]), (5, .int .i64 v10.1), (6, .int .i64 s12), (17, .bool true)] [(2004, ⟨[.int .i64 0], 0, false, 1, true⟩), (2005, ⟨[.int .i64 a1], 0, false, 1, true⟩), (2006, ⟨[.lst false (List.map hash_Place.Pv a0)], 0, false, 1, true⟩)] ⟨rfl, rfl, rfl, rfl, rfl, rfl, rfl, rfl, rfl, rfl, rfl, rfl, rfl, rfl, rfl, rfl, rfl, rfl, rfl, rfl, rfl, rfl, rfl, rfl, rfl, rfl, rfl, rfl, rfl, rfl, trivial⟩ ⟨rS, rS, rS, trivial⟩, ?_⟩
     refine d7 rfl (fun _ hN => o_not rfl rfl) rfl <| d_nil ?_
     refine pw_cond false rfl (fun q => nomatch q) (fun _ => ?_)
     refine pw_skip <| sr1 (by kernel_rfl) <| y0 rfl (o_ari rfl rfl rfl) <| y0 rfl (o_move (d := .int .i64 (w64 (s12 + 1))) rfl) <| y_nil ?_
     exact ⟨rfl, w64 (s12 + 1), (Option.some.inj h).symm, (wk_st _ _ ⟨rfl, rfl, rfl, rfl, rfl, rfl, rfl, rfl, rfl, rfl, rfl, rfl, rfl, rfl, rfl, rfl, rfl, rfl, rfl, rfl, rfl, rfl, rfl, rfl, rfl, rfl, rfl, trivial⟩ ⟨rS, rS, rS, trivial⟩)⟩
  ·have h := ifF h hc
   refine pw_exit <| thenQ_exit <| thenQ_exit <| blockQ_exit ?_
   refine .inl ⟨rfl, ?_⟩
   have he := hx23 _ (Option.some.inj h).symm
   have h := hk22
   rw [← he] at h
   exact ⟨rfl, (), h, (wk_stP (fun l => if l = 2001 then 2004 else l) _ _ ⟨rfl, rfl, rfl, trivial⟩ ⟨rN, trivial⟩ rfl)⟩

theorem hash_Get_ok {a0 : List hash_Place} {a1 : Int} {r : Int × Int} (h : hash_Get a0 a1 = some r) : PCalls Tryz.prog 82 [.lst false (List.map hash_Place.Pv a0), .int .i64 a1] (.tup [.int .i64 r.1, .int .i64 r.2]) := by
 unfold hash_Get at h
 refine pc_intro (N := 17) Tryz.func82 rfl rfl nl fun w0 imm0 => sR <| y0 rfl (o_assign (d := .int .i64 0) rfl) <| y0 rfl (o_assign (d := .int .i64 0) rfl) <| y_nil <| sR <| y0 rfl (o_move (d := .lst false (List.map hash_Place.Pv a0)) rfl) <| y0 rfl (o_move (d := .int .i64 a1) rfl) ?_
 obtain ⟨v1, hv1, h⟩ := bindE h
 refine y0 rfl (o_call (ds := [.lst false (List.map hash_Place.Pv a0), .int .i64 a1]) rfl Ty.k130 rfl (hash_Find_ok hv1)) <| y0 rfl (o_assign (d := .int .i64 v1) rfl) <| y_nil <| pw_seq <| sR <| y0 rfl (o_move (d := .int .i64 v1) rfl) <| y0 rfl (o_cmp rfl rfl rfl) <| y_nil ?_
 refine pw_cond (decide (v1 < 0)) rfl (fun hc => ?_) (fun hc => ?_)
 ·have h := ifT h hc
  refine sR <| y0 rfl (o_assign (d := .int .i64 0) rfl) <| y0 rfl (o_assign (d := .int .i64 9) rfl) <| y_nil <| pw_ret ?_
  obtain rfl := Option.some.inj h
  exact ⟨rfl, [_, _], ⟨rfl, ⟨rfl, trivial⟩⟩, rfl, io⟩
 ·have h := ifF h hc
  refine pw_skip <| sR <| y0 rfl (o_move (d := .lst false (List.map hash_Place.Pv a0)) rfl) <| y0 rfl (o_move (d := .int .i64 v1) rfl) ?_
  obtain ⟨v2, hv2, h⟩ := bindE h
  refine y0 rfl (o_ixL (f := hash_Place.Pv) (cs := hash_Place.Pc v2) hv2 rfl rfl Ty.e27 Ty.s94 rfl rfl) <| y0 rfl (o_fieldAddrR rfl Ty.f94_2 rfl) <| y0 rfl (o_loadRS rfl Ty.a3 rfl) <| y0 rfl (o_assign (d := .int .i64 v2.Val) rfl) <| y0 rfl (o_assign (d := .int .i64 0) rfl) <| y_nil <| pw_ret ?_
  obtain rfl := Option.some.inj h
  exact ⟨rfl, [_, _], ⟨rfl, ⟨rfl, trivial⟩⟩, rfl, io⟩

theorem slices_Clone_hash_Place_hash_Place_okN {a0 r : List hash_Place} (h : slices_Clone_hash_Place_hash_Place a0 = some r) : PCallsN Tryz.prog 150 [.lst false (List.map hash_Place.Pv a0)] ⟨List.map hash_Place.Pv r, 0, true, 3, true⟩ := by
 unfold slices_Clone_hash_Place_hash_Place at h
 refine pc_introN (N := 8) Tryz.func150 rfl rfl nl fun w0 imm0 => sR <| y0 rfl (o_assign (d := .lst true (List.map hash_Place.Pv [])) rfl) <| y_nil <| pw_seq <| sR <| y0 rfl (o_move (d := .lst false (List.map hash_Place.Pv a0)) rfl) <| y_eqnil rfl Ty.e27 fun b hb => ?_
 refine y_nil ?_
 refine pw_cond b rfl (fun hc => ?_) (fun hc => ?_)
 ·obtain rfl : a0 = [] := by simpa using hb hc
  refine sR <| y0 rfl (o_assign (d := .lst true (List.map hash_Place.Pv [])) rfl) <| y_nil <| pw_wk (wk_nil (t := 2) (l := 920000) (z := 3) rfl rfl) <| pw_ret ?_
  obtain rfl := Option.some.inj h
  exact ⟨rfl, _, _, rfl, rfl, rfl, rfl⟩
 ·refine pw_skip ?_
  refine sR <| y0 rfl (o_nslice rfl Ty.e27 Ty.s94) <| y0 rfl (o_move (d := .lst false (List.map hash_Place.Pv a0)) rfl) <| y1 rfl (o_apT (f := hash_Place.Pv) h rfl rfl (.inl ⟨_, rfl, rfl⟩) Ty.e27 Ty.s94 Ty.b94 Ty.z94 rfl (fun _ => rfl)) rfl <| y0 rfl (o_assign (d := .sl 7) rfl) <| y_nil <| pw_ret ?_
  exact ⟨rfl, _, _, rfl, rfl, rfl, rfl⟩

theorem slices_Clone_hash_Place_hash_Place_ok {a0 r : List hash_Place} (h : slices_Clone_hash_Place_hash_Place a0 = some r) : PCalls Tryz.prog 150 [.lst false (List.map hash_Place.Pv a0)] (.lst false (List.map hash_Place.Pv r)) := pcalls_ofN (slices_Clone_hash_Place_hash_Place_okN h) rfl

theorem hash_with_ok {a0 : List hash_Place} {a1 : Int} {a2 : hash_Place} {r : List hash_Place} (h : hash_with a0 a1 a2 = some r) : PCalls Tryz.prog 131 [.lst false (List.map hash_Place.Pv a0), .int .i64 a1, hash_Place.Pv a2] (.lst false (List.map hash_Place.Pv r)) := by
 unfold hash_with at h
 refine pc_intro (N := 14) Tryz.func131 rfl rfl nl fun w0 imm0 => sR <| y1 rfl (o_box (d := hash_Place.Pv a2) (z := 3) (cl := true) rfl rfl rfl rfl rfl) rfl <| y0 rfl (o_assign (d := .lst true (List.map hash_Place.Pv [])) rfl) <| y_nil <| sR <| y0 rfl (o_move (d := .lst false (List.map hash_Place.Pv a0)) rfl) ?_
 obtain ⟨v1, hv1, h⟩ := bindE h
 refine ycN rfl (o_callN (ls := []) (ds := [.lst false (List.map hash_Place.Pv a0)]) rfl Ty.k150 rfl (slices_Clone_hash_Place_hash_Place_okN hv1)) rfl rfl <| y0 rfl (o_assign (d := .sl 8) rfl) <| y_nil <| sR <| y0 rfl (o_move (d := .sl 8) rfl) <| y0 rfl (o_move (d := .int .i64 a1) rfl) <| y0 rfl (o_loadA (cs := hash_Place.Pc a2) rfl rfl rfl Ty.a94 Ty.s94 nl rfl) ?_
 obtain ⟨v2, hv2, h⟩ := bindE h
 refine y0 rfl (o_ixR (f := hash_Place.Pv) hv2 rfl rfl rfl rfl Ty.e27 Ty.s94 rfl) <| y_stE (f := hash_Place.Pv) (v := a2) hv2 rfl rfl (.inl rfl) Ty.s94 <| y_nil <| sR <| y0 rfl (o_move (d := .sl 8) rfl) <| y0 rfl (o_assign (d := .sl 8) rfl) <| y_nil <| pw_ret ?_
 obtain rfl := Option.some.inj h
 exact ⟨rfl, [_], ⟨rfl, trivial⟩, rfl, io⟩

theorem hash_Drop_ok {a0 : List hash_Place} {a1 : Int} {r : (List hash_Place) × Int × Int} (h : hash_Drop a0 a1 = some r) : PCalls Tryz.prog 83 [.lst false (List.map hash_Place.Pv a0), .int .i64 a1] (.tup [.lst false (List.map hash_Place.Pv r.1), .int .i64 r.2.1, .int .i64 r.2.2]) := by
 unfold hash_Drop at h
 refine pc_intro (N := 23) Tryz.func83 rfl rfl nl fun w0 imm0 => sR <| y0 rfl (o_assign (d := .lst true (List.map hash_Place.Pv [])) rfl) <| y0 rfl (o_assign (d := .int .i64 0) rfl) <| y0 rfl (o_assign (d := .int .i64 0) rfl) <| y_nil <| sR <| y0 rfl (o_move (d := .lst false (List.map hash_Place.Pv a0)) rfl) ?_
 refine y0 rfl (o_move (d := .int .i64 a1) rfl) ?_
 obtain ⟨v1, hv1, h⟩ := bindE h
 refine y0 rfl (o_call (ds := [.lst false (List.map hash_Place.Pv a0), .int .i64 a1]) rfl Ty.k130 rfl (hash_Find_ok hv1)) <| y0 rfl (o_assign (d := .int .i64 v1) rfl) <| y_nil <| pw_seq <| sR <| y0 rfl (o_move (d := .int .i64 v1) rfl) <| y0 rfl (o_cmp rfl rfl rfl) <| y_nil ?_
 refine pw_cond (decide (v1 < 0)) rfl (fun hc => ?_) (fun hc => ?_)
 ·have h := ifT h hc
  refine sR <| y0 rfl (o_move (d := .lst false (List.map hash_Place.Pv a0)) rfl) <| y0 rfl (o_assign (d := .lst false (List.map hash_Place.Pv a0)) rfl) <| y0 rfl (o_assign (d := .int .i64 0) rfl) <| y0 rfl (o_assign (d := .int .i64 9) rfl) <| y_nil <| pw_ret ?_
  obtain rfl := Option.some.inj h
  exact ⟨rfl, [_, _, _], ⟨rfl, ⟨rfl, ⟨rfl, trivial⟩⟩⟩, rfl, io⟩
 ·have h := ifF h hc
  refine pw_skip <| dr [] Ty.mix (by kernel_rfl) (by kernel_rfl) <| d7 rfl (fun _ hN => o_move (d := .lst false (List.map hash_Place.Pv a0)) rfl) rfl <| d7 rfl (fun _ hN => o_move (d := .int .i64 v1) rfl) rfl <| d7 rfl (fun _ hN => o_build (cs := [.int .i64 2, .int .i64 0, .int .i64 0]) rfl Ty.p94 Ty.z94 rfl rfl rfl) rfl ?_
  obtain ⟨v2, hv2, h⟩ := bindE h
  refine d2f rfl (o_callF (ls := []) (ds := [.lst false (List.map hash_Place.Pv a0), .int .i64 v1, .agg [.int .i64 2, .int .i64 0, .int .i64 0]]) rfl Ty.k131 rfl (hash_with_ok hv2)) rfl <| d7 rfl (fun _ hN => o_move (d := .lst false (List.map hash_Place.Pv a0)) rfl) rfl <| d7 rfl (fun _ hN => o_move (d := .int .i64 v1) rfl) rfl ?_
  obtain ⟨v3, hv3, h⟩ := bindE h
  refine d0 rfl (o_ixL (f := hash_Place.Pv) (cs := hash_Place.Pc v3) hv3 rfl rfl Ty.e27 Ty.s94 rfl rfl) rfl <| d7 rfl (fun _ hN => o_fieldAddrR rfl Ty.f94_2 rfl) rfl <| d0 rfl (o_loadRS rfl Ty.a3 rfl) rfl <| d7 rfl (fun _ hN => o_assign (d := .lst false (List.map hash_Place.Pv v2)) rfl) rfl <| d7 rfl (fun _ hN => o_assign (d := .int .i64 v3.Val) rfl) rfl <| d7 rfl (fun _ hN => o_assign (d := .int .i64 0) rfl) rfl <| d_nil <| pw_ret ?_
  obtain rfl := Option.some.inj h
  exact ⟨rfl, [_, _, _], ⟨rfl, ⟨rfl, ⟨rfl, trivial⟩⟩⟩, rfl, io⟩

theorem hash_Put_ok {a0 : List hash_Place} {a1 : Int} {a2 : Int} {r : (List hash_Place) × Int} (h : hash_Put a0 a1 a2 = some r) : PCalls Tryz.prog 84 [.lst false (List.map hash_Place.Pv a0), .int .i64 a1, .int .i64 a2] (.tup [.lst false (List.map hash_Place.Pv r.1), .int .i64 r.2]) := by
 unfold hash_Put at h
 refine pc_intro (N := 39) Tryz.func84 rfl rfl nl fun w0 imm0 => sR <| y1 rfl (o_box (d := .lst false (List.map hash_Place.Pv a0)) (z := 1) (cl := true) rfl rfl rfl rfl rfl) rfl <| y1 rfl (o_alloc (d := .lst true (List.map hash_Place.Pv [])) (z := 1) rfl Ty.z27 rfl rfl rfl) rfl <| y1 rfl (o_alloc (d := .int .i64 0) (z := 1) rfl Ty.z54 rfl rfl rfl) rfl <| y_nil <| sR <| y0 rfl (o_move (d := .int .i64 a1) rfl) ?_
 refine y0 rfl (o_move (d := .int .i64 a2) rfl) <| y0 rfl (o_build (cs := [.int .i64 1, .int .i64 a1, .int .i64 a2]) rfl Ty.p94 Ty.z94 rfl rfl rfl) <| y1 rfl (o_alloc (d := .agg [.int .i64 0, .int .i64 0, .int .i64 0]) (z := 3) rfl Ty.z94 rfl rfl rfl) rfl <| y_sto (x' := .agg [.int .i64 1, .int .i64 a1, .int .i64 a2]) (cl' := true) rfl rfl (.inl rfl) Ty.s94 <| y_nil <| pw_seq <| sR <| y0 rfl (o_loadS rfl rfl rfl Ty.a27 rfl) ?_
 refine y0 rfl (o_move (d := .int .i64 a1) rfl) ?_
 obtain ⟨v1, hv1, h⟩ := bindE h
 refine y0 rfl (o_call (ds := [.lst false (List.map hash_Place.Pv a0), .int .i64 a1]) rfl Ty.k130 rfl (hash_Find_ok hv1)) <| y0 rfl (o_assign (d := .int .i64 v1) rfl) <| y_nil <| sR <| y0 rfl (o_move (d := .int .i64 v1) rfl) <| y0 rfl (o_cmp rfl rfl rfl) <| y_nil ?_
 refine pw_cond (decide (v1 ≥ 0)) rfl (fun hc => ?_) (fun hc => ?_)
 ·have h := ifT h hc
  refine sR <| y0 rfl (o_loadS rfl rfl rfl Ty.a27 rfl) <| y0 rfl (o_move (d := .int .i64 v1) rfl) <| y0 rfl (o_loadA (cs := [.int .i64 1, .int .i64 a1, .int .i64 a2]) rfl rfl rfl Ty.a94 Ty.s94 nl rfl) ?_
  obtain ⟨v2, hv2, h⟩ := bindE h
  refine yc rfl (o_callF (ls := []) (ds := [.lst false (List.map hash_Place.Pv a0), .int .i64 v1, .agg [.int .i64 1, .int .i64 a1, .int .i64 a2]]) rfl Ty.k131 rfl (hash_with_ok hv2)) <| y_sto (x' := .lst false (List.map hash_Place.Pv v2)) (cl' := true) rfl rfl (.inl rfl) Ty.s27 <| y_sto (x' := .int .i64 0) (cl' := true) rfl rfl (.inl rfl) Ty.s54 <| y_nil <| pw_ret ?_
  obtain rfl := Option.some.inj h
  exact ⟨rfl, [_, _], ⟨o_loadS rfl rfl rfl Ty.a27 rfl, ⟨o_loadS rfl rfl rfl Ty.a54 rfl, trivial⟩⟩, rfl, io⟩
 ·have h := ifF h hc
  refine pw_skip ?_
  obtain ⟨κ11, hκ18, h⟩ := jnE h
  refine pw_jn0 (κ := κ11) (r := r) (fun (_ : Unit) => St.of [(3, .ptr 2004 0 0), (6, .ptr 2003 0 0), (7, .ptr 2002 0 0)] [(2002, ⟨[.int .i64 0], 0, false, 1, true⟩), (2003, ⟨[.lst true (List.map hash_Place.Pv [])], 0, false, 1, true⟩), (2004, ⟨[.lst false (List.map hash_Place.Pv a0)], 0, false, 1, true⟩)]) (fun q12 h => ?_) ?_
  ·subst hκ18
   refine sR <| y0 rfl (o_loadS rfl rfl rfl Ty.a27 rfl) <| y_sto (x' := .lst false (List.map hash_Place.Pv a0)) (cl' := true) rfl rfl (.inl rfl) Ty.s27 <| y_sto (x' := .int .i64 8) (cl' := true) rfl rfl (.inl rfl) Ty.s54 <| y_nil <| pw_ret ?_
   obtain rfl := Option.some.inj h
   exact ⟨rfl, [_, _], ⟨o_loadS rfl rfl rfl Ty.a27 rfl, ⟨o_loadS rfl rfl rfl Ty.a54 rfl, trivial⟩⟩, rfl, io⟩
  ·skip
   refine sR <| y0 rfl (o_loadS rfl rfl rfl Ty.a27 rfl) <| y0 rfl (o_lnL (f := hash_Place.Pv) rfl Ty.e27) <| y0 rfl (o_move (d := .int .i64 a1) rfl) ?_
   obtain ⟨v13, hv19, h⟩ := bindE h
   refine yc rfl (o_callF (ls := []) (ds := [.int .i64 (a0.length : Int), .int .i64 a1]) rfl Ty.k132 rfl (hash_road_ok hv19)) <| y_nil <| pw_block <| pw_wk (wk_stP (fun l => if l = 2005 then 8 else if l = 2006 then 7 else if l = 2007 then 6 else if l = 2008 then 3 else l) [(3, .ptr 2008 0 0), (6, .ptr 2007 0 0), (7, .ptr 2006 0 0), (8, .ptr 2005 0 0), (26, .fn (.func 151) [.rptr [.int .i64 v13.1], .rptr [.int .i64 v13.2]])] [(2005, ⟨[.agg [.int .i64 1, .int .i64 a1, .int .i64 a2]], 0, false, 3, true⟩), (2006, ⟨[.int .i64 0], 0, false, 1, true⟩), (2007, ⟨[.lst true (List.map hash_Place.Pv [])], 0, false, 1, true⟩), (2008, ⟨[.lst false (List.map hash_Place.Pv a0)], 0, false, 1, true⟩)] ⟨rfl, rfl, rfl, rfl, rfl, rfl, rfl, rfl, rfl, rfl, rfl, rfl, rfl, rfl, rfl, trivial⟩ ⟨rN, rN, rN, rN, trivial⟩ rfl) ?_
   refine pw_range (fn := Tryz.f151) (N1 := 20) rfl Tryz.func151 rfl rfl nl rfl Ty.k151 rfl rfl (fun l20 e21 o22 hR23 => ?_)
   refine sR <| y0 rfl (o_loadRS rfl Ty.a3 rfl) <| y0 rfl (o_move (d := .int .i64 0) rfl) <| y_nil <| pw_block ?_
   obtain ⟨e14, hl24, hk25⟩ := bindE h
   refine pw_lp0 (fun (s15 : Int) => St.of [(1000003, .ptr 2008 0 0), (1000006, .ptr 2007 0 0), (1000007, .ptr 2006 0 0), (1000008, .ptr 2005 0 0), (1000026, .fn (.func 151) [.rptr [.int .i64 v13.1], .rptr [.int .i64 v13.2]]), (0, .fn (.yield l20) []), (1, .rptr [.int .i64 v13.1]), (2, .rptr [.int .i64 v13.2]), (5, .int .i64 v13.1), (6, .int .i64 s15)] [(2005, ⟨[.agg [.int .i64 1, .int .i64 a1, .int .i64 a2]], 0, false, 3, true⟩), (2006, ⟨[.int .i64 0], 0, false, 1, true⟩), (2007, ⟨[.lst true (List.map hash_Place.Pv [])], 0, false, 1, true⟩), (2008, ⟨[.lst false (List.map hash_Place.Pv a0)], 0, false, 1, true⟩)]) hl24 (wk_st _ _ ⟨rfl, rfl, rfl, rfl, rfl, rfl, rfl, rfl, rfl, rfl, rfl, rfl, rfl, rfl, rfl, rfl, rfl, rfl, rfl, rfl, rfl, rfl, rfl, rfl, rfl, rfl, rfl, rfl, rfl, rfl, trivial⟩ ⟨rS, rS, rS, rS, trivial⟩) (fun s15 x16 h hx26 => ?_)
   refine sR <| y0 rfl (o_cmp rfl rfl rfl) <| y_nil <| pw_seq ?_
   refine pw_cond (decide (s15 < v13.1)) rfl (fun hc => ?_) (fun hc => ?_)
   ·have h := ifT h hc
    refine pw_skip <| pw_seq <| pw_block <| sR <| y0 rfl (o_move (d := .int .i64 s15) rfl) <| y0 rfl (o_assign (d := .int .i64 s15) rfl) <| y_nil <| drY [] 8 Ty.mix (by kernel_rfl) (by kernel_rfl) (by kernel_rfl) (by kernel_rfl) nl ?_
    refine d7 rfl (fun _ hN => o_move (d := .fn (.yield l20) []) rfl) rfl <| d0 rfl (o_loadRS rfl Ty.a3 rfl) rfl <| d0 rfl (o_loadRS rfl Ty.a3 rfl) rfl ?_
    obtain ⟨v17, hv27, h⟩ := bindE h
    refine d2 rfl (o_call (ds := [.int .i64 v13.1, .int .i64 v13.2]) rfl Ty.k152 rfl (hash_Home_ok hv27)) rfl <| d7 rfl (fun _ hN => o_move (d := .int .i64 s15) rfl) rfl <| d7 rfl (fun _ hN => o_ari rfl rfl rfl) rfl <| d0 rfl (o_loadRS rfl Ty.a3 rfl) rfl ?_
    obtain ⟨v18, hv28, h⟩ := bindE h
    refine d7 rfl (fun _ hN => o_ari rfl rfl hv28) rfl <| d_nil <| opq_wk (wk_st [(1000003, .ptr 2008 0 0), (1000006, .ptr 2007 0 0), (1000007, .ptr 2006 0 0), (1000008, .ptr 2005 0 0), (1000026, .fn (.func 151) [.rptr [.int .i64 v13.1], .rptr [.int .i64 v13.2]]), (0, .fn (.yield l20) []), (1, .rptr [.int .i64 v13.1]), (2, .rptr [.int .i64 v13.2]), (5, .int .i64 v13.1), (6, .int .i64 s15), (9, .fn (.yield l20) []), (16, .int .i64 v18)] [(2005, ⟨[.agg [.int .i64 1, .int .i64 a1, .int .i64 a2]], 0, false, 3, true⟩), (2006, ⟨[.int .i64 0], 0, false, 1, true⟩), (2007, ⟨[.lst true (List.map hash_Place.Pv [])], 0, false, 1, true⟩), (2008, ⟨[.lst false (List.map hash_Place.Pv a0)], 0, false, 1, true⟩)] ⟨rfl, rfl, rfl, rfl, rfl, rfl, rfl, rfl, rfl, rfl, rfl, rfl, rfl, rfl, rfl, rfl, rfl, rfl, rfl, rfl, rfl, rfl, rfl, rfl, rfl, rfl, rfl, rfl, rfl, rfl, rfl, rfl, rfl, rfl, rfl, rfl, trivial⟩ ⟨rS, rS, rS, rS, trivial⟩) ?_
    refine y_yield0 rfl hR23 rfl rfl rfl rfl rfl rfl (fun e29 o30 o31 => ?_)
    refine sr1 (by kernel_rfl) <| y0 rfl (o_assign (d := .int .i64 v18) rfl) <| y_nil ?_
    refine ⟨rfl, ?_⟩
    refine pw_block <| sR <| y0 rfl (o_loadS rfl rfl rfl Ty.a27 rfl) <| y0 rfl (o_move (d := .int .i64 v18) rfl) ?_
    obtain ⟨v19, hv32, h⟩ := bindE h
    refine y0 rfl (o_ixL (f := hash_Place.Pv) (cs := hash_Place.Pc v19) hv32 rfl rfl Ty.e27 Ty.s94 rfl rfl) <| y0 rfl (o_fieldAddrR rfl Ty.f94_0 rfl) <| y0 rfl (o_loadRS rfl Ty.a3 rfl) <| y0 rfl (o_cmp rfl rfl rfl) <| y_nil ?_
    refine pw_cond (v19.State != 1) rfl (fun hc => ?_) (fun hc => ?_)
    ·have h := ifT h hc
     refine sR <| y0 rfl (o_loadS rfl rfl rfl Ty.a27 rfl) <| y0 rfl (o_move (d := .int .i64 v18) rfl) <| y0 rfl (o_loadA (cs := [.int .i64 1, .int .i64 a1, .int .i64 a2]) rfl rfl rfl Ty.a94 Ty.s94 nl rfl) ?_
     obtain ⟨v20, hv33, h⟩ := bindE h
     refine yc rfl (o_callF (ls := []) (ds := [.lst false (List.map hash_Place.Pv a0), .int .i64 v18, .agg [.int .i64 1, .int .i64 a1, .int .i64 a2]]) rfl Ty.k131 rfl (hash_with_ok hv33)) <| y_sto (x' := .lst false (List.map hash_Place.Pv v20)) (cl' := true) rfl rfl (.inl rfl) Ty.s27 <| y_sto (x' := .int .i64 0) (cl' := true) rfl rfl (.inl rfl) Ty.s54 <| y_nil <| pw_ret ?_
     refine ⟨rfl, ?_⟩
     refine ⟨_, wk_st [(1000003, .ptr 2008 0 0), (1000006, .ptr 2007 0 0), (1000007, .ptr 2006 0 0), (1000008, .ptr 2005 0 0), (1000026, .fn (.func 151) [.rptr [.int .i64 v13.1], .rptr [.int .i64 v13.2]]), (0, .fn (.yield l20) []), (1, .rptr [.int .i64 v13.1]), (2, .rptr [.int .i64 v13.2]), (5, .int .i64 v13.1), (6, .int .i64 s15), (17, .bool false)] [(2005, ⟨[.agg [.int .i64 1, .int .i64 a1, .int .i64 a2]], 0, false, 3, true⟩), (2006, ⟨[.int .i64 0], 0, false, 1, true⟩), (2007, ⟨[.lst false (List.map hash_Place.Pv v20)], 0, false, 1, true⟩), (2008, ⟨[.lst false (List.map hash_Place.Pv a0)], 0, false, 1, true⟩)] ⟨rfl, rfl, rfl, rfl, rfl, rfl, rfl, rfl, rfl, rfl, rfl, rfl, rfl, rfl, rfl, rfl, rfl, rfl, rfl, rfl, rfl, rfl, rfl, rfl, rfl, rfl, rfl, rfl, rfl, rfl, rfl, rfl, rfl, trivial⟩ ⟨rS, rS, rS, rS, trivial⟩, ?_⟩
     refine d7 rfl (fun _ hN => o_not rfl rfl) rfl <| d_nil ?_
     refine pw_cond true rfl (fun _ => ?_) (fun q => nomatch q)
     refine pw_ret ?_
     refine .inr ⟨.ret, rfl, jmpR ?_⟩
     have he := hx26 _ (Option.some.inj h).symm
     have h := hk25
     rw [← he] at h
     obtain rfl := Option.some.inj h
     exact ⟨rfl, [_, _], ⟨o_loadS rfl rfl rfl Ty.a27 rfl, ⟨o_loadS rfl rfl rfl Ty.a54 rfl, trivial⟩⟩, rfl, io⟩
    ·have h := ifF h hc
     refine pw_skip ?_
     refine ⟨rfl, ?_⟩
     refine ⟨_, wk_st [(1000003, .ptr 2008 0 0), (1000006, .ptr 2007 0 0), (1000007, .ptr 2006 0 0), (1000008, .ptr 2005 0 0), (1000026, .fn (.func 151) [.rptr [.int .i64 v13.1], .rptr [.int .i64 v13.2]]), (0, .fn (.yield l20) []), (1, .rptr [.int .i64 v13.1]), (2, .rptr [.int .i64 v13.2]), (5, .int .i64 v13.1), (6, .int .i64 s15), (17, .bool true)] [(2005, ⟨[.agg [.int .i64 1, .int .i64 a1, .int .i64 a2]], 0, false, 3, true⟩), (2006, ⟨[.int .i64 0], 0, false, 1, true⟩), (2007, ⟨[.lst true (List.map hash_Place.Pv [])], 0, false, 1, true⟩), (2008, ⟨[.lst false (List.map hash_Place.Pv a0)], 0, false, 1, true⟩)] ⟨rfl, rfl, rfl, rfl, rfl, rfl, rfl, rfl, rfl, rfl, rfl, rfl, rfl, rfl, rfl, rfl, rfl, rfl, rfl, rfl, rfl, rfl, rfl, rfl, rfl, rfl, rfl, rfl, rfl, rfl, rfl, rfl, rfl, trivial⟩ ⟨rS, rS, rS, rS, trivial⟩, ?_⟩
     refine d7 rfl (fun _ hN => o_not rfl rfl) rfl <| d_nil ?_
     refine pw_cond false rfl (fun q => nomatch q) (fun _ => ?_)
     refine pw_skip <| sr1 (by kernel_rfl) <| y0 rfl (o_ari rfl rfl rfl) <| y0 rfl (o_move (d := .int .i64 (w64 (s15 + 1))) rfl) <| y_nil ?_
     exact ⟨rfl, w64 (s15 + 1), (Option.some.inj h).symm, (wk_st _ _ ⟨rfl, rfl, rfl, rfl, rfl, rfl, rfl, rfl, rfl, rfl, rfl, rfl, rfl, rfl, rfl, rfl, rfl, rfl, rfl, rfl, rfl, rfl, rfl, rfl, rfl, rfl, rfl, rfl, rfl, rfl, trivial⟩ ⟨rS, rS, rS, rS, trivial⟩)⟩
   ·have h := ifF h hc
    refine pw_exit <| thenQ_exit <| thenQ_exit <| blockQ_exit ?_
    refine .inl ⟨rfl, ?_⟩
    have he := hx26 _ (Option.some.inj h).symm
    have h := hk25
    rw [← he] at h
    exact ⟨rfl, (), h, (wk_stP (fun l => if l = 2004 then 2008 else if l = 2003 then 2007 else if l = 2002 then 2006 else l) _ _ ⟨rfl, rfl, rfl, rfl, rfl, rfl, rfl, rfl, rfl, trivial⟩ ⟨rN, rN, rN, trivial⟩ rfl)⟩

theorem ephem_Set_ok {a0 : List hash_Place} {a1 : Int} {a2 : Int} {r : (List hash_Place) × Int × Int} (h : ephem_Set a0 a1 a2 = some r) : PCalls Tryz.prog 33 [.lst false (List.map hash_Place.Pv a0), .int .i64 a1, .int .i64 a2] (.tup [.lst false (List.map hash_Place.Pv r.1), .int .i64 r.2.1, .int .i64 r.2.2]) := by
 unfold ephem_Set at h
 refine pc_intro (N := 49) Tryz.func33 rfl rfl nl fun w0 imm0 => sR <| y0 rfl (o_assign (d := .lst true (List.map hash_Place.Pv [])) rfl) <| y0 rfl (o_assign (d := .int .i64 0) rfl) <| y0 rfl (o_assign (d := .int .i64 0) rfl) <| y_nil <| pw_seq <| sR ?_
 refine y0 rfl (o_move (d := .int .i64 a1) rfl) <| y0 rfl (o_cmp rfl rfl rfl) <| y_nil ?_
 refine pw_cond (a1 == 0) rfl (fun hc => ?_) (fun hc => ?_)
 ·have h := ifT h hc
  refine sR <| y0 rfl (o_move (d := .lst false (List.map hash_Place.Pv a0)) rfl) <| y0 rfl (o_assign (d := .lst false (List.map hash_Place.Pv a0)) rfl) <| y0 rfl (o_assign (d := .int .i64 0) rfl) <| y0 rfl (o_assign (d := .int .i64 2) rfl) <| y_nil <| pw_ret ?_
  obtain rfl := Option.some.inj h
  exact ⟨rfl, [_, _, _], ⟨rfl, ⟨rfl, ⟨rfl, trivial⟩⟩⟩, rfl, io⟩
 ·have h := ifF h hc
  refine pw_skip <| sR <| y0 rfl (o_move (d := .lst false (List.map hash_Place.Pv a0)) rfl) <| y0 rfl (o_move (d := .int .i64 a1) rfl) ?_
  obtain ⟨v1, hv1, h⟩ := bindE h
  refine y0 rfl (o_call (ds := [.lst false (List.map hash_Place.Pv a0), .int .i64 a1]) rfl Ty.k82 rfl (hash_Get_ok hv1)) <| y0 rfl (o_move (d := .tup [.int .i64 v1.1, .int .i64 v1.2]) rfl) <| y0 rfl (o_extract rfl rfl) <| y0 rfl (o_extract rfl rfl) <| y0 rfl (o_assign (d := .int .i64 v1.1) rfl) <| y0 rfl (o_assign (d := .int .i64 v1.2) rfl) <| y_nil <| pw_seq ?_
  refine sR <| y0 rfl (o_move (d := .int .i64 a2) rfl) <| y0 rfl (o_cmp rfl rfl rfl) <| y_nil ?_
  refine pw_cond (a2 == 0) rfl (fun hc => ?_) (fun hc => ?_)
  ·have h := ifT h hc
   refine sR <| y0 rfl (o_move (d := .lst false (List.map hash_Place.Pv a0)) rfl) <| y0 rfl (o_move (d := .int .i64 a1) rfl) ?_
   obtain ⟨v2, hv2, h⟩ := bindE h
   refine yc rfl (o_callF (ls := []) (ds := [.lst false (List.map hash_Place.Pv a0), .int .i64 a1]) rfl Ty.k83 rfl (hash_Drop_ok hv2)) <| y0 rfl (o_move (d := .tup [.lst false (List.map hash_Place.Pv v2.1), .int .i64 v2.2.1, .int .i64 v2.2.2]) rfl) <| y0 rfl (o_extract rfl rfl) <| y0 rfl (o_extract rfl rfl) <| y0 rfl (o_extract rfl rfl) <| y0 rfl (o_assign (d := .lst false (List.map hash_Place.Pv v2.1)) rfl) <| y0 rfl (o_assign (d := .int .i64 v2.2.1) rfl) <| y0 rfl (o_assign (d := .int .i64 v2.2.2) rfl) ?_
   refine y_nil <| sR <| y0 rfl (o_move (d := .lst false (List.map hash_Place.Pv v2.1)) rfl) <| y0 rfl (o_move (d := .int .i64 v1.1) rfl) <| y0 rfl (o_assign (d := .lst false (List.map hash_Place.Pv v2.1)) rfl) <| y0 rfl (o_assign (d := .int .i64 v1.1) rfl) <| y0 rfl (o_assign (d := .int .i64 0) rfl) <| y_nil ?_
   refine pw_ret ?_
   obtain rfl := Option.some.inj h
   exact ⟨rfl, [_, _, _], ⟨rfl, ⟨rfl, ⟨rfl, trivial⟩⟩⟩, rfl, io⟩
  ·have h := ifF h hc
   refine pw_skip <| sR <| y0 rfl (o_move (d := .lst false (List.map hash_Place.Pv a0)) rfl) <| y0 rfl (o_move (d := .int .i64 a1) rfl) <| y0 rfl (o_move (d := .int .i64 a2) rfl) ?_
   obtain ⟨v3, hv3, h⟩ := bindE h
   refine yc rfl (o_callF (ls := []) (ds := [.lst false (List.map hash_Place.Pv a0), .int .i64 a1, .int .i64 a2]) rfl Ty.k84 rfl (hash_Put_ok hv3)) <| y0 rfl (o_move (d := .tup [.lst false (List.map hash_Place.Pv v3.1), .int .i64 v3.2]) rfl) <| y0 rfl (o_extract rfl rfl) <| y0 rfl (o_extract rfl rfl) <| y0 rfl (o_assign (d := .lst false (List.map hash_Place.Pv v3.1)) rfl) <| y0 rfl (o_assign (d := .int .i64 v3.2) rfl) <| y_nil <| pw_seq ?_
   refine sR <| y0 rfl (o_move (d := .int .i64 v3.2) rfl) <| y0 rfl (o_cmp rfl rfl rfl) <| y_nil ?_
   refine pw_cond (v3.2 != 0) rfl (fun hc => ?_) (fun hc => ?_)
   ·have h := ifT h hc
    refine sR <| y0 rfl (o_move (d := .lst false (List.map hash_Place.Pv a0)) rfl) <| y0 rfl (o_move (d := .int .i64 v3.2) rfl) <| y0 rfl (o_assign (d := .lst false (List.map hash_Place.Pv a0)) rfl) <| y0 rfl (o_assign (d := .int .i64 0) rfl) <| y0 rfl (o_assign (d := .int .i64 v3.2) rfl) <| y_nil <| pw_ret ?_
    obtain rfl := Option.some.inj h
    exact ⟨rfl, [_, _, _], ⟨rfl, ⟨rfl, ⟨rfl, trivial⟩⟩⟩, rfl, io⟩
   ·have h := ifF h hc
    refine pw_skip <| sR <| y0 rfl (o_move (d := .lst false (List.map hash_Place.Pv v3.1)) rfl) <| y0 rfl (o_move (d := .int .i64 v1.1) rfl) <| y0 rfl (o_assign (d := .lst false (List.map hash_Place.Pv v3.1)) rfl) <| y0 rfl (o_assign (d := .int .i64 v1.1) rfl) <| y0 rfl (o_assign (d := .int .i64 0) rfl) <| y_nil ?_
    refine pw_ret ?_
    obtain rfl := Option.some.inj h
    exact ⟨rfl, [_, _, _], ⟨rfl, ⟨rfl, ⟨rfl, trivial⟩⟩⟩, rfl, io⟩

theorem cmp_isNaN_int_ok {a0 : Int} {r : Bool} (h : cmp_isNaN_int a0 = some r) : PCalls Tryz.prog 163 [.int .i64 a0] (.bool r) := by
 unfold cmp_isNaN_int at h
 refine pc_intro (N := 6) Tryz.func163 rfl rfl nl fun w0 imm0 => sR <| y0 rfl (o_assign (d := .bool false) rfl) <| y_nil <| sR <| y0 rfl (o_move (d := .int .i64 a0) rfl) <| y0 rfl (o_move (d := .int .i64 a0) rfl) <| y0 rfl (o_cmp rfl rfl rfl) ?_
 refine y0 rfl (o_assign (d := .bool (a0 != a0)) rfl) <| y_nil <| pw_ret ?_
 obtain rfl := Option.some.inj h
 exact ⟨rfl, [_], ⟨rfl, trivial⟩, rfl, io⟩

theorem cmp_Compare_int_ok {a0 : Int} {a1 : Int} {r : Int} (h : cmp_Compare_int a0 a1 = some r) : PCalls Tryz.prog 147 [.int .i64 a0, .int .i64 a1] (.int .i64 r) := by
 unfold cmp_Compare_int at h
 refine pc_intro (N := 20) Tryz.func147 rfl rfl nl fun w0 imm0 => sR <| y0 rfl (o_assign (d := .int .i64 0) rfl) <| y_nil <| sR <| y0 rfl (o_move (d := .int .i64 a0) rfl) ?_
 obtain ⟨v1, hv1, h⟩ := bindE h
 refine y0 rfl (o_call (ds := [.int .i64 a0]) rfl Ty.k163 rfl (cmp_isNaN_int_ok hv1)) <| y0 rfl (o_assign (d := .bool v1) rfl) <| y_nil <| sR <| y0 rfl (o_move (d := .int .i64 a1) rfl) ?_
 obtain ⟨v2, hv2, h⟩ := bindE h
 refine y0 rfl (o_call (ds := [.int .i64 a1]) rfl Ty.k163 rfl (cmp_isNaN_int_ok hv2)) <| y0 rfl (o_assign (d := .bool v2) rfl) <| y_nil <| pw_seq <| sR <| y0 rfl (o_move (d := .bool v1) rfl) <| y_nil ?_
 refine pw_cond v1 rfl (fun hc => ?_) (fun hc => ?_)
 ·have h := ifT h hc
  refine pw_seq <| sR <| y0 rfl (o_move (d := .bool v2) rfl) <| y_nil ?_
  refine pw_cond v2 rfl (fun hc => ?_) (fun hc => ?_)
  ·have h := ifT h hc
   refine sR <| y0 rfl (o_assign (d := .int .i64 0) rfl) <| y_nil <| pw_ret ?_
   obtain rfl := Option.some.inj h
   exact ⟨rfl, [_], ⟨rfl, trivial⟩, rfl, io⟩
  ·have h := ifF h hc
   refine pw_skip <| sR <| y0 rfl (o_assign (d := .int .i64 (-1)) rfl) <| y_nil <| pw_ret ?_
   obtain rfl := Option.some.inj h
   exact ⟨rfl, [_], ⟨rfl, trivial⟩, rfl, io⟩
 ·have h := ifF h hc
  refine pw_skip <| pw_seq <| sR <| y0 rfl (o_move (d := .bool v2) rfl) <| y_nil ?_
  refine pw_cond v2 rfl (fun hc => ?_) (fun hc => ?_)
  ·have h := ifT h hc
   refine sR <| y0 rfl (o_assign (d := .int .i64 1) rfl) <| y_nil <| pw_ret ?_
   obtain rfl := Option.some.inj h
   exact ⟨rfl, [_], ⟨rfl, trivial⟩, rfl, io⟩
  ·have h := ifF h hc
   refine pw_skip <| pw_seq <| sR <| y0 rfl (o_move (d := .int .i64 a0) rfl) <| y0 rfl (o_move (d := .int .i64 a1) rfl) <| y0 rfl (o_cmp rfl rfl rfl) <| y_nil ?_
   refine pw_cond (decide (a0 < a1)) rfl (fun hc => ?_) (fun hc => ?_)
   ·have h := ifT h hc
    refine sR <| y0 rfl (o_assign (d := .int .i64 (-1)) rfl) <| y_nil <| pw_ret ?_
    obtain rfl := Option.some.inj h
    exact ⟨rfl, [_], ⟨rfl, trivial⟩, rfl, io⟩
   ·have h := ifF h hc
    refine pw_skip <| pw_seq <| sR <| y0 rfl (o_move (d := .int .i64 a0) rfl) <| y0 rfl (o_move (d := .int .i64 a1) rfl) <| y0 rfl (o_cmp rfl rfl rfl) <| y_nil ?_
    refine pw_cond (decide (a0 > a1)) rfl (fun hc => ?_) (fun hc => ?_)
    ·have h := ifT h hc
     refine sR <| y0 rfl (o_assign (d := .int .i64 1) rfl) <| y_nil <| pw_ret ?_
     obtain rfl := Option.some.inj h
     exact ⟨rfl, [_], ⟨rfl, trivial⟩, rfl, io⟩
    ·have h := ifF h hc
     refine pw_skip <| sR <| y0 rfl (o_assign (d := .int .i64 0) rfl) <| y_nil <| pw_ret ?_
     obtain rfl := Option.some.inj h
     exact ⟨rfl, [_], ⟨rfl, trivial⟩, rfl, io⟩

theorem store_Live_1_ok {a0 : Int} {a1 : Int} {a2 : List (Int × Int)} {r : Int} (h : store_Live_1 a0 a1 a2 = some r) : PCalls Tryz.prog 146 [.int .i64 a0, .int .i64 a1, .rptr [.abs (ImMap (List.map (ent (PV.int .i64) (PV.int .i64)) a2))]] (.int .i64 r) := by
 unfold store_Live_1 at h
 refine pc_intro (N := 13) Tryz.func146 rfl rfl nl fun w0 imm0 => sR <| y0 rfl (o_assign (d := .int .i64 0) rfl) <| y_nil <| sR <| y0 rfl (o_loadRS rfl Ty.a172 rfl) <| y0 rfl (o_move (d := .int .i64 a0) rfl) <| y0 rfl (o_lkI (es := a2) (k := a0) (E := (PV.int .i64)) (EK := (PV.int .i64)) (d := .int .i64 ((mget a2 a0).getD (0 : Int))) rfl rfl Ty.mm172 (keyT_int Ty.u3) Ty.z3 rfl (lk1 _ _ _)) ?_
 refine y0 rfl (o_loadRS rfl Ty.a172 rfl) <| y0 rfl (o_move (d := .int .i64 a1) rfl) <| y0 rfl (o_lkI (es := a2) (k := a1) (E := (PV.int .i64)) (EK := (PV.int .i64)) (d := .int .i64 ((mget a2 a1).getD (0 : Int))) rfl rfl Ty.mm172 (keyT_int Ty.u3) Ty.z3 rfl (lk1 _ _ _)) ?_
 obtain ⟨v1, hv1, h⟩ := bindE h
 refine y0 rfl (o_call (ds := [.int .i64 ((mget a2 a0).getD (0 : Int)), .int .i64 ((mget a2 a1).getD (0 : Int))]) rfl Ty.k147 rfl (cmp_Compare_int_ok hv1)) <| y0 rfl (o_assign (d := .int .i64 v1) rfl) <| y_nil <| pw_ret ?_
 obtain rfl := Option.some.inj h
 exact ⟨rfl, [_], ⟨rfl, trivial⟩, rfl, io⟩

theorem store_Live_ok {a0 : store_Store} {r : List Int} (h : store_Live a0 = some r) : PCalls Tryz.prog 123 [store_Store.Pv a0] (.lst false (List.map (PV.int .i64) r)) := by
 unfold store_Live at h
 refine pc_intro (N := 39) Tryz.func123 rfl rfl nl fun w0 imm0 => sR <| y1 rfl (o_box (d := store_Store.Pv a0) (z := 3) (cl := true) rfl rfl rfl rfl rfl) rfl <| y0 rfl (o_assign (d := .lst true (List.map (PV.int .i64) [])) rfl) <| y_nil <| sR <| y0 rfl (o_assign (d := .lst true (List.map (PV.int .i64) [])) rfl) <| y_nil ?_
 refine sR <| y_mkM (KT := Int) (VT := Int) (EK := (PV.int .i64)) (E := (PV.int .i64)) 5000008 rfl rfl <| y1 rfl (o_alloc (d := .abs NilMap) (z := 1) rfl Ty.z172 rfl rfl rfl) rfl <| y_sto (x' := .mp 5000008) (cl' := false) rfl rfl (.inl rfl) Ty.s172 <| y_nil ?_
 obtain ⟨κ17, hκ11, h⟩ := jnE h
 refine pw_jn0 (κ := κ17) (r := r) (fun (q : (List (Int × Int)) × (List Int)) => St.of [(3, .sl 910003), (4, .ptr 4 0 0)] [(4, ⟨[.mp 5000008], 0, false, 1, false⟩), (5000008, ⟨[.mapc (List.map (ent (PV.int .i64) (PV.int .i64)) q.1)], 0, false, 0, false⟩), (910003, ⟨List.map (PV.int .i64) q.2, 0, true, 1, true⟩)]) (fun q20 h => ?_) ?_
 ·subst hκ11
  obtain ⟨j18, j19⟩ := q20
  refine sR <| y0 rfl (o_move (d := .sl 910003) rfl) <| y0 rfl (o_mkFunc rfl) <| y_wk (Wk.trans (wk_mfz0 5000008 nl rfl) (wk_mvC 4 0 5000008 rfl rfl rfl rfl)) ?_
  obtain ⟨v21, hv12, h⟩ := bindE h
  refine y_sort hv12 rfl rfl Ty.k145 sortAt rfl rfl rfl Ty.k146 rfl rfl rfl rfl rfl (fun p q r h => store_Live_1_ok h) <| y_nil <| sR <| y0 rfl (o_move (d := .sl 910003) rfl) <| y0 rfl (o_assign (d := .sl 910003) rfl) <| y_nil <| pw_ret ?_
  obtain rfl := Option.some.inj h
  exact ⟨rfl, [_], ⟨rfl, trivial⟩, rfl, io⟩
 ·skip
  refine sR <| y0 rfl (o_fieldAddrP (k := 0) rfl Ty.f26_0 rfl) <| y0 rfl (o_fieldAddrP (k := 0) rfl Ty.f24_0 rfl) <| y0 rfl (o_loadS rfl rfl rfl Ty.a22 rfl) <| y0 rfl (o_lnL (f := slab_Cell_store_Obj.Pv) rfl Ty.e22) <| y0 rfl (o_move (d := .int .i64 0) rfl) <| y_nil <| pw_block ?_
  obtain ⟨e22, hl13, hk14⟩ := bindE h
  refine pw_lp0 (fun (q : Int × (List (Int × Int)) × (List Int)) => St.of [(3, .sl 910003), (4, .ptr 4 0 0), (11, .lst false (List.map slab_Cell_store_Obj.Pv a0.S.Cells)), (12, .int .i64 (a0.S.Cells.length : Int)), (13, .int .i64 q.1)] [(4, ⟨[.mp 5000008], 0, false, 1, false⟩), (5000008, ⟨[.mapc (List.map (ent (PV.int .i64) (PV.int .i64)) q.2.1)], 0, false, 0, false⟩), (910003, ⟨List.map (PV.int .i64) q.2.2, 0, true, 1, true⟩)]) hl13 (Wk.trans (wk_nil (t := 3) (l := 920003) (z := 1) rfl rfl) (wk_stP (fun l => if l = 910003 then 920003 else l) _ _ ⟨rfl, rfl, rfl, rfl, rfl, rfl, rfl, rfl, rfl, rfl, rfl, rfl, rfl, rfl, rfl, trivial⟩ ⟨rowLe_open rfl rfl rfl (fun q => nomatch q) rfl rfl rfl rfl, rowLe_open rfl rfl rfl (fun q => nomatch q) rfl rfl rfl rfl, rN, trivial⟩ rfl)) (fun q27 x26 h hx15 => ?_)
  obtain ⟨s23, s24, s25⟩ := q27
  refine sR <| y0 rfl (o_cmp rfl rfl rfl) <| y_nil <| pw_seq ?_
  refine pw_cond (decide (s23 < (a0.S.Cells.length : Int))) rfl (fun hc => ?_) (fun hc => ?_)
  ·have h := ifT h hc
   refine pw_skip ?_
   obtain ⟨κ31, hκ19, h⟩ := jnE h
   refine pw_jn0 (κ := κ31) (r := x26) (fun (q : (List (Int × Int)) × (List Int)) => St.of [(3, .sl 33), (4, .ptr 4 0 0), (11, .lst false (List.map slab_Cell_store_Obj.Pv a0.S.Cells)), (12, .int .i64 (a0.S.Cells.length : Int)), (13, .int .i64 s23)] [(4, ⟨[.mp 5000008], 0, false, 1, false⟩), (5000008, ⟨[.mapc (List.map (ent (PV.int .i64) (PV.int .i64)) q.1)], 0, false, 0, false⟩), (33, ⟨List.map (PV.int .i64) q.2, 0, true, 1, true⟩)]) (fun q34 h => ?_) ?_
   ·subst hκ19
    obtain ⟨j32, j33⟩ := q34
    refine sr1 (by kernel_rfl) <| y0 rfl (o_ari rfl rfl rfl) <| y0 rfl (o_move (d := .int .i64 (w64 (s23 + 1))) rfl) <| y_nil ?_
    exact ⟨rfl, (w64 (s23 + 1), j32, j33), (Option.some.inj h).symm, (wk_stP (fun l => if l = 910003 then 33 else l) _ _ ⟨rfl, rfl, rfl, rfl, rfl, rfl, rfl, rfl, rfl, rfl, rfl, rfl, rfl, rfl, rfl, trivial⟩ ⟨rowLe_open rfl rfl rfl (fun q => nomatch q) rfl rfl rfl rfl, rowLe_open rfl rfl rfl (fun q => nomatch q) rfl rfl rfl rfl, rN, trivial⟩ rfl)⟩
   ·skip
    refine pw_block <| sR <| y0 rfl (o_move (d := .int .i64 s23) rfl) ?_
    obtain ⟨v35, hv20, h⟩ := bindE h
    refine y0 rfl (o_ixL (f := slab_Cell_store_Obj.Pv) (cs := slab_Cell_store_Obj.Pc v35) hv20 rfl rfl Ty.e22 Ty.s88 rfl rfl) <| y0 rfl (o_loadRA (cs := slab_Cell_store_Obj.Pc v35) rfl Ty.a88 Ty.s88 nl rfl) <| y1 rfl (o_alloc (d := .agg [.int .i64 0, .int .i64 0, .int .i64 0, .int .i64 0, .int .i64 0, .int .i64 0, .bool false, .lst true (List.map (PV.int .i64) [])]) (z := 8) rfl Ty.z88 rfl rfl rfl) rfl <| y0 rfl (o_assign (d := .int .i64 s23) rfl) <| y_sto (x' := slab_Cell_store_Obj.Pv v35) (cl' := true) rfl rfl (.inr rfl) Ty.s88 <| y_nil <| sR <| y0 rfl (o_fieldAddrP (k := 0) rfl Ty.f88_0 rfl) ?_
    refine y0 rfl (o_loadS rfl rfl rfl Ty.a3 rfl) <| y0 rfl (o_cmp rfl rfl rfl) <| y_nil ?_
    refine pw_cond (v35.State == 1) rfl (fun hc => ?_) (fun hc => ?_)
    ·have h := ifT h hc
     refine sR <| y0 rfl (o_move (d := .int .i64 s23) rfl) <| y0 rfl (o_fieldAddrP (k := 1) rfl Ty.f88_1 rfl) <| y0 rfl (o_loadS rfl rfl rfl Ty.a3 rfl) ?_
     obtain ⟨v36, hv21, h⟩ := bindE h
     refine y0 rfl (o_call (ds := [.int .i64 s23, .int .i64 v35.Gen]) rfl Ty.k141 rfl (handle_Pack_ok hv21)) <| y0 rfl (o_assign (d := .int .i64 v36) rfl) <| y_nil <| sR <| y0 rfl (o_loadS rfl rfl rfl Ty.a172 rfl) <| y0 rfl (o_move (d := .int .i64 v36) rfl) <| y0 rfl (o_fieldAddrP (k := 2) rfl Ty.f88_2 rfl) <| y0 rfl (o_fieldAddrP (k := 2) rfl Ty.f73_0 rfl) ?_
     refine y0 rfl (o_loadS rfl rfl rfl Ty.a3 rfl) <| y_setM (es := s24) (k := v36) (v := v35.Val.Serial) (E := (PV.int .i64)) (EK := (PV.int .i64)) (.inl rfl) rfl rfl rfl rfl rfl rfl Ty.mm172 (keyT_int Ty.u3) <| y_nil <| sr1 (by kernel_rfl) <| y0 rfl (o_move (d := .sl 910003) rfl) <| y0 rfl (o_move (d := .int .i64 v36) rfl) <| y0 rfl (o_bI (f := (PV.int .i64)) (l := [v36]) rfl Ty.e28 Ty.s3 Ty.z3 rfl rfl nl rfl rfl) ?_
     obtain ⟨v37, hv22, h⟩ := bindE h
     refine y_apO (f := (PV.int .i64)) (b := 8) [(4, .ptr 4 0 0), (11, .lst false (List.map slab_Cell_store_Obj.Pv a0.S.Cells)), (12, .int .i64 (a0.S.Cells.length : Int)), (13, .int .i64 s23), (14, .bool (decide (s23 < (a0.S.Cells.length : Int)))), (15, .int .i64 s23), (16, .rptr (slab_Cell_store_Obj.Pc v35)), (17, slab_Cell_store_Obj.Pv v35), (6, .ptr 6 0 0), (5, .int .i64 s23), (18, .ptr 6 0 0), (19, .int .i64 v35.State), (20, .bool (v35.State == 1)), (21, .int .i64 s23), (22, .ptr 6 0 1), (23, .int .i64 v35.Gen), (24, .int .i64 v36), (7, .int .i64 v36), (25, .mp 5000008), (26, .int .i64 v36), (27, .ptr 6 0 2), (28, .ptr 6 0 2), (29, .int .i64 v35.Val.Serial), (31, .int .i64 v36), (32, .lst true (List.map (PV.int .i64) [v36]))] [(6, ⟨[slab_Cell_store_Obj.Pv v35], 0, false, 8, true⟩), (5000008, ⟨[.mapc (List.map (ent (PV.int .i64) (PV.int .i64)) (mput s24 v36 v35.Val.Serial))], 0, false, 0, false⟩), (4, ⟨[.mp 5000008], 0, false, 1, false⟩)] rfl hv22 ⟨rfl, rfl, rfl, rfl, rfl, rfl, rfl, rfl, rfl, rfl, rfl, rfl, rfl, rfl, rfl, rfl, rfl, rfl, rfl, rfl, rfl, rfl, rfl, rfl, rfl, rfl, rfl, rfl, rfl, rfl, rfl, rfl, rfl, rfl, rfl, rfl, rfl, rfl, rfl, rfl, rfl, rfl, rfl, rfl, rfl, rfl, rfl, rfl, rfl, rfl, rfl, rfl, rfl, rfl, rfl, rfl, rfl, rfl, rfl, rfl, rfl, rfl, rfl, rfl, rfl, rfl, rfl, rfl, rfl, rfl, rfl, rfl, rfl, rfl, rfl, trivial⟩ ⟨rS, rowLe_open rfl rfl rfl (fun q => nomatch q) rfl rfl rfl rfl, rowLe_open rfl rfl rfl (fun q => nomatch q) rfl rfl rfl rfl, trivial⟩ rfl rfl rfl rfl (.inl ⟨_, rfl, rfl⟩) Ty.e28 Ty.s3 Ty.b3 Ty.z3 rfl (fun _ => rfl) <| y0 rfl (o_assign (d := .sl 33) rfl) <| y_nil ?_
     exact ⟨rfl, ((mput s24 v36 v35.Val.Serial), v37), h, (wk_st _ _ ⟨rfl, rfl, rfl, rfl, rfl, rfl, rfl, rfl, rfl, rfl, rfl, rfl, rfl, rfl, rfl, trivial⟩ ⟨rowLe_open rfl rfl rfl (fun q => nomatch q) rfl rfl rfl rfl, rowLe_open rfl rfl rfl (fun q => nomatch q) rfl rfl rfl rfl, rS, trivial⟩)⟩
    ·have h := ifF h hc
     refine pw_skip ?_
     exact ⟨rfl, (s24, s25), h, (wk_stP (fun l => if l = 33 then 910003 else l) _ _ ⟨rfl, rfl, rfl, rfl, rfl, rfl, rfl, rfl, rfl, rfl, rfl, rfl, rfl, rfl, rfl, trivial⟩ ⟨rowLe_open rfl rfl rfl (fun q => nomatch q) rfl rfl rfl rfl, rowLe_open rfl rfl rfl (fun q => nomatch q) rfl rfl rfl rfl, rN, trivial⟩ rfl)⟩
  ·have h := ifF h hc
   refine pw_exit <| thenQ_exit <| thenQ_exit <| blockQ_exit ?_
   have he := hx15 _ (Option.some.inj h).symm
   have h := hk14
   rw [← he] at h
   exact ⟨rfl, (s24, s25), h, (wk_st _ _ ⟨rfl, rfl, rfl, rfl, rfl, rfl, trivial⟩ ⟨rowLe_open rfl rfl rfl (fun q => nomatch q) rfl rfl rfl rfl, rowLe_open rfl rfl rfl (fun q => nomatch q) rfl rfl rfl rfl, rS, trivial⟩)⟩

theorem queue_New_int_ok {a0 : Int} {r : queue_Queue_int} (h : queue_New_int a0 = some r) : PCalls Tryz.prog 122 [.int .i64 a0] (queue_Queue_int.Pv r) := by
 unfold queue_New_int at h
 refine pc_intro (N := 5) Tryz.func122 rfl rfl nl fun w0 imm0 => sR <| y1 rfl (o_alloc (d := .agg [.lst true (List.map (PV.int .i64) []), .int .i64 0]) (z := 2) rfl Ty.z148 rfl rfl rfl) rfl <| y_nil <| sR <| y0 rfl (o_move (d := .int .i64 a0) rfl) <| y0 rfl (o_build (cs := [.lst true (List.map (PV.int .i64) []), .int .i64 a0]) rfl Ty.p148 Ty.z148 rfl rfl rfl) <| y_sto (x' := .agg [.lst true (List.map (PV.int .i64) []), .int .i64 a0]) (cl' := true) rfl rfl (.inl rfl) Ty.s148 ?_
 refine y_nil <| pw_ret ?_
 obtain rfl := Option.some.inj h
 exact ⟨rfl, [_], ⟨o_loadA rfl rfl rfl Ty.a148 Ty.s148 nl rfl, trivial⟩, rfl, io⟩

theorem handle_parts_ok {a0 : Int} {r : Int × Int × Bool} (h : handle_parts a0 = some r) : PCalls Tryz.prog 165 [.int .i64 a0] (.tup [.int .i64 r.1, .int .i64 r.2.1, .bool r.2.2]) := by
 unfold handle_parts at h
 refine pc_intro (N := 22) Tryz.func165 rfl rfl nl fun w0 imm0 => sR <| y0 rfl (o_assign (d := .int .i64 0) rfl) <| y0 rfl (o_assign (d := .int .i64 0) rfl) <| y0 rfl (o_assign (d := .bool false) rfl) <| y_nil <| pw_seq <| sR ?_
 refine y0 rfl (o_move (d := .int .i64 a0) rfl) <| y0 rfl (o_cmp rfl rfl rfl) <| y_nil ?_
 refine pw_cond (decide (a0 < 1)) rfl (fun hc => ?_) (fun hc => ?_)
 ·have h := ifT h hc
  refine sR <| y0 rfl (o_assign (d := .int .i64 (-1)) rfl) <| y0 rfl (o_assign (d := .int .i64 (-1)) rfl) <| y0 rfl (o_assign (d := .bool false) rfl) <| y_nil <| pw_ret ?_
  obtain rfl := Option.some.inj h
  exact ⟨rfl, [_, _, _], ⟨rfl, ⟨rfl, ⟨rfl, trivial⟩⟩⟩, rfl, io⟩
 ·have h := ifF h hc
  refine pw_skip <| sR <| y0 rfl (o_move (d := .int .i64 a0) rfl) <| y0 rfl (o_ari rfl rfl rfl) ?_
  obtain ⟨v1, hv1, h⟩ := bindE h
  refine y0 rfl (o_ari rfl rfl hv1) ?_
  obtain ⟨v2, hv2, h⟩ := bindE h
  refine y0 rfl (o_ari rfl rfl hv2) <| y0 rfl (o_move (d := .int .i64 a0) rfl) <| y0 rfl (o_ari rfl rfl rfl) ?_
  obtain ⟨v3, hv3, h⟩ := bindE h
  refine y0 rfl (o_ari rfl rfl hv3) <| y0 rfl (o_assign (d := .int .i64 v2) rfl) <| y0 rfl (o_assign (d := .int .i64 v3) rfl) <| y_nil <| pw_seq <| sR <| y0 rfl (o_move (d := .int .i64 v2) rfl) <| y0 rfl (o_cmp rfl rfl rfl) ?_
  refine y0 rfl (o_move (d := .bool (decide (v2 ≥ 24))) rfl) <| y_if (g := ((decide (v2 ≥ 24)) == false)) rfl (fun hg => o_move (d := .int .i64 v3) rfl) <| y_if (g := ((decide (v2 ≥ 24)) == false)) rfl (fun hg => o_cmp (ct hg) rfl rfl) <| y0 rfl (pk_or rfl rfl rfl (fun q => eqF q)) <| y_nil ?_
  refine pw_cond ((decide (v2 ≥ 24)) || (decide (v3 > 9))) rfl (fun hc => ?_) (fun hc => ?_)
  ·have h := ifT h hc
   refine sR <| y0 rfl (o_assign (d := .int .i64 (-1)) rfl) <| y0 rfl (o_assign (d := .int .i64 (-1)) rfl) <| y0 rfl (o_assign (d := .bool false) rfl) <| y_nil <| pw_ret ?_
   obtain rfl := Option.some.inj h
   exact ⟨rfl, [_, _, _], ⟨rfl, ⟨rfl, ⟨rfl, trivial⟩⟩⟩, rfl, io⟩
  ·have h := ifF h hc
   refine pw_skip <| sR <| y0 rfl (o_move (d := .int .i64 v2) rfl) <| y0 rfl (o_move (d := .int .i64 v3) rfl) <| y0 rfl (o_assign (d := .int .i64 v2) rfl) <| y0 rfl (o_assign (d := .int .i64 v3) rfl) <| y0 rfl (o_assign (d := .bool true) rfl) <| y_nil ?_
   refine pw_ret ?_
   obtain rfl := Option.some.inj h
   exact ⟨rfl, [_, _, _], ⟨rfl, ⟨rfl, ⟨rfl, trivial⟩⟩⟩, rfl, io⟩

theorem handle_Slot_ok {a0 : Int} {r : Int} (h : handle_Slot a0 = some r) : PCalls Tryz.prog 156 [.int .i64 a0] (.int .i64 r) := by
 unfold handle_Slot at h
 refine pc_intro (N := 13) Tryz.func156 rfl rfl nl fun w0 imm0 => sR <| y0 rfl (o_assign (d := .int .i64 0) rfl) <| y_nil <| sR <| y0 rfl (o_move (d := .int .i64 a0) rfl) ?_
 obtain ⟨v1, hv1, h⟩ := bindE h
 refine y0 rfl (o_call (ds := [.int .i64 a0]) rfl Ty.k165 rfl (handle_parts_ok hv1)) <| y0 rfl (o_move (d := .tup [.int .i64 v1.1, .int .i64 v1.2.1, .bool v1.2.2]) rfl) <| y0 rfl (o_extract rfl rfl) <| y0 rfl (o_extract rfl rfl) <| y0 rfl (o_extract rfl rfl) <| y0 rfl (o_assign (d := .int .i64 v1.1) rfl) <| y0 rfl (o_assign (d := .int .i64 v1.2.1) rfl) <| y0 rfl (o_assign (d := .bool v1.2.2) rfl) ?_
 refine y_nil <| sR <| y0 rfl (o_move (d := .int .i64 v1.1) rfl) <| y0 rfl (o_assign (d := .int .i64 v1.1) rfl) <| y_nil <| pw_ret ?_
 obtain rfl := Option.some.inj h
 exact ⟨rfl, [_], ⟨rfl, trivial⟩, rfl, io⟩

theorem handle_Gen_ok {a0 : Int} {r : Int} (h : handle_Gen a0 = some r) : PCalls Tryz.prog 157 [.int .i64 a0] (.int .i64 r) := by
 unfold handle_Gen at h
 refine pc_intro (N := 13) Tryz.func157 rfl rfl nl fun w0 imm0 => sR <| y0 rfl (o_assign (d := .int .i64 0) rfl) <| y_nil <| sR <| y0 rfl (o_move (d := .int .i64 a0) rfl) ?_
 obtain ⟨v1, hv1, h⟩ := bindE h
 refine y0 rfl (o_call (ds := [.int .i64 a0]) rfl Ty.k165 rfl (handle_parts_ok hv1)) <| y0 rfl (o_move (d := .tup [.int .i64 v1.1, .int .i64 v1.2.1, .bool v1.2.2]) rfl) <| y0 rfl (o_extract rfl rfl) <| y0 rfl (o_extract rfl rfl) <| y0 rfl (o_extract rfl rfl) <| y0 rfl (o_assign (d := .int .i64 v1.1) rfl) <| y0 rfl (o_assign (d := .int .i64 v1.2.1) rfl) <| y0 rfl (o_assign (d := .bool v1.2.2) rfl) ?_
 refine y_nil <| sR <| y0 rfl (o_move (d := .int .i64 v1.2.1) rfl) <| y0 rfl (o_assign (d := .int .i64 v1.2.1) rfl) <| y_nil <| pw_ret ?_
 obtain rfl := Option.some.inj h
 exact ⟨rfl, [_], ⟨rfl, trivial⟩, rfl, io⟩

theorem slab_Find_store_Obj_ok {a0 : slab_Slab_store_Obj} {a1 : Int} {r : Int × Int} (h : slab_Find_store_Obj a0 a1 = some r) : PCalls Tryz.prog 138 [slab_Slab_store_Obj.Pv a0, .int .i64 a1] (.tup [.int .i64 r.1, .int .i64 r.2]) := by
 unfold slab_Find_store_Obj at h
 refine pc_intro (N := 42) Tryz.func138 rfl rfl nl fun w0 imm0 => sR <| y1 rfl (o_box (d := slab_Slab_store_Obj.Pv a0) (z := 2) (cl := true) rfl rfl rfl rfl rfl) rfl <| y0 rfl (o_assign (d := .int .i64 0) rfl) <| y0 rfl (o_assign (d := .int .i64 0) rfl) <| y_nil <| pw_seq <| sR ?_
 refine y0 rfl (o_move (d := .int .i64 a1) rfl) <| y0 rfl (o_cmp rfl rfl rfl) <| y_nil ?_
 refine pw_cond (a1 == 0) rfl (fun hc => ?_) (fun hc => ?_)
 ·have h := ifT h hc
  refine sR <| y0 rfl (o_assign (d := .int .i64 (-1)) rfl) <| y0 rfl (o_assign (d := .int .i64 2) rfl) <| y_nil <| pw_ret ?_
  obtain rfl := Option.some.inj h
  exact ⟨rfl, [_, _], ⟨rfl, ⟨rfl, trivial⟩⟩, rfl, io⟩
 ·have h := ifF h hc
  refine pw_skip <| sR <| y0 rfl (o_move (d := .int .i64 a1) rfl) ?_
  obtain ⟨v1, hv1, h⟩ := bindE h
  refine y0 rfl (o_call (ds := [.int .i64 a1]) rfl Ty.k156 rfl (handle_Slot_ok hv1)) <| y0 rfl (o_assign (d := .int .i64 v1) rfl) <| y_nil <| pw_seq <| sR <| y0 rfl (o_move (d := .int .i64 v1) rfl) <| y0 rfl (o_cmp rfl rfl rfl) <| y0 rfl (o_move (d := .bool (decide (v1 < 0))) rfl) ?_
  refine y_if (g := ((decide (v1 < 0)) == false)) rfl (fun hg => o_move (d := .int .i64 v1) rfl) <| y_if (g := ((decide (v1 < 0)) == false)) rfl (fun hg => o_fieldAddrP (k := 0) rfl Ty.f24_0 rfl) <| y_if (g := ((decide (v1 < 0)) == false)) rfl (fun hg => o_loadS (ct hg) rfl rfl Ty.a22 rfl) <| y_if (g := ((decide (v1 < 0)) == false)) rfl (fun hg => o_lnL (f := slab_Cell_store_Obj.Pv) (ct hg) Ty.e22) <| y_if (g := ((decide (v1 < 0)) == false)) rfl (fun hg => o_cmp (ct hg) (ct hg) rfl) <| y0 rfl (pk_or rfl rfl rfl (fun q => eqF q)) <| y_nil ?_
  refine pw_cond ((decide (v1 < 0)) || (decide (v1 ≥ (a0.Cells.length : Int)))) rfl (fun hc => ?_) (fun hc => ?_)
  ·have h := ifT h hc
   refine sR <| y0 rfl (o_assign (d := .int .i64 (-1)) rfl) <| y0 rfl (o_assign (d := .int .i64 3) rfl) <| y_nil <| pw_ret ?_
   obtain rfl := Option.some.inj h
   exact ⟨rfl, [_, _], ⟨rfl, ⟨rfl, trivial⟩⟩, rfl, io⟩
  ·have h := ifF h hc
   refine pw_skip <| sR <| y0 rfl (o_fieldAddrP (k := 0) rfl Ty.f24_0 rfl) <| y0 rfl (o_loadS rfl rfl rfl Ty.a22 rfl) <| y0 rfl (o_move (d := .int .i64 v1) rfl) ?_
   obtain ⟨v2, hv2, h⟩ := bindE h
   refine y0 rfl (o_ixL (f := slab_Cell_store_Obj.Pv) (cs := slab_Cell_store_Obj.Pc v2) hv2 rfl rfl Ty.e22 Ty.s88 rfl rfl) <| y0 rfl (o_loadRA (cs := slab_Cell_store_Obj.Pc v2) rfl Ty.a88 Ty.s88 nl rfl) <| y1 rfl (o_alloc (d := .agg [.int .i64 0, .int .i64 0, .int .i64 0, .int .i64 0, .int .i64 0, .int .i64 0, .bool false, .lst true (List.map (PV.int .i64) [])]) (z := 8) rfl Ty.z88 rfl rfl rfl) rfl <| y_sto (x' := slab_Cell_store_Obj.Pv v2) (cl' := true) rfl rfl (.inr rfl) Ty.s88 <| y_nil <| pw_seq <| dr [] Ty.mix (by kernel_rfl) (by kernel_rfl) <| d7 rfl (fun _ hN => o_fieldAddrP (k := 1) rfl Ty.f88_1 rfl) rfl ?_
   refine d0 rfl (o_loadS rfl rfl rfl Ty.a3 rfl) rfl <| d7 rfl (fun _ hN => o_move (d := .int .i64 a1) rfl) rfl ?_
   obtain ⟨v3, hv3, h⟩ := bindE h
   refine d2 rfl (o_call (ds := [.int .i64 a1]) rfl Ty.k157 rfl (handle_Gen_ok hv3)) rfl <| d7 rfl (fun _ hN => o_cmp rfl rfl rfl) rfl <| d7 rfl (fun _ hN => o_move (d := .bool (v2.Gen != v3)) rfl) rfl <| d_if7 (g := ((v2.Gen != v3) == false)) rfl (fun hg _ hN => o_fieldAddrP (k := 0) rfl Ty.f88_0 rfl) rfl <| d_if0 (g := ((v2.Gen != v3) == false)) rfl (fun hg => o_loadS (ct hg) rfl rfl Ty.a3 rfl) rfl <| d_if7 (g := ((v2.Gen != v3) == false)) rfl (fun hg _ hN => o_cmp (ct hg) rfl rfl) rfl <| d_if7 (g := ((v2.Gen != v3) == false)) rfl (fun hg _ hN => o_move (d := .bool (v2.State != 1)) (ct hg)) rfl <| d_if7 (g := (((v2.Gen != v3) == false) && ((v2.State != 1) == true))) (want2 rfl rfl rfl) (fun hg _ hN => o_fieldAddrP (k := 0) rfl Ty.f88_0 rfl) rfl ?_
   refine d_if0 (g := (((v2.Gen != v3) == false) && ((v2.State != 1) == true))) (want2 rfl rfl rfl) (fun hg => o_loadS (ct hg) rfl rfl Ty.a3 rfl) rfl <| d_if7 (g := (((v2.Gen != v3) == false) && ((v2.State != 1) == true))) (want2 rfl rfl rfl) (fun hg _ hN => o_cmp (ct hg) rfl rfl) rfl <| d_if7 (g := ((v2.Gen != v3) == false)) rfl (fun hg _ hN => pk_and (ct hg) rfl rfl (fun q => andI hg (eqT q))) rfl <| d7 rfl (fun _ hN => pk_or rfl rfl rfl (fun q => eqF q)) rfl <| d_nil ?_
   refine pw_cond ((v2.Gen != v3) || ((v2.State != 1) && (v2.State != 2))) rfl (fun hc => ?_) (fun hc => ?_)
   ·have h := ifT h hc
    refine sR <| y0 rfl (o_assign (d := .int .i64 (-1)) rfl) <| y0 rfl (o_assign (d := .int .i64 3) rfl) <| y_nil <| pw_ret ?_
    obtain rfl := Option.some.inj h
    exact ⟨rfl, [_, _], ⟨rfl, ⟨rfl, trivial⟩⟩, rfl, io⟩
   ·have h := ifF h hc
    refine pw_skip <| sR <| y0 rfl (o_move (d := .int .i64 v1) rfl) <| y0 rfl (o_assign (d := .int .i64 v1) rfl) <| y0 rfl (o_assign (d := .int .i64 0) rfl) <| y_nil <| pw_ret ?_
    obtain rfl := Option.some.inj h
    exact ⟨rfl, [_, _], ⟨rfl, ⟨rfl, trivial⟩⟩, rfl, io⟩

theorem slab_Get_store_Obj_ok {a0 : slab_Slab_store_Obj} {a1 : Int} {r : store_Obj × Int} (h : slab_Get_store_Obj a0 a1 = some r) : PCalls Tryz.prog 100 [slab_Slab_store_Obj.Pv a0, .int .i64 a1] (.tup [store_Obj.Pv r.1, .int .i64 r.2]) := by
 unfold slab_Get_store_Obj at h
 refine pc_intro (N := 33) Tryz.func100 rfl rfl nl fun w0 imm0 => sR <| y1 rfl (o_box (d := slab_Slab_store_Obj.Pv a0) (z := 2) (cl := true) rfl rfl rfl rfl rfl) rfl <| y1 rfl (o_alloc (d := .agg [.int .i64 0, .int .i64 0, .int .i64 0, .int .i64 0, .bool false, .lst true (List.map (PV.int .i64) [])]) (z := 6) rfl Ty.z73 rfl rfl rfl) rfl <| y0 rfl (o_assign (d := .int .i64 0) rfl) <| y_nil <| sR <| y1 rfl (o_alloc (d := .agg [.int .i64 0, .int .i64 0, .int .i64 0, .int .i64 0, .bool false, .lst true (List.map (PV.int .i64) [])]) (z := 6) rfl Ty.z73 rfl rfl rfl) rfl ?_
 refine y_nil <| sR <| y0 rfl (o_loadA (cs := slab_Slab_store_Obj.Pc a0) rfl rfl rfl Ty.a24 Ty.s24 nl rfl) <| y0 rfl (o_move (d := .int .i64 a1) rfl) ?_
 obtain ⟨v1, hv1, h⟩ := bindE h
 refine y0 rfl (o_call (ds := [slab_Slab_store_Obj.Pv a0, .int .i64 a1]) rfl Ty.k138 rfl (slab_Find_store_Obj_ok hv1)) <| y0 rfl (o_move (d := .tup [.int .i64 v1.1, .int .i64 v1.2]) rfl) <| y0 rfl (o_extract rfl rfl) <| y0 rfl (o_extract rfl rfl) <| y0 rfl (o_assign (d := .int .i64 v1.1) rfl) <| y0 rfl (o_assign (d := .int .i64 v1.2) rfl) <| y_nil <| pw_seq ?_
 refine sR <| y0 rfl (o_move (d := .int .i64 v1.2) rfl) <| y0 rfl (o_cmp rfl rfl rfl) <| y_nil ?_
 refine pw_cond (v1.2 != 0) rfl (fun hc => ?_) (fun hc => ?_)
 ·have h := ifT h hc
  refine sR <| y0 rfl (o_loadA (cs := [.int .i64 0, .int .i64 0, .int .i64 0, .int .i64 0, .bool false, .lst true (List.map (PV.int .i64) [])]) rfl rfl rfl Ty.a73 Ty.s73 nl rfl) <| y0 rfl (o_move (d := .int .i64 v1.2) rfl) <| y_sto (x' := .agg [.int .i64 0, .int .i64 0, .int .i64 0, .int .i64 0, .bool false, .lst true (List.map (PV.int .i64) [])]) (cl' := true) rfl rfl (.inl rfl) Ty.s73 <| y0 rfl (o_assign (d := .int .i64 v1.2) rfl) <| y_nil <| pw_ret ?_
  obtain rfl := Option.some.inj h
  exact ⟨rfl, [_, _], ⟨o_loadA rfl rfl rfl Ty.a73 Ty.s73 nl rfl, ⟨rfl, trivial⟩⟩, rfl, io⟩
 ·have h := ifF h hc
  refine pw_skip <| pw_seq <| sR <| y0 rfl (o_fieldAddrP (k := 0) rfl Ty.f24_0 rfl) <| y0 rfl (o_loadS rfl rfl rfl Ty.a22 rfl) <| y0 rfl (o_move (d := .int .i64 v1.1) rfl) ?_
  obtain ⟨v2, hv2, h⟩ := bindE h
  refine y0 rfl (o_ixL (f := slab_Cell_store_Obj.Pv) (cs := slab_Cell_store_Obj.Pc v2) hv2 rfl rfl Ty.e22 Ty.s88 rfl rfl) <| y0 rfl (o_fieldAddrR rfl Ty.f88_0 rfl) <| y0 rfl (o_loadRS rfl Ty.a3 rfl) <| y0 rfl (o_cmp rfl rfl rfl) <| y_nil ?_
  refine pw_cond (v2.State == 2) rfl (fun hc => ?_) (fun hc => ?_)
  ·have h := ifT h hc
   refine sR <| y0 rfl (o_loadA (cs := [.int .i64 0, .int .i64 0, .int .i64 0, .int .i64 0, .bool false, .lst true (List.map (PV.int .i64) [])]) rfl rfl rfl Ty.a73 Ty.s73 nl rfl) <| y_sto (x' := .agg [.int .i64 0, .int .i64 0, .int .i64 0, .int .i64 0, .bool false, .lst true (List.map (PV.int .i64) [])]) (cl' := true) rfl rfl (.inl rfl) Ty.s73 <| y0 rfl (o_assign (d := .int .i64 3) rfl) <| y_nil <| pw_ret ?_
   obtain rfl := Option.some.inj h
   exact ⟨rfl, [_, _], ⟨o_loadA rfl rfl rfl Ty.a73 Ty.s73 nl rfl, ⟨rfl, trivial⟩⟩, rfl, io⟩
  ·have h := ifF h hc
   refine pw_skip <| sR <| y0 rfl (o_fieldAddrP (k := 0) rfl Ty.f24_0 rfl) <| y0 rfl (o_loadS rfl rfl rfl Ty.a22 rfl) <| y0 rfl (o_move (d := .int .i64 v1.1) rfl) <| y0 rfl (o_ixL (f := slab_Cell_store_Obj.Pv) (cs := slab_Cell_store_Obj.Pc v2) hv2 rfl rfl Ty.e22 Ty.s88 rfl rfl) <| y0 rfl (o_fieldAddrR rfl Ty.f88_2 rfl) <| y0 rfl (o_loadRA (cs := store_Obj.Pc v2.Val) rfl Ty.a73 Ty.s73 nl rfl) ?_
   refine y_sto (x' := store_Obj.Pv v2.Val) (cl' := true) rfl rfl (.inr rfl) Ty.s73 <| y0 rfl (o_assign (d := .int .i64 0) rfl) <| y_nil <| pw_ret ?_
   obtain rfl := Option.some.inj h
   exact ⟨rfl, [_, _], ⟨o_loadA rfl rfl rfl Ty.a73 Ty.s73 nl rfl, ⟨rfl, trivial⟩⟩, rfl, io⟩

theorem store_Get_ok {a0 : store_Store} {a1 : Int} {r : store_Obj × Int} (h : store_Get a0 a1 = some r) : PCalls Tryz.prog 54 [store_Store.Pv a0, .int .i64 a1] (.tup [store_Obj.Pv r.1, .int .i64 r.2]) := by
 unfold store_Get at h
 refine pc_intro (N := 12) Tryz.func54 rfl rfl nl fun w0 imm0 => sR <| y1 rfl (o_box (d := store_Store.Pv a0) (z := 3) (cl := true) rfl rfl rfl rfl rfl) rfl <| y1 rfl (o_alloc (d := .agg [.int .i64 0, .int .i64 0, .int .i64 0, .int .i64 0, .bool false, .lst true (List.map (PV.int .i64) [])]) (z := 6) rfl Ty.z73 rfl rfl rfl) rfl <| y0 rfl (o_assign (d := .int .i64 0) rfl) <| y_nil <| sR <| y0 rfl (o_fieldAddrP (k := 0) rfl Ty.f26_0 rfl) ?_
 refine y0 rfl (o_loadA (cs := slab_Slab_store_Obj.Pc a0.S) rfl rfl rfl Ty.a24 Ty.s24 nl rfl) <| y0 rfl (o_move (d := .int .i64 a1) rfl) ?_
 obtain ⟨v1, hv1, h⟩ := bindE h
 refine yc rfl (o_callF (ls := []) (ds := [slab_Slab_store_Obj.Pv a0.S, .int .i64 a1]) rfl Ty.k100 rfl (slab_Get_store_Obj_ok hv1)) <| y0 rfl (o_extract rfl rfl) <| y0 rfl (o_extract rfl rfl) <| y_sto (x' := store_Obj.Pv v1.1) (cl' := true) rfl rfl (.inr rfl) Ty.s73 <| y0 rfl (o_assign (d := .int .i64 v1.2) rfl) <| y_nil <| pw_ret ?_
 obtain rfl := Option.some.inj h
 exact ⟨rfl, [_, _], ⟨o_loadA rfl rfl rfl Ty.a73 Ty.s73 nl rfl, ⟨rfl, trivial⟩⟩, rfl, io⟩

theorem reach_isLive_ok {a0 : store_Store} {a1 : Int} {r : Bool} (h : reach_isLive a0 a1 = some r) : PCalls Tryz.prog 116 [store_Store.Pv a0, .int .i64 a1] (.bool r) := by
 unfold reach_isLive at h
 refine pc_intro (N := 15) Tryz.func116 rfl rfl nl fun w0 imm0 => sR <| y1 rfl (o_box (d := store_Store.Pv a0) (z := 3) (cl := true) rfl rfl rfl rfl rfl) rfl <| y0 rfl (o_assign (d := .bool false) rfl) <| y_nil <| sR <| y0 rfl (o_loadA (cs := store_Store.Pc a0) rfl rfl rfl Ty.a26 Ty.s26 nl rfl) <| y0 rfl (o_move (d := .int .i64 a1) rfl) ?_
 obtain ⟨v1, hv1, h⟩ := bindE h
 refine yc rfl (o_callF (ls := []) (ds := [store_Store.Pv a0, .int .i64 a1]) rfl Ty.k54 rfl (store_Get_ok hv1)) <| y0 rfl (o_move (d := .tup [store_Obj.Pv v1.1, .int .i64 v1.2]) rfl) <| y0 rfl (o_extract rfl rfl) <| y0 rfl (o_extract rfl rfl) <| y1 rfl (o_alloc (d := .agg [.int .i64 0, .int .i64 0, .int .i64 0, .int .i64 0, .bool false, .lst true (List.map (PV.int .i64) [])]) (z := 6) rfl Ty.z73 rfl rfl rfl) rfl <| y_sto (x' := store_Obj.Pv v1.1) (cl' := true) rfl rfl (.inr rfl) Ty.s73 <| y0 rfl (o_assign (d := .int .i64 v1.2) rfl) <| y_nil ?_
 refine sR <| y0 rfl (o_move (d := .int .i64 v1.2) rfl) <| y0 rfl (o_cmp rfl rfl rfl) <| y0 rfl (o_assign (d := .bool (v1.2 == 0)) rfl) <| y_nil <| pw_ret ?_
 obtain rfl := Option.some.inj h
 exact ⟨rfl, [_], ⟨rfl, trivial⟩, rfl, io⟩

theorem queue_Len_int_ok {a0 : queue_Queue_int} {r : Int} (h : queue_Len_int a0 = some r) : PCalls Tryz.prog 126 [queue_Queue_int.Pv a0] (.int .i64 r) := by
 unfold queue_Len_int at h
 refine pc_intro (N := 6) Tryz.func126 rfl rfl nl fun w0 imm0 => sR <| y1 rfl (o_box (d := queue_Queue_int.Pv a0) (z := 2) (cl := true) rfl rfl rfl rfl rfl) rfl <| y0 rfl (o_assign (d := .int .i64 0) rfl) <| y_nil <| sR <| y0 rfl (o_fieldAddrP (k := 0) rfl Ty.f148_0 rfl) <| y0 rfl (o_loadS rfl rfl rfl Ty.a28 rfl) ?_
 refine y0 rfl (o_lnL (f := (PV.int .i64)) rfl Ty.e28) <| y0 rfl (o_assign (d := .int .i64 (a0.L.length : Int)) rfl) <| y_nil <| pw_ret ?_
 obtain rfl := Option.some.inj h
 exact ⟨rfl, [_], ⟨rfl, trivial⟩, rfl, io⟩

theorem queue_part_int_ok {a0 : List Int} {a1 : Int} {a2 : Int} {r : List Int} (h : queue_part_int a0 a1 a2 = some r) : PCalls Tryz.prog 148 [.lst false (List.map (PV.int .i64) a0), .int .i64 a1, .int .i64 a2] (.lst true (List.map (PV.int .i64) r)) := by
 unfold queue_part_int at h
 refine pc_intro (N := 12) Tryz.func148 rfl rfl nl fun w0 imm0 => sR <| y0 rfl (o_assign (d := .lst true (List.map (PV.int .i64) [])) rfl) <| y_nil <| sR <| y0 rfl (o_move (d := .lst false (List.map (PV.int .i64) a0)) rfl) <| y0 rfl (o_move (d := .int .i64 a1) rfl) <| y0 rfl (o_move (d := .int .i64 a2) rfl) ?_
 refine y0 rfl (o_move (d := .int .i64 a2) rfl) ?_
 obtain ⟨v1, hv1, h⟩ := bindE h
 refine y0 rfl (o_cutT (f := (PV.int .i64)) hv1 rfl ⟨_, rfl⟩ ⟨_, rfl⟩ ⟨_, rfl⟩ rfl rfl Ty.e28 Ty.s3 (fun _ => rfl)) <| y0 rfl (o_assign (d := .lst true (List.map (PV.int .i64) v1)) rfl) <| y_nil <| pw_ret ?_
 obtain rfl := Option.some.inj h
 exact ⟨rfl, [_], ⟨rfl, trivial⟩, rfl, io⟩

theorem queue_Push_int_ok {a0 : queue_Queue_int} {a1 : Int} {r : queue_Queue_int × Int} (h : queue_Push_int a0 a1 = some r) : PCalls Tryz.prog 125 [queue_Queue_int.Pv a0, .int .i64 a1] (.tup [queue_Queue_int.Pv r.1, .int .i64 r.2]) := by
 unfold queue_Push_int at h
 refine pc_intro (N := 22) Tryz.func125 rfl rfl nl fun w0 imm0 => sR <| y1 rfl (o_box (d := queue_Queue_int.Pv a0) (z := 2) (cl := true) rfl rfl rfl rfl rfl) rfl <| y1 rfl (o_alloc (d := .agg [.lst true (List.map (PV.int .i64) []), .int .i64 0]) (z := 2) rfl Ty.z148 rfl rfl rfl) rfl <| y0 rfl (o_assign (d := .int .i64 0) rfl) <| y_nil <| pw_seq <| dr [] Ty.mix (by kernel_rfl) (by kernel_rfl) ?_
 refine d0 rfl (o_loadA (cs := queue_Queue_int.Pc a0) rfl rfl rfl Ty.a148 Ty.s148 nl rfl) rfl ?_
 obtain ⟨v1, hv1, h⟩ := bindE h
 refine d2 rfl (o_call (ds := [queue_Queue_int.Pv a0]) rfl Ty.k126 rfl (queue_Len_int_ok hv1)) rfl <| d7 rfl (fun _ hN => o_fieldAddrP (k := 1) rfl Ty.f148_1 rfl) rfl <| d0 rfl (o_loadS rfl rfl rfl Ty.a3 rfl) rfl <| d7 rfl (fun _ hN => o_cmp rfl rfl rfl) rfl <| d_nil ?_
 refine pw_cond (decide (v1 ≥ a0.Cap)) rfl (fun hc => ?_) (fun hc => ?_)
 ·have h := ifT h hc
  refine sR <| y0 rfl (o_loadA (cs := queue_Queue_int.Pc a0) rfl rfl rfl Ty.a148 Ty.s148 nl rfl) <| y_sto (x' := queue_Queue_int.Pv a0) (cl' := true) rfl rfl (.inr rfl) Ty.s148 <| y0 rfl (o_assign (d := .int .i64 4) rfl) <| y_nil <| pw_ret ?_
  obtain rfl := Option.some.inj h
  exact ⟨rfl, [_, _], ⟨o_loadA rfl rfl rfl Ty.a148 Ty.s148 nl rfl, ⟨rfl, trivial⟩⟩, rfl, io⟩
 ·have h := ifF h hc
  refine pw_skip <| dr [] Ty.mix (by kernel_rfl) (by kernel_rfl) <| d7 rfl (fun _ hN => o_fieldAddrP (k := 0) rfl Ty.f148_0 rfl) rfl <| d0 rfl (o_loadS rfl rfl rfl Ty.a28 rfl) rfl <| d0 rfl (o_loadA (cs := queue_Queue_int.Pc a0) rfl rfl rfl Ty.a148 Ty.s148 nl rfl) rfl <| d2 rfl (o_call (ds := [queue_Queue_int.Pv a0]) rfl Ty.k126 rfl (queue_Len_int_ok hv1)) rfl ?_
  obtain ⟨v2, hv2, h⟩ := bindE h
  refine d2f rfl (o_callF (ls := []) (ds := [.lst false (List.map (PV.int .i64) a0.L), .int .i64 0, .int .i64 v1]) rfl Ty.k148 rfl (queue_part_int_ok hv2)) rfl <| d7 rfl (fun _ hN => o_move (d := .int .i64 a1) rfl) rfl <| d1n rfl (o_bI (f := (PV.int .i64)) (l := [a1]) rfl Ty.e28 Ty.s3 Ty.z3 rfl rfl nl rfl rfl) rfl ?_
  obtain ⟨v3, hv3, h⟩ := bindE h
  refine d3 rfl (o_apT (f := (PV.int .i64)) hv3 rfl rfl (.inl ⟨_, rfl, rfl⟩) Ty.e28 Ty.s3 Ty.b3 Ty.z3 rfl (fun _ => rfl)) rfl rfl rfl <| d7 rfl (fun _ hN => o_fieldAddrP (k := 0) rfl Ty.f148_0 rfl) rfl <| d_sto (x' := .agg [.sl 19, .int .i64 a0.Cap]) (cl' := false) rfl rfl (.inl rfl) Ty.s28 <| d_nil <| sR <| y0 rfl (o_loadA (cs := [.sl 19, .int .i64 a0.Cap]) rfl rfl rfl Ty.a148 Ty.s148 nl rfl) <| y_sto (x' := .agg [.sl 19, .int .i64 a0.Cap]) (cl' := false) rfl rfl (.inl rfl) Ty.s148 <| y0 rfl (o_assign (d := .int .i64 0) rfl) ?_
  refine y_nil <| pw_ret ?_
  obtain rfl := Option.some.inj h
  exact ⟨rfl, [_, _], ⟨o_loadA rfl rfl rfl Ty.a148 Ty.s148 nl rfl, ⟨rfl, trivial⟩⟩, rfl, io⟩

theorem queue_Drain_int_ok {a0 : queue_Queue_int} {a1 : Int} {r : queue_Queue_int × (List Int)} (h : queue_Drain_int a0 a1 = some r) : PCalls Tryz.prog 149 [queue_Queue_int.Pv a0, .int .i64 a1] (.tup [queue_Queue_int.Pv r.1, .lst false (List.map (PV.int .i64) r.2)]) := by
 unfold queue_Drain_int at h
 refine pc_intro (N := 25) Tryz.func149 rfl rfl nl fun w0 imm0 => sR <| y1 rfl (o_box (d := queue_Queue_int.Pv a0) (z := 2) (cl := true) rfl rfl rfl rfl rfl) rfl <| y1 rfl (o_alloc (d := .agg [.lst true (List.map (PV.int .i64) []), .int .i64 0]) (z := 2) rfl Ty.z148 rfl rfl rfl) rfl <| y0 rfl (o_assign (d := .lst true (List.map (PV.int .i64) [])) rfl) <| y_nil <| sR <| y0 rfl (o_move (d := .int .i64 a1) rfl) ?_
 refine y0 rfl (o_loadA (cs := queue_Queue_int.Pc a0) rfl rfl rfl Ty.a148 Ty.s148 nl rfl) ?_
 obtain ⟨v1, hv1, h⟩ := bindE h
 refine y0 rfl (o_call (ds := [queue_Queue_int.Pv a0]) rfl Ty.k126 rfl (queue_Len_int_ok hv1)) <| y0 rfl (o_min rfl rfl rfl) <| y0 rfl (o_max rfl rfl rfl) <| y0 rfl (o_assign (d := .int .i64 (if (if v1 < a1 then v1 else a1) > 0 then (if v1 < a1 then v1 else a1) else 0)) rfl) <| y_nil <| sR <| y0 rfl (o_fieldAddrP (k := 0) rfl Ty.f148_0 rfl) <| y0 rfl (o_loadS rfl rfl rfl Ty.a28 rfl) ?_
 refine y0 rfl (o_move (d := .int .i64 (if (if v1 < a1 then v1 else a1) > 0 then (if v1 < a1 then v1 else a1) else 0)) rfl) ?_
 obtain ⟨v2, hv2, h⟩ := bindE h
 refine yc rfl (o_callF (ls := []) (ds := [.lst false (List.map (PV.int .i64) a0.L), .int .i64 0, .int .i64 (if (if v1 < a1 then v1 else a1) > 0 then (if v1 < a1 then v1 else a1) else 0)]) rfl Ty.k148 rfl (queue_part_int_ok hv2)) <| y0 rfl (o_assign (d := .lst true (List.map (PV.int .i64) v2)) rfl) <| y_nil <| dr [] Ty.mix (by kernel_rfl) (by kernel_rfl) <| d7 rfl (fun _ hN => o_fieldAddrP (k := 0) rfl Ty.f148_0 rfl) rfl <| d0 rfl (o_loadS rfl rfl rfl Ty.a28 rfl) rfl <| d7 rfl (fun _ hN => o_move (d := .int .i64 (if (if v1 < a1 then v1 else a1) > 0 then (if v1 < a1 then v1 else a1) else 0)) rfl) rfl <| d0 rfl (o_loadA (cs := queue_Queue_int.Pc a0) rfl rfl rfl Ty.a148 Ty.s148 nl rfl) rfl ?_
 refine d2 rfl (o_call (ds := [queue_Queue_int.Pv a0]) rfl Ty.k126 rfl (queue_Len_int_ok hv1)) rfl ?_
 obtain ⟨v3, hv3, h⟩ := bindE h
 refine d2f rfl (o_callF (ls := []) (ds := [.lst false (List.map (PV.int .i64) a0.L), .int .i64 (if (if v1 < a1 then v1 else a1) > 0 then (if v1 < a1 then v1 else a1) else 0), .int .i64 v1]) rfl Ty.k148 rfl (queue_part_int_ok hv3)) rfl <| d7 rfl (fun _ hN => o_fieldAddrP (k := 0) rfl Ty.f148_0 rfl) rfl <| d_sto (x' := .agg [.lst false (List.map (PV.int .i64) v3), .int .i64 a0.Cap]) (cl' := true) rfl rfl (.inr rfl) Ty.s28 <| d_nil <| sR <| y0 rfl (o_loadA (cs := [.lst false (List.map (PV.int .i64) v3), .int .i64 a0.Cap]) rfl rfl rfl Ty.a148 Ty.s148 nl rfl) <| y0 rfl (o_move (d := .lst true (List.map (PV.int .i64) v2)) rfl) <| y_sto (x' := .agg [.lst false (List.map (PV.int .i64) v3), .int .i64 a0.Cap]) (cl' := true) rfl rfl (.inr rfl) Ty.s148 ?_
 refine y0 rfl (o_assign (d := .lst true (List.map (PV.int .i64) v2)) rfl) <| y_nil <| pw_ret ?_
 obtain rfl := Option.some.inj h
 exact ⟨rfl, [_, _], ⟨o_loadA rfl rfl rfl Ty.a148 Ty.s148 nl rfl, ⟨rfl, trivial⟩⟩, rfl, io⟩

theorem queue_Pop_int_ok {a0 : queue_Queue_int} {r : queue_Queue_int × Int × Int} (h : queue_Pop_int a0 = some r) : PCalls Tryz.prog 127 [queue_Queue_int.Pv a0] (.tup [queue_Queue_int.Pv r.1, .int .i64 r.2.1, .int .i64 r.2.2]) := by
 unfold queue_Pop_int at h
 refine pc_intro (N := 22) Tryz.func127 rfl rfl nl fun w0 imm0 => sR <| y1 rfl (o_box (d := queue_Queue_int.Pv a0) (z := 2) (cl := true) rfl rfl rfl rfl rfl) rfl <| y1 rfl (o_alloc (d := .agg [.lst true (List.map (PV.int .i64) []), .int .i64 0]) (z := 2) rfl Ty.z148 rfl rfl rfl) rfl <| y0 rfl (o_assign (d := .int .i64 0) rfl) <| y0 rfl (o_assign (d := .int .i64 0) rfl) <| y_nil <| sR ?_
 refine y0 rfl (o_loadA (cs := queue_Queue_int.Pc a0) rfl rfl rfl Ty.a148 Ty.s148 nl rfl) ?_
 obtain ⟨v1, hv1, h⟩ := bindE h
 refine yc rfl (o_callF (ls := []) (ds := [queue_Queue_int.Pv a0, .int .i64 1]) rfl Ty.k149 rfl (queue_Drain_int_ok hv1)) <| y0 rfl (o_move (d := .tup [queue_Queue_int.Pv v1.1, .lst false (List.map (PV.int .i64) v1.2)]) rfl) <| y0 rfl (o_extract rfl rfl) <| y0 rfl (o_extract rfl rfl) <| y1 rfl (o_alloc (d := .agg [.lst true (List.map (PV.int .i64) []), .int .i64 0]) (z := 2) rfl Ty.z148 rfl rfl rfl) rfl <| y_sto (x' := queue_Queue_int.Pv v1.1) (cl' := true) rfl rfl (.inr rfl) Ty.s148 <| y0 rfl (o_assign (d := .lst false (List.map (PV.int .i64) v1.2)) rfl) <| y_nil ?_
 refine pw_seq <| sR <| y0 rfl (o_move (d := .lst false (List.map (PV.int .i64) v1.2)) rfl) <| y0 rfl (o_lnL (f := (PV.int .i64)) rfl Ty.e28) <| y0 rfl (o_cmp rfl rfl rfl) <| y_nil ?_
 refine pw_cond ((v1.2.length : Int) == 0) rfl (fun hc => ?_) (fun hc => ?_)
 ·have h := ifT h hc
  refine sR <| y0 rfl (o_assign (d := .int .i64 0) rfl) <| y_nil <| sR <| y0 rfl (o_loadA (cs := queue_Queue_int.Pc a0) rfl rfl rfl Ty.a148 Ty.s148 nl rfl) <| y0 rfl (o_move (d := .int .i64 0) rfl) <| y_sto (x' := queue_Queue_int.Pv a0) (cl' := true) rfl rfl (.inr rfl) Ty.s148 <| y0 rfl (o_assign (d := .int .i64 0) rfl) ?_
  refine y0 rfl (o_assign (d := .int .i64 10) rfl) <| y_nil <| pw_ret ?_
  obtain rfl := Option.some.inj h
  exact ⟨rfl, [_, _, _], ⟨o_loadA rfl rfl rfl Ty.a148 Ty.s148 nl rfl, ⟨rfl, ⟨rfl, trivial⟩⟩⟩, rfl, io⟩
 ·have h := ifF h hc
  refine pw_skip <| dr [2, 3] Ty.mix (by kernel_rfl) (by kernel_rfl) <| d0 rfl (o_loadA (cs := queue_Queue_int.Pc v1.1) rfl rfl rfl Ty.a148 Ty.s148 nl rfl) rfl <| d7 rfl (fun _ hN => o_move (d := .lst false (List.map (PV.int .i64) v1.2)) rfl) rfl ?_
  obtain ⟨v2, hv2, h⟩ := bindE h
  refine d7 rfl (fun _ hN => o_ixL (f := (PV.int .i64)) (cs := [.int .i64 v2]) hv2 rfl rfl Ty.e28 Ty.s3 rfl rfl) rfl <| d7 rfl (fun _ hN => o_loadRS rfl Ty.a3 rfl) rfl <| d_sto (x' := queue_Queue_int.Pv v1.1) (cl' := true) rfl rfl (.inr rfl) Ty.s148 <| d7 rfl (fun _ hN => o_assign (d := .int .i64 v2) rfl) rfl <| d7 rfl (fun _ hN => o_assign (d := .int .i64 0) rfl) rfl <| d_nil <| pw_ret ?_
  obtain rfl := Option.some.inj h
  exact ⟨rfl, [_, _, _], ⟨o_loadA rfl rfl rfl Ty.a148 Ty.s148 nl rfl, ⟨rfl, ⟨rfl, trivial⟩⟩⟩, rfl, io⟩

theorem vec_named_ok {a0 : List Int} {r : List Int} (h : vec_named a0 = some r) : PCalls Tryz.prog 155 [.lst false (List.map (PV.int .i64) a0)] (.fn (.func 164) [.rptr [.lst false (List.map (PV.int .i64) r)]]) := by
 unfold vec_named at h
 refine pc_intro (N := 4) Tryz.func155 rfl rfl nl fun w0 imm0 => sR <| y1 rfl (o_box (d := .lst false (List.map (PV.int .i64) a0)) (z := 1) (cl := true) rfl rfl rfl rfl rfl) rfl <| y0 rfl (o_assign (d := .nilfn) rfl) <| y_nil <| sR <| y0 rfl (o_mkFunc rfl) <| y0 rfl (o_assign (d := .fn (.func 164) [.ptr 1 0 0]) rfl) ?_
 refine y_nil <| pw_ret ?_
 obtain rfl := Option.some.inj h
 exact ⟨rfl, [_], ⟨rfl, trivial⟩, rfl, io⟩

theorem vec_Names_ok {a0 : List Int} {r : List Int} (h : vec_Names a0 = some r) : PCalls Tryz.prog 142 [.lst false (List.map (PV.int .i64) a0)] (.lst false (List.map (PV.int .i64) r)) := by
 unfold vec_Names at h
 refine pc_intro (N := 13) Tryz.func142 rfl rfl nl fun w0 imm0 => sR <| y0 rfl (o_assign (d := .lst true (List.map (PV.int .i64) [])) rfl) <| y_nil <| sR <| y1 rfl (o_alloc (d := .lst true (List.map (PV.int .i64) [])) (z := 1) rfl Ty.z28 rfl rfl rfl) rfl <| y_nil ?_
 obtain ⟨κ9, hκ15, h⟩ := jnE h
 refine pw_jn0 (κ := κ9) (r := r) (fun (j10 : List Int) => St.of [(3, .ptr 2001 0 0)] [(2001, ⟨[.sl 912501], 0, false, 1, false⟩), (912501, ⟨List.map (PV.int .i64) j10, (List.map (PV.int .i64) j10).length, true, 1, true⟩)]) (fun j10 h => ?_) ?_
 ·subst hκ15
  refine sR <| y0 rfl (o_loadS rfl rfl rfl Ty.a28 rfl) <| y0 rfl (o_assign (d := .sl 912501) rfl) <| y_nil <| pw_ret ?_
  obtain rfl := Option.some.inj h
  exact ⟨rfl, [_], ⟨rfl, trivial⟩, rfl, io⟩
 ·skip
  refine sR <| y0 rfl (o_move (d := .lst false (List.map (PV.int .i64) a0)) rfl) ?_
  obtain ⟨v11, hv16, h⟩ := bindE h
  refine yc rfl (o_callF (ls := []) (ds := [.lst false (List.map (PV.int .i64) a0)]) rfl Ty.k155 rfl (vec_named_ok hv16)) <| y_nil <| pw_block <| pw_wk (wk_stP (fun l => if l = 2011 then 3 else l) [(3, .ptr 2011 0 0), (6, .fn (.func 164) [.rptr [.lst false (List.map (PV.int .i64) v11)]])] [(2011, ⟨[.lst true (List.map (PV.int .i64) [])], 0, false, 1, true⟩)] ⟨rfl, rfl, rfl, rfl, rfl, rfl, trivial⟩ ⟨rN, trivial⟩ rfl) ?_
  refine pw_range (fn := Tryz.f164) (N1 := 20) rfl Tryz.func164 rfl rfl nl rfl Ty.k164 rfl rfl (fun l17 e18 o19 hR20 => ?_)
  refine sR <| y0 rfl (o_loadRS rfl Ty.a28 rfl) <| y0 rfl (o_lnL (f := (PV.int .i64)) rfl Ty.e28) <| y0 rfl (o_move (d := .int .i64 0) rfl) <| y_nil <| pw_block ?_
  obtain ⟨e12, hl21, hk22⟩ := bindE h
  refine pw_lp0 (fun (q : Int × (List Int)) => St.of [(1000003, .ptr 2011 0 0), (1000006, .fn (.func 164) [.rptr [.lst false (List.map (PV.int .i64) v11)]]), (0, .fn (.yield l17) []), (5, .lst false (List.map (PV.int .i64) v11)), (6, .int .i64 (v11.length : Int)), (7, .int .i64 q.1)] [(2011, ⟨[.sl 912511], 0, false, 1, false⟩), (912511, ⟨List.map (PV.int .i64) q.2, (List.map (PV.int .i64) q.2).length, true, 1, true⟩)]) hl21 (Wk.trans (wk_nilC (l0 := 2011) (j := 0) (l := 922511) (z := 1) rfl rfl rfl rfl rfl) (wk_stP (fun l => if l = 912511 then 922511 else l) _ _ ⟨rfl, rfl, rfl, rfl, rfl, rfl, rfl, rfl, rfl, rfl, rfl, rfl, rfl, rfl, rfl, rfl, rfl, rfl, trivial⟩ ⟨rowLe_open rfl rfl rfl (fun q => nomatch q) rfl rfl rfl rfl, rN, trivial⟩ rfl)) (fun q16 x15 h hx23 => ?_)
  obtain ⟨s13, s14⟩ := q16
  refine sR <| y0 rfl (o_cmp rfl rfl rfl) <| y_nil <| pw_seq ?_
  refine pw_cond (decide (s13 < (v11.length : Int))) rfl (fun hc => ?_) (fun hc => ?_)
  ·have h := ifT h hc
   refine pw_skip <| pw_seq <| pw_block <| sR ?_
   obtain ⟨v17, hv24, h⟩ := bindE h
   refine y0 rfl (o_ixL (f := (PV.int .i64)) (cs := [.int .i64 v17]) hv24 rfl rfl Ty.e28 Ty.s3 rfl rfl) <| y0 rfl (o_loadRS rfl Ty.a3 rfl) <| y0 rfl (o_assign (d := .int .i64 v17) rfl) <| y_nil <| sR <| y0 rfl (o_move (d := .int .i64 v17) rfl) <| y0 rfl (o_cmp rfl rfl rfl) <| y0 rfl (o_move (d := .bool (v17 != 0)) rfl) ?_
   refine y_if (g := ((v17 != 0) == true)) rfl (fun hg => o_move (d := .fn (.yield l17) []) rfl) <| y_if (g := ((v17 != 0) == true)) rfl (fun hg => o_move (d := .int .i64 v17) rfl) ?_
   rcases Bool.eq_false_or_eq_true ((v17 != 0) == true) with hg25 | hg25
   ·have h := ifT h hg25
    refine y_wk (wk_stP (fun l => if l = 2019 then 912511 else l) [(1000003, .ptr 2011 0 0), (1000006, .fn (.func 164) [.rptr [.lst false (List.map (PV.int .i64) v11)]]), (0, .fn (.yield l17) []), (5, .lst false (List.map (PV.int .i64) v11)), (6, .int .i64 (v11.length : Int)), (7, .int .i64 s13), (13, .bool (v17 != 0)), (14, .fn (.yield l17) []), (15, .int .i64 v17)] [(2011, ⟨[.sl 2019], 0, false, 1, false⟩), (2019, ⟨List.map (PV.int .i64) s14, (List.map (PV.int .i64) s14).length, true, 1, true⟩)] ⟨rfl, rfl, rfl, rfl, rfl, rfl, rfl, rfl, rfl, rfl, rfl, rfl, rfl, rfl, rfl, rfl, rfl, rfl, rfl, rfl, rfl, (ct hg25), rfl, rfl, (ct hg25), rfl, rfl, trivial⟩ ⟨rowLe_open rfl rfl rfl (fun q => nomatch q) rfl rfl rfl rfl, rN, trivial⟩ rfl) ?_
    refine y_yield hR20 (congrArg some hg25) rfl rfl rfl rfl rfl (fun e26 o27 o28 => ?_)
    refine sr1 (by kernel_rfl) <| y0 rfl (o_assign (d := .int .i64 v17) rfl) <| y_nil ?_
    refine ⟨rfl, ?_⟩
    refine pw_block <| sr1 (by kernel_rfl) <| y0 rfl (o_loadS rfl rfl rfl Ty.a28 rfl) <| y0 rfl (o_move (d := .int .i64 v17) rfl) <| y0 rfl (o_bI (f := (PV.int .i64)) (l := [v17]) rfl Ty.e28 Ty.s3 Ty.z3 rfl rfl nl rfl rfl) ?_
    obtain ⟨v18, hv29, h⟩ := bindE h
    refine y_app rfl (o_apR (f := (PV.int .i64)) hv29 rfl rfl rfl rfl rfl rfl (.inl ⟨_, rfl, rfl⟩) Ty.e28 Ty.s3 Ty.b3 Ty.z3 rfl (fun _ => rfl)) rfl rfl rfl <| y_sto (x' := .sl 11) (cl' := false) rfl rfl (.inl rfl) Ty.s28 <| y_nil ?_
    refine ⟨rfl, ?_⟩
    refine y_wk (wk_stP (fun l => if l = 2020 then 11 else l) [(1000003, .ptr 2011 0 0), (1000006, .fn (.func 164) [.rptr [.lst false (List.map (PV.int .i64) v11)]]), (0, .fn (.yield l17) []), (5, .lst false (List.map (PV.int .i64) v11)), (6, .int .i64 (v11.length : Int)), (7, .int .i64 s13), (13, .bool (v17 != 0)), (16, .bool true)] [(2011, ⟨[.sl 2020], 0, false, 1, false⟩), (2020, ⟨List.map (PV.int .i64) v18, s14.length, true, 1, true⟩)] ⟨rfl, rfl, rfl, rfl, rfl, rfl, rfl, rfl, rfl, rfl, rfl, rfl, rfl, rfl, rfl, rfl, rfl, rfl, rfl, rfl, rfl, rfl, rfl, rfl, trivial⟩ ⟨rowLe_open rfl rfl rfl (fun q => nomatch q) rfl rfl rfl rfl, rN, trivial⟩ rfl) <| y0 (congrArg some hg25) (o_not rfl rfl) <| y0 rfl (pk_andT rfl rfl hg25) <| y_nil ?_
    refine pw_cond false rfl (fun q => nomatch q) (fun _ => ?_)
    refine pw_skip <| sr1 (by kernel_rfl) <| y0 rfl (o_ari rfl rfl rfl) <| y0 rfl (o_move (d := .int .i64 (w64 (s13 + 1))) rfl) <| y_nil ?_
    exact ⟨rfl, (w64 (s13 + 1), v18), (Option.some.inj h).symm, (Wk.trans (wk_frz _ [2020]) (wk_stP (fun l => if l = 912511 then 2020 else l) _ _ ⟨rfl, rfl, rfl, rfl, rfl, rfl, rfl, rfl, rfl, rfl, rfl, rfl, rfl, rfl, rfl, rfl, rfl, rfl, trivial⟩ ⟨rowLe_open rfl rfl rfl (fun q => nomatch q) rfl rfl rfl rfl, rN, trivial⟩ rfl))⟩
   ·have h := ifF h hg25
    refine y_skip (congrArg some hg25) <| y_skip (congrArg some hg25) <| y0 rfl (pk_andF rfl rfl hg25) <| y_nil ?_
    refine pw_cond false rfl (fun q => nomatch q) (fun _ => ?_)
    refine pw_skip <| sr1 (by kernel_rfl) <| y0 rfl (o_ari rfl rfl rfl) <| y0 rfl (o_move (d := .int .i64 (w64 (s13 + 1))) rfl) <| y_nil ?_
    exact ⟨rfl, (w64 (s13 + 1), s14), (Option.some.inj h).symm, (Wk.trans (wk_frz _ [912511]) (wk_st _ _ ⟨rfl, rfl, rfl, rfl, rfl, rfl, rfl, rfl, rfl, rfl, rfl, rfl, rfl, rfl, rfl, rfl, rfl, rfl, trivial⟩ ⟨rowLe_open rfl rfl rfl (fun q => nomatch q) rfl rfl rfl rfl, rS, trivial⟩))⟩
  ·have h := ifF h hc
   refine pw_exit <| thenQ_exit <| thenQ_exit <| blockQ_exit ?_
   refine .inl ⟨rfl, ?_⟩
   have he := hx23 _ (Option.some.inj h).symm
   have h := hk22
   rw [← he] at h
   exact ⟨rfl, s14, h, (Wk.trans (wk_frz _ [912511]) (wk_stP (fun l => if l = 2001 then 2011 else if l = 912501 then 912511 else l) _ _ ⟨rfl, rfl, rfl, trivial⟩ ⟨rowLe_open rfl rfl rfl (fun q => nomatch q) rfl rfl rfl rfl, rN, trivial⟩ rfl))⟩

theorem refs_Out_ok {a0 : store_Store} {a1 : Int} {r : List Int} (h : refs_Out a0 a1 = some r) : PCalls Tryz.prog 115 [store_Store.Pv a0, .int .i64 a1] (.lst false (List.map (PV.int .i64) r)) := by
 unfold refs_Out at h
 refine pc_intro (N := 16) Tryz.func115 rfl rfl nl fun w0 imm0 => sR <| y1 rfl (o_box (d := store_Store.Pv a0) (z := 3) (cl := true) rfl rfl rfl rfl rfl) rfl <| y0 rfl (o_assign (d := .lst true (List.map (PV.int .i64) [])) rfl) <| y_nil <| sR <| y0 rfl (o_loadA (cs := store_Store.Pc a0) rfl rfl rfl Ty.a26 Ty.s26 nl rfl) <| y0 rfl (o_move (d := .int .i64 a1) rfl) ?_
 obtain ⟨v1, hv1, h⟩ := bindE h
 refine yc rfl (o_callF (ls := []) (ds := [store_Store.Pv a0, .int .i64 a1]) rfl Ty.k54 rfl (store_Get_ok hv1)) <| y0 rfl (o_move (d := .tup [store_Obj.Pv v1.1, .int .i64 v1.2]) rfl) <| y0 rfl (o_extract rfl rfl) <| y0 rfl (o_extract rfl rfl) <| y1 rfl (o_alloc (d := .agg [.int .i64 0, .int .i64 0, .int .i64 0, .int .i64 0, .bool false, .lst true (List.map (PV.int .i64) [])]) (z := 6) rfl Ty.z73 rfl rfl rfl) rfl <| y_sto (x' := store_Obj.Pv v1.1) (cl' := true) rfl rfl (.inr rfl) Ty.s73 <| y0 rfl (o_assign (d := .int .i64 v1.2) rfl) <| y_nil ?_
 refine sR <| y0 rfl (o_fieldAddrP (k := 5) rfl Ty.f73_5 rfl) <| y0 rfl (o_loadS rfl rfl rfl Ty.a28 rfl) ?_
 obtain ⟨v2, hv2, h⟩ := bindE h
 refine yc rfl (o_callF (ls := []) (ds := [.lst false (List.map (PV.int .i64) v1.1.Fields)]) rfl Ty.k142 rfl (vec_Names_ok hv2)) <| y0 rfl (o_assign (d := .lst false (List.map (PV.int .i64) v2)) rfl) <| y_nil <| pw_ret ?_
 obtain rfl := Option.some.inj h
 exact ⟨rfl, [_], ⟨rfl, trivial⟩, rfl, io⟩

theorem reach_spread_ok {a0 : store_Store} {a1 : List Int} {r : List (Int × Bool)} (h : reach_spread a0 a1 = some r) : PCalls Tryz.prog 76 [store_Store.Pv a0, .lst false (List.map (PV.int .i64) a1)] (.abs (ImMap (List.map (ent (PV.int .i64) PV.bool) r))) := by
 unfold reach_spread at h
 refine pc_intro (N := 33) Tryz.func76 rfl rfl nl fun w0 imm0 => sR <| y1 rfl (o_box (d := store_Store.Pv a0) (z := 3) (cl := true) rfl rfl rfl rfl rfl) rfl <| y0 rfl (o_assign (d := .abs NilMap) rfl) <| y_nil <| sR <| y_mkM (KT := Int) (VT := Bool) (EK := (PV.int .i64)) (E := PV.bool) 5000009 rfl rfl <| y1 rfl (o_alloc (d := .abs NilMap) (z := 1) rfl Ty.z104 rfl rfl rfl) rfl ?_
 refine y_sto (x' := .mp 5000009) (cl' := false) rfl rfl (.inl rfl) Ty.s104 <| y_nil <| sR <| y0 rfl (o_loadA (cs := store_Store.Pc a0) rfl rfl rfl Ty.a26 Ty.s26 nl rfl) ?_
 obtain ⟨v1, hv1, h⟩ := bindE h
 refine yc rfl (o_callF (ls := []) (ds := [store_Store.Pv a0]) rfl Ty.k123 rfl (store_Live_ok hv1)) <| y0 rfl (o_lnL (f := (PV.int .i64)) rfl Ty.e28) ?_
 obtain ⟨v2, hv2, h⟩ := bindE h
 refine yc rfl (o_callF (ls := []) (ds := [.int .i64 (v1.length : Int)]) rfl Ty.k122 rfl (queue_New_int_ok hv2)) <| y1 rfl (o_alloc (d := .agg [.lst true (List.map (PV.int .i64) []), .int .i64 0]) (z := 2) rfl Ty.z148 rfl rfl rfl) rfl <| y_sto (x' := queue_Queue_int.Pv v2) (cl' := true) rfl rfl (.inr rfl) Ty.s148 <| y_nil <| sR <| y0 rfl (o_mkFunc rfl) <| y0 rfl (o_assign (d := .fn (.func 124) [.ptr 2 0 0, .ptr 5 0 0, .ptr 6 0 0]) rfl) <| y_nil ?_
 refine sR <| y0 rfl (o_move (d := .fn (.func 124) [.ptr 2 0 0, .ptr 5 0 0, .ptr 6 0 0]) rfl) <| y0 rfl (o_move (d := .lst false (List.map (PV.int .i64) a1)) rfl) <| y_wk (wk_stP (fun l => if l = 2001 then 6 else if l = 2002 then 5 else if l = 2003 then 2 else if l = 5002004 then 5000009 else l) [(2, .ptr 2003 0 0), (5, .ptr 2002 0 0), (6, .ptr 2001 0 0), (7, .fn (.func 124) [.ptr 2003 0 0, .ptr 2002 0 0, .ptr 2001 0 0]), (15, .fn (.func 124) [.ptr 2003 0 0, .ptr 2002 0 0, .ptr 2001 0 0]), (16, .lst false (List.map (PV.int .i64) a1))] [(2001, ⟨[queue_Queue_int.Pv v2], 0, false, 2, true⟩), (2002, ⟨[.mp 5002004], 0, false, 1, false⟩), (5002004, ⟨[.mapc (List.map (ent (PV.int .i64) PV.bool) [])], 0, false, 0, false⟩), (2003, ⟨[store_Store.Pv a0], 0, false, 3, true⟩)] ⟨rfl, rfl, rfl, rfl, rfl, rfl, rfl, rfl, rfl, rfl, rfl, rfl, rfl, rfl, rfl, rfl, rfl, rfl, trivial⟩ ⟨rN, rowLe_open rfl rfl rfl (fun q => nomatch q) rfl rfl rfl rfl, rowLe_open rfl rfl rfl (fun q => nomatch q) rfl rfl rfl rfl, rN, trivial⟩ rfl) ?_
 refine y_inl (fn := Tryz.f124) (N1 := 31) rfl rfl Tryz.func124 rfl Ty.k124 rfl rfl nl (fun e3 o4 => ?_)
 obtain ⟨κ19, hκ17, h⟩ := jnE h
 refine pw_jnR (κ := κ19) (r := r) (fun (q : queue_Queue_int × (List (Int × Bool))) => St.of [(1000002, .ptr 2003 0 0), (1000005, .ptr 2002 0 0), (1000006, .ptr 2001 0 0), (1000007, .fn (.func 124) [.ptr 2003 0 0, .ptr 2002 0 0, .ptr 2001 0 0]), (1000015, .fn (.func 124) [.ptr 2003 0 0, .ptr 2002 0 0, .ptr 2001 0 0]), (1000016, .lst false (List.map (PV.int .i64) a1))] [(2001, ⟨[queue_Queue_int.Pv q.1], 0, false, 2, true⟩), (2002, ⟨[.mp 5002004], 0, false, 1, false⟩), (5002004, ⟨[.mapc (List.map (ent (PV.int .i64) PV.bool) q.2)], 0, false, 0, false⟩), (2003, ⟨[store_Store.Pv a0], 0, false, 3, true⟩)]) (fun q22 h => dup ?_) ?_
 ·subst hκ17
  obtain ⟨j20, j21⟩ := q22
  refine ⟨rfl, [], trivial, ?_⟩
  refine y_wk (wk_st [(2, .ptr 2003 0 0), (5, .ptr 2002 0 0), (6, .ptr 2001 0 0), (7, .fn (.func 124) [.ptr 2003 0 0, .ptr 2002 0 0, .ptr 2001 0 0])] [(2001, ⟨[queue_Queue_int.Pv j20], 0, false, 2, true⟩), (2002, ⟨[.mp 5002004], 0, false, 1, false⟩), (5002004, ⟨[.mapc (List.map (ent (PV.int .i64) PV.bool) j21)], 0, false, 0, false⟩), (2003, ⟨[store_Store.Pv a0], 0, false, 3, true⟩)] ⟨rfl, rfl, rfl, rfl, rfl, rfl, rfl, rfl, rfl, rfl, rfl, rfl, trivial⟩ ⟨rS, rowLe_open rfl rfl rfl (fun q => nomatch q) rfl rfl rfl rfl, rowLe_open rfl rfl rfl (fun q => nomatch q) rfl rfl rfl rfl, rS, trivial⟩) <| y_nil ?_
  obtain ⟨κ67, hκ51, h⟩ := jnE h
  refine pw_jn0 (κ := κ67) (r := r) (fun (j68 : List (Int × Bool)) => St.of [(5, .ptr 2002 0 0)] [(2002, ⟨[.mp 5002004], 0, false, 1, false⟩), (5002004, ⟨[.mapc (List.map (ent (PV.int .i64) PV.bool) j68)], 0, false, 0, false⟩)]) (fun j68 h => ?_) ?_
  ·subst hκ51
   refine sR <| y0 rfl (o_loadS rfl rfl rfl Ty.a104 rfl) <| y0 rfl (o_assign (d := .mp 5002004) rfl) <| y_nil <| pw_wk (wk_mfz 4 5002004 rfl rfl) <| pw_ret ?_
   obtain rfl := Option.some.inj h
   exact ⟨rfl, [_], ⟨rfl, trivial⟩, rfl, io⟩
  ·skip
   refine pw_block ?_
   obtain ⟨e69, hl52, hk53⟩ := bindE h
   refine pw_lp0 (fun (q : queue_Queue_int × (List (Int × Bool))) => St.of [(2, .ptr 2003 0 0), (5, .ptr 2002 0 0), (6, .ptr 2001 0 0), (7, .fn (.func 124) [.ptr 2003 0 0, .ptr 2002 0 0, .ptr 2001 0 0])] [(2001, ⟨[queue_Queue_int.Pv q.1], 0, false, 2, true⟩), (2002, ⟨[.mp 5002004], 0, false, 1, false⟩), (5002004, ⟨[.mapc (List.map (ent (PV.int .i64) PV.bool) q.2)], 0, false, 0, false⟩), (2003, ⟨[store_Store.Pv a0], 0, false, 3, true⟩)]) hl52 (wk_st _ _ ⟨rfl, rfl, rfl, rfl, rfl, rfl, rfl, rfl, rfl, rfl, rfl, rfl, trivial⟩ ⟨rS, rowLe_open rfl rfl rfl (fun q => nomatch q) rfl rfl rfl rfl, rowLe_open rfl rfl rfl (fun q => nomatch q) rfl rfl rfl rfl, rS, trivial⟩) (fun q73 x72 h hx54 => ?_)
   obtain ⟨s70, s71⟩ := q73
   refine pw_seq <| sR <| y0 rfl (o_loadA (cs := queue_Queue_int.Pc s70) rfl rfl rfl Ty.a148 Ty.s148 nl rfl) ?_
   obtain ⟨v74, hv55, h⟩ := bindE h
   refine y0 rfl (o_call (ds := [queue_Queue_int.Pv s70]) rfl Ty.k126 rfl (queue_Len_int_ok hv55)) <| y0 rfl (o_cmp rfl rfl rfl) <| y_nil ?_
   refine pw_cond (decide (v74 > 0)) rfl (fun hc => ?_) (fun hc => ?_)
   ·have h := ifT h hc
    refine pw_skip <| pw_block <| sR <| y0 rfl (o_assign (d := .int .i64 0) rfl) <| y_nil <| sR <| y0 rfl (o_loadA (cs := queue_Queue_int.Pc s70) rfl rfl rfl Ty.a148 Ty.s148 nl rfl) ?_
    obtain ⟨v75, hv56, h⟩ := bindE h
    refine yc rfl (o_callF (ls := []) (ds := [queue_Queue_int.Pv s70]) rfl Ty.k127 rfl (queue_Pop_int_ok hv56)) <| y0 rfl (o_move (d := .tup [queue_Queue_int.Pv v75.1, .int .i64 v75.2.1, .int .i64 v75.2.2]) rfl) <| y0 rfl (o_extract rfl rfl) <| y0 rfl (o_extract rfl rfl) <| y0 rfl (o_extract rfl rfl) <| y_sto (x' := queue_Queue_int.Pv v75.1) (cl' := true) rfl rfl (.inr rfl) Ty.s148 <| y0 rfl (o_assign (d := .int .i64 v75.2.1) rfl) <| y_nil ?_
    refine sr1 (by kernel_rfl) <| y0 rfl (o_move (d := .fn (.func 124) [.ptr 2003 0 0, .ptr 2002 0 0, .ptr 2001 0 0]) rfl) <| y0 rfl (o_loadA (cs := store_Store.Pc a0) rfl rfl rfl Ty.a26 Ty.s26 nl rfl) <| y0 rfl (o_move (d := .int .i64 v75.2.1) rfl) ?_
    obtain ⟨v76, hv57, h⟩ := bindE h
    refine yc rfl (o_callF (ls := []) (ds := [store_Store.Pv a0, .int .i64 v75.2.1]) rfl Ty.k115 rfl (refs_Out_ok hv57)) <| y_wk (wk_st [(2, .ptr 2003 0 0), (5, .ptr 2002 0 0), (6, .ptr 2001 0 0), (7, .fn (.func 124) [.ptr 2003 0 0, .ptr 2002 0 0, .ptr 2001 0 0]), (27, .fn (.func 124) [.ptr 2003 0 0, .ptr 2002 0 0, .ptr 2001 0 0]), (30, .lst false (List.map (PV.int .i64) v76))] [(2001, ⟨[queue_Queue_int.Pv v75.1], 0, false, 2, true⟩), (2002, ⟨[.mp 5002004], 0, false, 1, false⟩), (5002004, ⟨[.mapc (List.map (ent (PV.int .i64) PV.bool) s71)], 0, false, 0, false⟩), (2003, ⟨[store_Store.Pv a0], 0, false, 3, true⟩)] ⟨rfl, rfl, rfl, rfl, rfl, rfl, rfl, rfl, rfl, rfl, rfl, rfl, rfl, rfl, rfl, rfl, rfl, rfl, trivial⟩ ⟨rS, rowLe_open rfl rfl rfl (fun q => nomatch q) rfl rfl rfl rfl, rowLe_open rfl rfl rfl (fun q => nomatch q) rfl rfl rfl rfl, rS, trivial⟩) ?_
    refine y_inl (fn := Tryz.f124) (N1 := 31) rfl rfl Tryz.func124 rfl Ty.k124 rfl rfl nl (fun e58 o59 => ?_)
    obtain ⟨κ93, hκ72, h⟩ := jnE h
    refine pw_jnR (κ := κ93) (r := x72) (fun (q : queue_Queue_int × (List (Int × Bool))) => St.of [(1000002, .ptr 2003 0 0), (1000005, .ptr 2002 0 0), (1000006, .ptr 2001 0 0), (1000007, .fn (.func 124) [.ptr 2003 0 0, .ptr 2002 0 0, .ptr 2001 0 0]), (1000027, .fn (.func 124) [.ptr 2003 0 0, .ptr 2002 0 0, .ptr 2001 0 0]), (1000030, .lst false (List.map (PV.int .i64) v76))] [(2001, ⟨[queue_Queue_int.Pv q.1], 0, false, 2, true⟩), (2002, ⟨[.mp 5002004], 0, false, 1, false⟩), (5002004, ⟨[.mapc (List.map (ent (PV.int .i64) PV.bool) q.2)], 0, false, 0, false⟩), (2003, ⟨[store_Store.Pv a0], 0, false, 3, true⟩)]) (fun q96 h => dup ?_) ?_
    ·subst hκ72
     obtain ⟨j94, j95⟩ := q96
     refine ⟨rfl, [], trivial, ?_⟩
     refine y_wk (wk_st [(2, .ptr 2003 0 0), (5, .ptr 2002 0 0), (6, .ptr 2001 0 0), (7, .fn (.func 124) [.ptr 2003 0 0, .ptr 2002 0 0, .ptr 2001 0 0])] [(2001, ⟨[queue_Queue_int.Pv j94], 0, false, 2, true⟩), (2002, ⟨[.mp 5002004], 0, false, 1, false⟩), (5002004, ⟨[.mapc (List.map (ent (PV.int .i64) PV.bool) j95)], 0, false, 0, false⟩), (2003, ⟨[store_Store.Pv a0], 0, false, 3, true⟩)] ⟨rfl, rfl, rfl, rfl, rfl, rfl, rfl, rfl, rfl, rfl, rfl, rfl, trivial⟩ ⟨rS, rowLe_open rfl rfl rfl (fun q => nomatch q) rfl rfl rfl rfl, rowLe_open rfl rfl rfl (fun q => nomatch q) rfl rfl rfl rfl, rS, trivial⟩) <| y_nil ?_
     exact ⟨rfl, (j94, j95), (Option.some.inj h).symm, (wk_st _ _ ⟨rfl, rfl, rfl, rfl, rfl, rfl, rfl, rfl, rfl, rfl, rfl, rfl, trivial⟩ ⟨rS, rowLe_open rfl rfl rfl (fun q => nomatch q) rfl rfl rfl rfl, rowLe_open rfl rfl rfl (fun q => nomatch q) rfl rfl rfl rfl, rS, trivial⟩)⟩
    ·skip
     refine sR <| y0 rfl (o_move (d := .lst false (List.map (PV.int .i64) v76)) rfl) <| y0 rfl (o_lnL (f := (PV.int .i64)) rfl Ty.e28) <| y0 rfl (o_move (d := .int .i64 0) rfl) <| y_nil <| pw_block ?_
     obtain ⟨e97, hl73, hk74⟩ := bindE h
     refine pw_lp0 (fun (q : Int × queue_Queue_int × (List (Int × Bool))) => St.of [(1000002, .ptr 2003 0 0), (1000005, .ptr 2002 0 0), (1000006, .ptr 2001 0 0), (1000007, .fn (.func 124) [.ptr 2003 0 0, .ptr 2002 0 0, .ptr 2001 0 0]), (1000027, .fn (.func 124) [.ptr 2003 0 0, .ptr 2002 0 0, .ptr 2001 0 0]), (1000030, .lst false (List.map (PV.int .i64) v76)), (1, .ptr 2003 0 0), (2, .ptr 2002 0 0), (3, .ptr 2001 0 0), (7, .lst false (List.map (PV.int .i64) v76)), (8, .int .i64 (v76.length : Int)), (9, .int .i64 q.1)] [(2001, ⟨[queue_Queue_int.Pv q.2.1], 0, false, 2, true⟩), (2002, ⟨[.mp 5002004], 0, false, 1, false⟩), (5002004, ⟨[.mapc (List.map (ent (PV.int .i64) PV.bool) q.2.2)], 0, false, 0, false⟩), (2003, ⟨[store_Store.Pv a0], 0, false, 3, true⟩)]) hl73 (wk_st _ _ ⟨rfl, rfl, rfl, rfl, rfl, rfl, rfl, rfl, rfl, rfl, rfl, rfl, rfl, rfl, rfl, rfl, rfl, rfl, rfl, rfl, rfl, rfl, rfl, rfl, rfl, rfl, rfl, rfl, rfl, rfl, rfl, rfl, rfl, rfl, rfl, rfl, trivial⟩ ⟨rS, rowLe_open rfl rfl rfl (fun q => nomatch q) rfl rfl rfl rfl, rowLe_open rfl rfl rfl (fun q => nomatch q) rfl rfl rfl rfl, rS, trivial⟩) (fun q102 x101 h hx75 => ?_)
     obtain ⟨s98, s99, s100⟩ := q102
     refine sR <| y0 rfl (o_cmp rfl rfl rfl) <| y_nil <| pw_seq ?_
     refine pw_cond (decide (s98 < (v76.length : Int))) rfl (fun hc => ?_) (fun hc => ?_)
     ·have h := ifT h hc
      refine pw_skip ?_
      obtain ⟨κ106, hκ80, h⟩ := jnE h
      refine pw_jn0 (κ := κ106) (r := x101) (fun (q : queue_Queue_int × (List (Int × Bool))) => St.of [(1000002, .ptr 2003 0 0), (1000005, .ptr 2002 0 0), (1000006, .ptr 2001 0 0), (1000007, .fn (.func 124) [.ptr 2003 0 0, .ptr 2002 0 0, .ptr 2001 0 0]), (1000027, .fn (.func 124) [.ptr 2003 0 0, .ptr 2002 0 0, .ptr 2001 0 0]), (1000030, .lst false (List.map (PV.int .i64) v76)), (1, .ptr 2003 0 0), (2, .ptr 2002 0 0), (3, .ptr 2001 0 0), (7, .lst false (List.map (PV.int .i64) v76)), (8, .int .i64 (v76.length : Int)), (9, .int .i64 s98)] [(2001, ⟨[queue_Queue_int.Pv q.1], 0, false, 2, true⟩), (2002, ⟨[.mp 5002004], 0, false, 1, false⟩), (5002004, ⟨[.mapc (List.map (ent (PV.int .i64) PV.bool) q.2)], 0, false, 0, false⟩), (2003, ⟨[store_Store.Pv a0], 0, false, 3, true⟩)]) (fun q109 h => ?_) ?_
      ·subst hκ80
       obtain ⟨j107, j108⟩ := q109
       refine sr1 (by kernel_rfl) <| y0 rfl (o_ari rfl rfl rfl) <| y0 rfl (o_move (d := .int .i64 (w64 (s98 + 1))) rfl) <| y_nil ?_
       exact ⟨rfl, (w64 (s98 + 1), j107, j108), (Option.some.inj h).symm, (wk_st _ _ ⟨rfl, rfl, rfl, rfl, rfl, rfl, rfl, rfl, rfl, rfl, rfl, rfl, rfl, rfl, rfl, rfl, rfl, rfl, rfl, rfl, rfl, rfl, rfl, rfl, rfl, rfl, rfl, rfl, rfl, rfl, rfl, rfl, rfl, rfl, rfl, rfl, trivial⟩ ⟨rS, rowLe_open rfl rfl rfl (fun q => nomatch q) rfl rfl rfl rfl, rowLe_open rfl rfl rfl (fun q => nomatch q) rfl rfl rfl rfl, rS, trivial⟩)⟩
      ·skip
       refine pw_block <| sR ?_
       obtain ⟨v110, hv81, h⟩ := bindE h
       refine y0 rfl (o_ixL (f := (PV.int .i64)) (cs := [.int .i64 v110]) hv81 rfl rfl Ty.e28 Ty.s3 rfl rfl) <| y0 rfl (o_loadRS rfl Ty.a3 rfl) <| y0 rfl (o_assign (d := .int .i64 v110) rfl) <| y_nil <| sR <| y0 rfl (o_loadA (cs := store_Store.Pc a0) rfl rfl rfl Ty.a26 Ty.s26 nl rfl) <| y0 rfl (o_move (d := .int .i64 v110) rfl) ?_
       obtain ⟨v111, hv82, h⟩ := bindE h
       refine y0 rfl (o_call (ds := [store_Store.Pv a0, .int .i64 v110]) rfl Ty.k116 rfl (reach_isLive_ok hv82)) <| y0 rfl (o_move (d := .bool v111) rfl) <| y_if (g := (v111 == true)) rfl (fun hg => o_loadS rfl rfl rfl Ty.a104 rfl) <| y_if (g := (v111 == true)) rfl (fun hg => o_move (d := .int .i64 v110) rfl) ?_
       rcases Bool.eq_false_or_eq_true (v111 == true) with hg83 | hg83
       ·have h := ifT h hg83
        refine y_lkM (es := s100) (k := v110) (E := PV.bool) (EK := (PV.int .i64)) (d := .bool ((mget s100 v110).getD (false : Bool))) (congrArg some hg83) (ct hg83) rfl (ct hg83) Ty.mm104 (keyT_int Ty.u3) Ty.z4 rfl (lk1 _ _ _) <| y0 (congrArg some hg83) (o_not rfl rfl) <| y0 rfl (pk_andT rfl rfl hg83) <| y_nil ?_
        refine pw_cond (!((mget s100 v110).getD (false : Bool))) rfl (fun hc => ?_) (fun hc => ?_)
        ·have h := ifT h hc
         refine sR <| y0 rfl (o_loadS rfl rfl rfl Ty.a104 rfl) <| y0 rfl (o_move (d := .int .i64 v110) rfl) <| y_setM (es := s100) (k := v110) (v := true) (E := PV.bool) (EK := (PV.int .i64)) (.inl rfl) rfl rfl rfl rfl rfl rfl Ty.mm104 (keyT_int Ty.u3) <| y_nil <| sr1 (by kernel_rfl) <| y0 rfl (o_loadA (cs := queue_Queue_int.Pc s99) rfl rfl rfl Ty.a148 Ty.s148 nl rfl) <| y0 rfl (o_move (d := .int .i64 v110) rfl) ?_
         obtain ⟨v112, hv84, h⟩ := bindE h
         refine yc rfl (o_callF (ls := []) (ds := [queue_Queue_int.Pv s99, .int .i64 v110]) rfl Ty.k125 rfl (queue_Push_int_ok hv84)) <| y0 rfl (o_move (d := .tup [queue_Queue_int.Pv v112.1, .int .i64 v112.2]) rfl) <| y0 rfl (o_extract rfl rfl) <| y0 rfl (o_extract rfl rfl) <| y_sto (x' := queue_Queue_int.Pv v112.1) (cl' := true) rfl rfl (.inr rfl) Ty.s148 <| y_nil ?_
         exact ⟨rfl, (v112.1, (mput s100 v110 true)), h, (wk_st _ _ ⟨rfl, rfl, rfl, rfl, rfl, rfl, rfl, rfl, rfl, rfl, rfl, rfl, rfl, rfl, rfl, rfl, rfl, rfl, rfl, rfl, rfl, rfl, rfl, rfl, rfl, rfl, rfl, rfl, rfl, rfl, rfl, rfl, rfl, rfl, rfl, rfl, trivial⟩ ⟨rS, rowLe_open rfl rfl rfl (fun q => nomatch q) rfl rfl rfl rfl, rowLe_open rfl rfl rfl (fun q => nomatch q) rfl rfl rfl rfl, rS, trivial⟩)⟩
        ·have h := ifF h hc
         refine pw_skip ?_
         exact ⟨rfl, (s99, s100), h, (wk_st _ _ ⟨rfl, rfl, rfl, rfl, rfl, rfl, rfl, rfl, rfl, rfl, rfl, rfl, rfl, rfl, rfl, rfl, rfl, rfl, rfl, rfl, rfl, rfl, rfl, rfl, rfl, rfl, rfl, rfl, rfl, rfl, rfl, rfl, rfl, rfl, rfl, rfl, trivial⟩ ⟨rS, rowLe_open rfl rfl rfl (fun q => nomatch q) rfl rfl rfl rfl, rowLe_open rfl rfl rfl (fun q => nomatch q) rfl rfl rfl rfl, rS, trivial⟩)⟩
       ·have h := ifF h hg83
        refine y_skip (congrArg some hg83) <| y_skip (congrArg some hg83) <| y0 rfl (pk_andF rfl rfl hg83) <| y_nil ?_
        refine pw_cond false rfl (fun q => nomatch q) (fun _ => ?_)
        refine pw_skip ?_
        exact ⟨rfl, (s99, s100), h, (wk_st _ _ ⟨rfl, rfl, rfl, rfl, rfl, rfl, rfl, rfl, rfl, rfl, rfl, rfl, rfl, rfl, rfl, rfl, rfl, rfl, rfl, rfl, rfl, rfl, rfl, rfl, rfl, rfl, rfl, rfl, rfl, rfl, rfl, rfl, rfl, rfl, rfl, rfl, trivial⟩ ⟨rS, rowLe_open rfl rfl rfl (fun q => nomatch q) rfl rfl rfl rfl, rowLe_open rfl rfl rfl (fun q => nomatch q) rfl rfl rfl rfl, rS, trivial⟩)⟩
     ·have h := ifF h hc
      refine pw_exit <| thenQ_exit <| thenQ_exit <| blockQ_exit ?_
      have he := hx75 _ (Option.some.inj h).symm
      have h := hk74
      rw [← he] at h
      exact ⟨rfl, (s99, s100), h, (wk_st _ _ ⟨rfl, rfl, rfl, rfl, rfl, rfl, rfl, rfl, rfl, rfl, rfl, rfl, rfl, rfl, rfl, rfl, rfl, rfl, trivial⟩ ⟨rS, rowLe_open rfl rfl rfl (fun q => nomatch q) rfl rfl rfl rfl, rowLe_open rfl rfl rfl (fun q => nomatch q) rfl rfl rfl rfl, rS, trivial⟩)⟩
   ·have h := ifF h hc
    refine pw_exit <| thenQ_exit <| thenQ_exit <| blockQ_exit ?_
    have he := hx54 _ (Option.some.inj h).symm
    have h := hk53
    rw [← he] at h
    exact ⟨rfl, s71, h, (wk_st _ _ ⟨rfl, rfl, rfl, trivial⟩ ⟨rowLe_open rfl rfl rfl (fun q => nomatch q) rfl rfl rfl rfl, rowLe_open rfl rfl rfl (fun q => nomatch q) rfl rfl rfl rfl, trivial⟩)⟩
 ·skip
  refine sR <| y0 rfl (o_move (d := .lst false (List.map (PV.int .i64) a1)) rfl) <| y0 rfl (o_lnL (f := (PV.int .i64)) rfl Ty.e28) <| y0 rfl (o_move (d := .int .i64 0) rfl) <| y_nil <| pw_block ?_
  obtain ⟨e113, hl85, hk86⟩ := bindE h
  refine pw_lp0 (fun (q : Int × queue_Queue_int × (List (Int × Bool))) => St.of [(1000002, .ptr 2003 0 0), (1000005, .ptr 2002 0 0), (1000006, .ptr 2001 0 0), (1000007, .fn (.func 124) [.ptr 2003 0 0, .ptr 2002 0 0, .ptr 2001 0 0]), (1000015, .fn (.func 124) [.ptr 2003 0 0, .ptr 2002 0 0, .ptr 2001 0 0]), (1000016, .lst false (List.map (PV.int .i64) a1)), (1, .ptr 2003 0 0), (2, .ptr 2002 0 0), (3, .ptr 2001 0 0), (7, .lst false (List.map (PV.int .i64) a1)), (8, .int .i64 (a1.length : Int)), (9, .int .i64 q.1)] [(2001, ⟨[queue_Queue_int.Pv q.2.1], 0, false, 2, true⟩), (2002, ⟨[.mp 5002004], 0, false, 1, false⟩), (5002004, ⟨[.mapc (List.map (ent (PV.int .i64) PV.bool) q.2.2)], 0, false, 0, false⟩), (2003, ⟨[store_Store.Pv a0], 0, false, 3, true⟩)]) hl85 (wk_st _ _ ⟨rfl, rfl, rfl, rfl, rfl, rfl, rfl, rfl, rfl, rfl, rfl, rfl, rfl, rfl, rfl, rfl, rfl, rfl, rfl, rfl, rfl, rfl, rfl, rfl, rfl, rfl, rfl, rfl, rfl, rfl, rfl, rfl, rfl, rfl, rfl, rfl, trivial⟩ ⟨rS, rowLe_open rfl rfl rfl (fun q => nomatch q) rfl rfl rfl rfl, rowLe_open rfl rfl rfl (fun q => nomatch q) rfl rfl rfl rfl, rS, trivial⟩) (fun q118 x117 h hx87 => ?_)
  obtain ⟨s114, s115, s116⟩ := q118
  refine sR <| y0 rfl (o_cmp rfl rfl rfl) <| y_nil <| pw_seq ?_
  refine pw_cond (decide (s114 < (a1.length : Int))) rfl (fun hc => ?_) (fun hc => ?_)
  ·have h := ifT h hc
   refine pw_skip ?_
   obtain ⟨κ122, hκ92, h⟩ := jnE h
   refine pw_jn0 (κ := κ122) (r := x117) (fun (q : queue_Queue_int × (List (Int × Bool))) => St.of [(1000002, .ptr 2003 0 0), (1000005, .ptr 2002 0 0), (1000006, .ptr 2001 0 0), (1000007, .fn (.func 124) [.ptr 2003 0 0, .ptr 2002 0 0, .ptr 2001 0 0]), (1000015, .fn (.func 124) [.ptr 2003 0 0, .ptr 2002 0 0, .ptr 2001 0 0]), (1000016, .lst false (List.map (PV.int .i64) a1)), (1, .ptr 2003 0 0), (2, .ptr 2002 0 0), (3, .ptr 2001 0 0), (7, .lst false (List.map (PV.int .i64) a1)), (8, .int .i64 (a1.length : Int)), (9, .int .i64 s114)] [(2001, ⟨[queue_Queue_int.Pv q.1], 0, false, 2, true⟩), (2002, ⟨[.mp 5002004], 0, false, 1, false⟩), (5002004, ⟨[.mapc (List.map (ent (PV.int .i64) PV.bool) q.2)], 0, false, 0, false⟩), (2003, ⟨[store_Store.Pv a0], 0, false, 3, true⟩)]) (fun q125 h => ?_) ?_
   ·subst hκ92
    obtain ⟨j123, j124⟩ := q125
    refine sr1 (by kernel_rfl) <| y0 rfl (o_ari rfl rfl rfl) <| y0 rfl (o_move (d := .int .i64 (w64 (s114 + 1))) rfl) <| y_nil ?_
    exact ⟨rfl, (w64 (s114 + 1), j123, j124), (Option.some.inj h).symm, (wk_st _ _ ⟨rfl, rfl, rfl, rfl, rfl, rfl, rfl, rfl, rfl, rfl, rfl, rfl, rfl, rfl, rfl, rfl, rfl, rfl, rfl, rfl, rfl, rfl, rfl, rfl, rfl, rfl, rfl, rfl, rfl, rfl, rfl, rfl, rfl, rfl, rfl, rfl, trivial⟩ ⟨rS, rowLe_open rfl rfl rfl (fun q => nomatch q) rfl rfl rfl rfl, rowLe_open rfl rfl rfl (fun q => nomatch q) rfl rfl rfl rfl, rS, trivial⟩)⟩
   ·skip
    refine pw_block <| sR ?_
    obtain ⟨v126, hv93, h⟩ := bindE h
    refine y0 rfl (o_ixL (f := (PV.int .i64)) (cs := [.int .i64 v126]) hv93 rfl rfl Ty.e28 Ty.s3 rfl rfl) <| y0 rfl (o_loadRS rfl Ty.a3 rfl) <| y0 rfl (o_assign (d := .int .i64 v126) rfl) <| y_nil <| sR <| y0 rfl (o_loadA (cs := store_Store.Pc a0) rfl rfl rfl Ty.a26 Ty.s26 nl rfl) <| y0 rfl (o_move (d := .int .i64 v126) rfl) ?_
    obtain ⟨v127, hv94, h⟩ := bindE h
    refine y0 rfl (o_call (ds := [store_Store.Pv a0, .int .i64 v126]) rfl Ty.k116 rfl (reach_isLive_ok hv94)) <| y0 rfl (o_move (d := .bool v127) rfl) <| y_if (g := (v127 == true)) rfl (fun hg => o_loadS rfl rfl rfl Ty.a104 rfl) <| y_if (g := (v127 == true)) rfl (fun hg => o_move (d := .int .i64 v126) rfl) ?_
    rcases Bool.eq_false_or_eq_true (v127 == true) with hg95 | hg95
    ·have h := ifT h hg95
     refine y_lkM (es := s116) (k := v126) (E := PV.bool) (EK := (PV.int .i64)) (d := .bool ((mget s116 v126).getD (false : Bool))) (congrArg some hg95) (ct hg95) rfl (ct hg95) Ty.mm104 (keyT_int Ty.u3) Ty.z4 rfl (lk1 _ _ _) <| y0 (congrArg some hg95) (o_not rfl rfl) <| y0 rfl (pk_andT rfl rfl hg95) <| y_nil ?_
     refine pw_cond (!((mget s116 v126).getD (false : Bool))) rfl (fun hc => ?_) (fun hc => ?_)
     ·have h := ifT h hc
      refine sR <| y0 rfl (o_loadS rfl rfl rfl Ty.a104 rfl) <| y0 rfl (o_move (d := .int .i64 v126) rfl) <| y_setM (es := s116) (k := v126) (v := true) (E := PV.bool) (EK := (PV.int .i64)) (.inl rfl) rfl rfl rfl rfl rfl rfl Ty.mm104 (keyT_int Ty.u3) <| y_nil <| sr1 (by kernel_rfl) <| y0 rfl (o_loadA (cs := queue_Queue_int.Pc s115) rfl rfl rfl Ty.a148 Ty.s148 nl rfl) <| y0 rfl (o_move (d := .int .i64 v126) rfl) ?_
      obtain ⟨v128, hv96, h⟩ := bindE h
      refine yc rfl (o_callF (ls := []) (ds := [queue_Queue_int.Pv s115, .int .i64 v126]) rfl Ty.k125 rfl (queue_Push_int_ok hv96)) <| y0 rfl (o_move (d := .tup [queue_Queue_int.Pv v128.1, .int .i64 v128.2]) rfl) <| y0 rfl (o_extract rfl rfl) <| y0 rfl (o_extract rfl rfl) <| y_sto (x' := queue_Queue_int.Pv v128.1) (cl' := true) rfl rfl (.inr rfl) Ty.s148 <| y_nil ?_
      exact ⟨rfl, (v128.1, (mput s116 v126 true)), h, (wk_st _ _ ⟨rfl, rfl, rfl, rfl, rfl, rfl, rfl, rfl, rfl, rfl, rfl, rfl, rfl, rfl, rfl, rfl, rfl, rfl, rfl, rfl, rfl, rfl, rfl, rfl, rfl, rfl, rfl, rfl, rfl, rfl, rfl, rfl, rfl, rfl, rfl, rfl, trivial⟩ ⟨rS, rowLe_open rfl rfl rfl (fun q => nomatch q) rfl rfl rfl rfl, rowLe_open rfl rfl rfl (fun q => nomatch q) rfl rfl rfl rfl, rS, trivial⟩)⟩
     ·have h := ifF h hc
      refine pw_skip ?_
      exact ⟨rfl, (s115, s116), h, (wk_st _ _ ⟨rfl, rfl, rfl, rfl, rfl, rfl, rfl, rfl, rfl, rfl, rfl, rfl, rfl, rfl, rfl, rfl, rfl, rfl, rfl, rfl, rfl, rfl, rfl, rfl, rfl, rfl, rfl, rfl, rfl, rfl, rfl, rfl, rfl, rfl, rfl, rfl, trivial⟩ ⟨rS, rowLe_open rfl rfl rfl (fun q => nomatch q) rfl rfl rfl rfl, rowLe_open rfl rfl rfl (fun q => nomatch q) rfl rfl rfl rfl, rS, trivial⟩)⟩
    ·have h := ifF h hg95
     refine y_skip (congrArg some hg95) <| y_skip (congrArg some hg95) <| y0 rfl (pk_andF rfl rfl hg95) <| y_nil ?_
     refine pw_cond false rfl (fun q => nomatch q) (fun _ => ?_)
     refine pw_skip ?_
     exact ⟨rfl, (s115, s116), h, (wk_st _ _ ⟨rfl, rfl, rfl, rfl, rfl, rfl, rfl, rfl, rfl, rfl, rfl, rfl, rfl, rfl, rfl, rfl, rfl, rfl, rfl, rfl, rfl, rfl, rfl, rfl, rfl, rfl, rfl, rfl, rfl, rfl, rfl, rfl, rfl, rfl, rfl, rfl, trivial⟩ ⟨rS, rowLe_open rfl rfl rfl (fun q => nomatch q) rfl rfl rfl rfl, rowLe_open rfl rfl rfl (fun q => nomatch q) rfl rfl rfl rfl, rS, trivial⟩)⟩
  ·have h := ifF h hc
   refine pw_exit <| thenQ_exit <| thenQ_exit <| blockQ_exit ?_
   have he := hx87 _ (Option.some.inj h).symm
   have h := hk86
   rw [← he] at h
   exact ⟨rfl, (s115, s116), h, (wk_st _ _ ⟨rfl, rfl, rfl, rfl, rfl, rfl, rfl, rfl, rfl, rfl, rfl, rfl, rfl, rfl, rfl, rfl, rfl, rfl, trivial⟩ ⟨rS, rowLe_open rfl rfl rfl (fun q => nomatch q) rfl rfl rfl rfl, rowLe_open rfl rfl rfl (fun q => nomatch q) rfl rfl rfl rfl, rS, trivial⟩)⟩

theorem reach_From_1_ok {a0 : Int} {a1 : List (Int × Bool)} {r : Bool} (h : reach_From_1 a0 a1 = some r) : PCalls Tryz.prog 78 [.int .i64 a0, .rptr [.abs (ImMap (List.map (ent (PV.int .i64) PV.bool) a1))]] (.bool r) := by
 unfold reach_From_1 at h
 refine pc_intro (N := 7) Tryz.func78 rfl rfl nl fun w0 imm0 => sR <| y0 rfl (o_assign (d := .bool false) rfl) <| y_nil <| sR <| y0 rfl (o_loadRS rfl Ty.a104 rfl) <| y0 rfl (o_move (d := .int .i64 a0) rfl) <| y0 rfl (o_lkI (es := a1) (k := a0) (E := PV.bool) (EK := (PV.int .i64)) (d := .bool ((mget a1 a0).getD (false : Bool))) rfl rfl Ty.mm104 (keyT_int Ty.u3) Ty.z4 rfl (lk1 _ _ _)) ?_
 refine y0 rfl (o_assign (d := .bool ((mget a1 a0).getD (false : Bool))) rfl) <| y_nil <| pw_ret ?_
 obtain rfl := Option.some.inj h
 exact ⟨rfl, [_], ⟨rfl, trivial⟩, rfl, io⟩

theorem reach_live__reach_From_1_ok {a0 : store_Store} {a1 : List (Int × Bool)} {r : List Int} (h : reach_live__reach_From_1 a0 a1 = some r) : PCalls Tryz.prog 77 [store_Store.Pv a0, .fn (.func 78) [.rptr [.abs (ImMap (List.map (ent (PV.int .i64) PV.bool) a1))]]] (.lst false (List.map (PV.int .i64) r)) := by
 unfold reach_live__reach_From_1 at h
 refine pc_intro (N := 24) Tryz.func77 rfl rfl nl fun w0 imm0 => sR <| y1 rfl (o_box (d := store_Store.Pv a0) (z := 3) (cl := true) rfl rfl rfl rfl rfl) rfl <| y0 rfl (o_assign (d := .lst true (List.map (PV.int .i64) [])) rfl) <| y_nil <| sR <| y0 rfl (o_assign (d := .lst true (List.map (PV.int .i64) [])) rfl) <| y_nil ?_
 obtain ⟨κ15, hκ12, h⟩ := jnE h
 refine pw_jn0 (κ := κ15) (r := r) (fun (j16 : List Int) => St.of [(5, .sl 910005)] [(910005, ⟨List.map (PV.int .i64) j16, (List.map (PV.int .i64) j16).length, true, 1, true⟩)]) (fun j16 h => ?_) ?_
 ·subst hκ12
  refine sR <| y0 rfl (o_move (d := .sl 910005) rfl) <| y0 rfl (o_assign (d := .sl 910005) rfl) <| y_nil <| pw_ret ?_
  obtain rfl := Option.some.inj h
  exact ⟨rfl, [_], ⟨rfl, trivial⟩, rfl, io⟩
 ·skip
  refine sR <| y0 rfl (o_loadA (cs := store_Store.Pc a0) rfl rfl rfl Ty.a26 Ty.s26 nl rfl) ?_
  obtain ⟨v17, hv13, h⟩ := bindE h
  refine yc rfl (o_callF (ls := []) (ds := [store_Store.Pv a0]) rfl Ty.k123 rfl (store_Live_ok hv13)) <| y0 rfl (o_lnL (f := (PV.int .i64)) rfl Ty.e28) <| y0 rfl (o_move (d := .int .i64 0) rfl) <| y_nil <| pw_block ?_
  obtain ⟨e18, hl14, hk15⟩ := bindE h
  refine pw_lp0 (fun (q : Int × (List Int)) => St.of [(1, .fn (.func 78) [.rptr [.abs (ImMap (List.map (ent (PV.int .i64) PV.bool) a1))]]), (5, .sl 910005), (9, .lst false (List.map (PV.int .i64) v17)), (10, .int .i64 (v17.length : Int)), (11, .int .i64 q.1)] [(910005, ⟨List.map (PV.int .i64) q.2, (List.map (PV.int .i64) q.2).length, true, 1, true⟩)]) hl14 (Wk.trans (wk_nil (t := 5) (l := 920005) (z := 1) rfl rfl) (wk_stP (fun l => if l = 910005 then 920005 else l) _ _ ⟨rfl, rfl, rfl, rfl, rfl, rfl, rfl, rfl, rfl, rfl, rfl, rfl, rfl, rfl, rfl, trivial⟩ ⟨rN, trivial⟩ rfl)) (fun q22 x21 h hx16 => ?_)
  obtain ⟨s19, s20⟩ := q22
  refine sR <| y0 rfl (o_cmp rfl rfl rfl) <| y_nil <| pw_seq ?_
  refine pw_cond (decide (s19 < (v17.length : Int))) rfl (fun hc => ?_) (fun hc => ?_)
  ·have h := ifT h hc
   refine pw_skip ?_
   obtain ⟨κ26, hκ20, h⟩ := jnE h
   refine pw_jn0 (κ := κ26) (r := x21) (fun (j27 : List Int) => St.of [(1, .fn (.func 78) [.rptr [.abs (ImMap (List.map (ent (PV.int .i64) PV.bool) a1))]]), (5, .sl 21), (9, .lst false (List.map (PV.int .i64) v17)), (10, .int .i64 (v17.length : Int)), (11, .int .i64 s19)] [(21, ⟨List.map (PV.int .i64) j27, (List.map (PV.int .i64) j27).length, true, 1, true⟩)]) (fun j27 h => ?_) ?_
   ·subst hκ20
    refine sr1 (by kernel_rfl) <| y0 rfl (o_ari rfl rfl rfl) <| y0 rfl (o_move (d := .int .i64 (w64 (s19 + 1))) rfl) <| y_nil ?_
    exact ⟨rfl, (w64 (s19 + 1), j27), (Option.some.inj h).symm, (Wk.trans (wk_frz _ [21]) (wk_stP (fun l => if l = 910005 then 21 else l) _ _ ⟨rfl, rfl, rfl, rfl, rfl, rfl, rfl, rfl, rfl, rfl, rfl, rfl, rfl, rfl, rfl, trivial⟩ ⟨rN, trivial⟩ rfl))⟩
   ·skip
    refine pw_block <| sR ?_
    obtain ⟨v28, hv21, h⟩ := bindE h
    refine y0 rfl (o_ixL (f := (PV.int .i64)) (cs := [.int .i64 v28]) hv21 rfl rfl Ty.e28 Ty.s3 rfl rfl) <| y0 rfl (o_loadRS rfl Ty.a3 rfl) <| y0 rfl (o_assign (d := .int .i64 v28) rfl) <| y_nil <| sR <| y0 rfl (o_move (d := .fn (.func 78) [.rptr [.abs (ImMap (List.map (ent (PV.int .i64) PV.bool) a1))]]) rfl) <| y0 rfl (o_move (d := .int .i64 v28) rfl) ?_
    obtain ⟨v29, hv22, h⟩ := bindE h
    refine y0 rfl (o_call (ds := [.int .i64 v28, .rptr [.abs (ImMap (List.map (ent (PV.int .i64) PV.bool) a1))]]) rfl Ty.k78 rfl (reach_From_1_ok hv22)) <| y_nil ?_
    refine pw_cond v29 rfl (fun hc => ?_) (fun hc => ?_)
    ·have h := ifT h hc
     refine sr1 (by kernel_rfl) <| y0 rfl (o_move (d := .sl 910005) rfl) <| y0 rfl (o_move (d := .int .i64 v28) rfl) <| y0 rfl (o_bI (f := (PV.int .i64)) (l := [v28]) rfl Ty.e28 Ty.s3 Ty.z3 rfl rfl nl rfl rfl) ?_
     obtain ⟨v30, hv23, h⟩ := bindE h
     refine y_app rfl (o_apR (f := (PV.int .i64)) hv23 rfl rfl rfl rfl rfl rfl (.inl ⟨_, rfl, rfl⟩) Ty.e28 Ty.s3 Ty.b3 Ty.z3 rfl (fun _ => rfl)) rfl rfl rfl <| y0 rfl (o_assign (d := .sl 21) rfl) <| y_nil ?_
     exact ⟨rfl, v30, h, (Wk.trans (wk_frz _ [21]) (wk_st _ _ ⟨rfl, rfl, rfl, rfl, rfl, rfl, rfl, rfl, rfl, rfl, rfl, rfl, rfl, rfl, rfl, trivial⟩ ⟨rS, trivial⟩))⟩
    ·have h := ifF h hc
     refine pw_skip ?_
     exact ⟨rfl, s20, h, (Wk.trans (wk_frz _ [910005]) (wk_stP (fun l => if l = 21 then 910005 else l) _ _ ⟨rfl, rfl, rfl, rfl, rfl, rfl, rfl, rfl, rfl, rfl, rfl, rfl, rfl, rfl, rfl, trivial⟩ ⟨rN, trivial⟩ rfl))⟩
  ·have h := ifF h hc
   refine pw_exit <| thenQ_exit <| thenQ_exit <| blockQ_exit ?_
   have he := hx16 _ (Option.some.inj h).symm
   have h := hk15
   rw [← he] at h
   exact ⟨rfl, s20, h, (Wk.trans (wk_frz _ [910005]) (wk_st _ _ ⟨rfl, rfl, rfl, trivial⟩ ⟨rS, trivial⟩))⟩

theorem reach_From_ok {a0 : store_Store} {a1 : List Int} {r : List Int} (h : reach_From a0 a1 = some r) : PCalls Tryz.prog 29 [store_Store.Pv a0, .lst false (List.map (PV.int .i64) a1)] (.lst false (List.map (PV.int .i64) r)) := by
 unfold reach_From at h
 refine pc_intro (N := 12) Tryz.func29 rfl rfl nl fun w0 imm0 => sR <| y1 rfl (o_box (d := store_Store.Pv a0) (z := 3) (cl := true) rfl rfl rfl rfl rfl) rfl <| y0 rfl (o_assign (d := .lst true (List.map (PV.int .i64) [])) rfl) <| y_nil <| sR <| y0 rfl (o_loadA (cs := store_Store.Pc a0) rfl rfl rfl Ty.a26 Ty.s26 nl rfl) <| y0 rfl (o_move (d := .lst false (List.map (PV.int .i64) a1)) rfl) ?_
 obtain ⟨v1, hv1, h⟩ := bindE h
 refine yc rfl (o_callF (ls := []) (ds := [store_Store.Pv a0, .lst false (List.map (PV.int .i64) a1)]) rfl Ty.k76 rfl (reach_spread_ok hv1)) <| y1 rfl (o_alloc (d := .abs NilMap) (z := 1) rfl Ty.z104 rfl rfl rfl) rfl <| y_sto (x' := .abs (ImMap (List.map (ent (PV.int .i64) PV.bool) v1))) (cl' := true) rfl rfl (.inl rfl) Ty.s104 <| y_nil <| sR <| y0 rfl (o_loadA (cs := store_Store.Pc a0) rfl rfl rfl Ty.a26 Ty.s26 nl rfl) <| y0 rfl (o_mkFunc rfl) ?_
 obtain ⟨v2, hv2, h⟩ := bindE h
 refine ycL rfl (o_callF (ls := [5]) (ds := [store_Store.Pv a0, .fn (.func 78) [.ptr 5 0 0]]) rfl Ty.k77 rfl (reach_live__reach_From_1_ok hv2)) rfl <| y0 rfl (o_assign (d := .lst false (List.map (PV.int .i64) v2)) rfl) <| y_nil <| pw_ret ?_
 obtain rfl := Option.some.inj h
 exact ⟨rfl, [_], ⟨rfl, trivial⟩, rfl, io⟩

theorem ephem_pairs_ok {a0 : List hash_Place} {r : List hash_Place} (h : ephem_pairs a0 = some r) : PCalls Tryz.prog 80 [.lst false (List.map hash_Place.Pv a0)] (.fn (.func 128) [.rptr [.lst false (List.map hash_Place.Pv r)]]) := by
 unfold ephem_pairs at h
 refine pc_intro (N := 4) Tryz.func80 rfl rfl nl fun w0 imm0 => sR <| y1 rfl (o_box (d := .lst false (List.map hash_Place.Pv a0)) (z := 1) (cl := true) rfl rfl rfl rfl rfl) rfl <| y0 rfl (o_assign (d := .nilfn) rfl) <| y_nil <| sR <| y0 rfl (o_mkFunc rfl) <| y0 rfl (o_assign (d := .fn (.func 128) [.ptr 1 0 0]) rfl) ?_
 refine y_nil <| pw_ret ?_
 obtain rfl := Option.some.inj h
 exact ⟨rfl, [_], ⟨rfl, trivial⟩, rfl, io⟩

theorem hash_Keys_ok {a0 : List hash_Place} {r : List Int} (h : hash_Keys a0 = some r) : PCalls Tryz.prog 129 [.lst false (List.map hash_Place.Pv a0)] (.lst false (List.map (PV.int .i64) r)) := by
 unfold hash_Keys at h
 refine pc_intro (N := 22) Tryz.func129 rfl rfl nl fun w0 imm0 => sR <| y0 rfl (o_assign (d := .lst true (List.map (PV.int .i64) [])) rfl) <| y_nil <| sR <| y0 rfl (o_assign (d := .lst true (List.map (PV.int .i64) [])) rfl) <| y_nil ?_
 obtain ⟨κ12, hκ9, h⟩ := jnE h
 refine pw_jn0 (κ := κ12) (r := r) (fun (j13 : List Int) => St.of [(3, .sl 910003)] [(910003, ⟨List.map (PV.int .i64) j13, (List.map (PV.int .i64) j13).length, true, 1, true⟩)]) (fun j13 h => ?_) ?_
 ·subst hκ9
  refine sR <| y0 rfl (o_move (d := .sl 910003) rfl) <| y0 rfl (o_assign (d := .sl 910003) rfl) <| y_nil <| pw_ret ?_
  obtain rfl := Option.some.inj h
  exact ⟨rfl, [_], ⟨rfl, trivial⟩, rfl, io⟩
 ·skip
  refine sR <| y0 rfl (o_move (d := .lst false (List.map hash_Place.Pv a0)) rfl) <| y0 rfl (o_lnL (f := hash_Place.Pv) rfl Ty.e27) <| y0 rfl (o_move (d := .int .i64 0) rfl) <| y_nil <| pw_block ?_
  obtain ⟨e14, hl10, hk11⟩ := bindE h
  refine pw_lp0 (fun (q : Int × (List Int)) => St.of [(3, .sl 910003), (6, .lst false (List.map hash_Place.Pv a0)), (7, .int .i64 (a0.length : Int)), (8, .int .i64 q.1)] [(910003, ⟨List.map (PV.int .i64) q.2, (List.map (PV.int .i64) q.2).length, true, 1, true⟩)]) hl10 (Wk.trans (wk_nil (t := 3) (l := 920003) (z := 1) rfl rfl) (wk_stP (fun l => if l = 910003 then 920003 else l) _ _ ⟨rfl, rfl, rfl, rfl, rfl, rfl, rfl, rfl, rfl, rfl, rfl, rfl, trivial⟩ ⟨rN, trivial⟩ rfl)) (fun q18 x17 h hx12 => ?_)
  obtain ⟨s15, s16⟩ := q18
  refine sR <| y0 rfl (o_cmp rfl rfl rfl) <| y_nil <| pw_seq ?_
  refine pw_cond (decide (s15 < (a0.length : Int))) rfl (fun hc => ?_) (fun hc => ?_)
  ·have h := ifT h hc
   refine pw_skip ?_
   obtain ⟨κ21, hκ15, h⟩ := jnE h
   refine pw_jn0 (κ := κ21) (r := x17) (fun (j22 : List Int) => St.of [(3, .sl 19), (6, .lst false (List.map hash_Place.Pv a0)), (7, .int .i64 (a0.length : Int)), (8, .int .i64 s15)] [(19, ⟨List.map (PV.int .i64) j22, (List.map (PV.int .i64) j22).length, true, 1, true⟩)]) (fun j22 h => ?_) ?_
   ·subst hκ15
    refine sr1 (by kernel_rfl) <| y0 rfl (o_ari rfl rfl rfl) <| y0 rfl (o_move (d := .int .i64 (w64 (s15 + 1))) rfl) <| y_nil ?_
    exact ⟨rfl, (w64 (s15 + 1), j22), (Option.some.inj h).symm, (Wk.trans (wk_frz _ [19]) (wk_stP (fun l => if l = 910003 then 19 else l) _ _ ⟨rfl, rfl, rfl, rfl, rfl, rfl, rfl, rfl, rfl, rfl, rfl, rfl, trivial⟩ ⟨rN, trivial⟩ rfl))⟩
   ·skip
    refine pw_block <| sR ?_
    obtain ⟨v23, hv16, h⟩ := bindE h
    refine y0 rfl (o_ixL (f := hash_Place.Pv) (cs := hash_Place.Pc v23) hv16 rfl rfl Ty.e27 Ty.s94 rfl rfl) <| y0 rfl (o_loadRA (cs := hash_Place.Pc v23) rfl Ty.a94 Ty.s94 nl rfl) <| y1 rfl (o_alloc (d := .agg [.int .i64 0, .int .i64 0, .int .i64 0]) (z := 3) rfl Ty.z94 rfl rfl rfl) rfl <| y_sto (x' := hash_Place.Pv v23) (cl' := true) rfl rfl (.inl rfl) Ty.s94 <| y_nil <| sR <| y0 rfl (o_fieldAddrP (k := 0) rfl Ty.f94_0 rfl) <| y0 rfl (o_loadS rfl rfl rfl Ty.a3 rfl) ?_
    refine y0 rfl (o_cmp rfl rfl rfl) <| y_nil ?_
    refine pw_cond (v23.State == 1) rfl (fun hc => ?_) (fun hc => ?_)
    ·have h := ifT h hc
     refine sr1 (by kernel_rfl) <| y0 rfl (o_move (d := .sl 910003) rfl) <| y0 rfl (o_fieldAddrP (k := 1) rfl Ty.f94_1 rfl) <| y0 rfl (o_loadS rfl rfl rfl Ty.a3 rfl) <| y0 rfl (o_bI (f := (PV.int .i64)) (l := [v23.Key]) rfl Ty.e28 Ty.s3 Ty.z3 rfl rfl nl rfl rfl) ?_
     obtain ⟨v24, hv17, h⟩ := bindE h
     refine y_app rfl (o_apR (f := (PV.int .i64)) hv17 rfl rfl rfl rfl rfl rfl (.inl ⟨_, rfl, rfl⟩) Ty.e28 Ty.s3 Ty.b3 Ty.z3 rfl (fun _ => rfl)) rfl rfl rfl <| y0 rfl (o_assign (d := .sl 19) rfl) <| y_nil ?_
     exact ⟨rfl, v24, h, (Wk.trans (wk_frz _ [19]) (wk_st _ _ ⟨rfl, rfl, rfl, rfl, rfl, rfl, rfl, rfl, rfl, rfl, rfl, rfl, trivial⟩ ⟨rS, trivial⟩))⟩
    ·have h := ifF h hc
     refine pw_skip ?_
     exact ⟨rfl, s16, h, (Wk.trans (wk_frz _ [910003]) (wk_stP (fun l => if l = 19 then 910003 else l) _ _ ⟨rfl, rfl, rfl, rfl, rfl, rfl, rfl, rfl, rfl, rfl, rfl, rfl, trivial⟩ ⟨rN, trivial⟩ rfl))⟩
  ·have h := ifF h hc
   refine pw_exit <| thenQ_exit <| thenQ_exit <| blockQ_exit ?_
   have he := hx12 _ (Option.some.inj h).symm
   have h := hk11
   rw [← he] at h
   exact ⟨rfl, s16, h, (Wk.trans (wk_frz _ [910003]) (wk_st _ _ ⟨rfl, rfl, rfl, trivial⟩ ⟨rS, trivial⟩))⟩

theorem ephem_Pairs_1_ok {a0 : ephem_Pair} {r : Bool} (h : ephem_Pairs_1 a0 = some r) : PCalls Tryz.prog 81 [ephem_Pair.Pv a0] (.bool r) := by
 unfold ephem_Pairs_1 at h
 refine pc_intro (N := 3) Tryz.func81 rfl rfl nl fun w0 imm0 => sR <| y1 rfl (o_box (d := ephem_Pair.Pv a0) (z := 2) (cl := true) rfl rfl rfl rfl rfl) rfl <| y0 rfl (o_assign (d := .bool false) rfl) <| y_nil <| sR <| y0 rfl (o_assign (d := .bool true) rfl) <| y_nil ?_
 refine pw_ret ?_
 obtain rfl := Option.some.inj h
 exact ⟨rfl, [_], ⟨rfl, trivial⟩, rfl, io⟩

end Go.Proofs.YtkjilddlbaibfaaGreat.Ok
