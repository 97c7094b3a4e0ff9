/-
 The functions of the program do as the plain functions do.
-/
import Derived.Test.YtpnajadblhkomaaG8PwC
import Derived.Test.YtpnajadblhkomaaG8PwD
import Derived.Test.YtpnajadblhkomaaSrt
import Derived.Test.YtpnajadblhkomaaG8Sh
import Derived.Test.YtpnajadblhkomaaProg
namespace Go.Proofs.Ytpnajadblhkomaa.Ok
open Go Go.Pw Go.Sh Go.Proofs
set_option linter.unusedVariables false
set_option maxRecDepth 100000
set_option maxHeartbeats 4000000
abbrev _root_.Go.Sh.store_Obj.Pc (x : store_Obj) : List PV := [.int .i64 x.Serial, .int .i64 x.Strong, .int .i64 x.Weak, .int .i64 x.Prog, .bool x.Started, .lst false (List.map (PV.int .i64) x.Fields)]
abbrev _root_.Go.Sh.store_Obj.Pv (x : store_Obj) : PV := .agg x.Pc
abbrev _root_.Go.Sh.slab_Cell_store_Obj.Pc (x : slab_Cell_store_Obj) : List PV := [.int .i64 x.State, .int .i64 x.Gen, .int .i64 x.Val.Serial, .int .i64 x.Val.Strong, .int .i64 x.Val.Weak, .int .i64 x.Val.Prog, .bool x.Val.Started, .lst false (List.map (PV.int .i64) x.Val.Fields)]
abbrev _root_.Go.Sh.slab_Cell_store_Obj.Pv (x : slab_Cell_store_Obj) : PV := .agg x.Pc
abbrev _root_.Go.Sh.slab_Slab_store_Obj.Pc (x : slab_Slab_store_Obj) : List PV := [.lst false (List.map slab_Cell_store_Obj.Pv x.Cells), .int .i64 x.Last]
abbrev _root_.Go.Sh.slab_Slab_store_Obj.Pv (x : slab_Slab_store_Obj) : PV := .agg x.Pc
abbrev _root_.Go.Sh.store_Store.Pc (x : store_Store) : List PV := [.lst false (List.map slab_Cell_store_Obj.Pv x.S.Cells), .int .i64 x.S.Last, .int .i64 x.Serial]
abbrev _root_.Go.Sh.store_Store.Pv (x : store_Store) : PV := .agg x.Pc
abbrev _root_.Go.Sh.r06_Obj.Pc (x : r06_Obj) : List PV := [.int .i64 x.Serial, .int .i64 x.Strong, .int .i64 x.Weak, .int .i64 x.Prog, .bool x.Started, .lst false (List.map (PV.int .i64) x.Fields)]
abbrev _root_.Go.Sh.r06_Obj.Pv (x : r06_Obj) : PV := .agg x.Pc
abbrev _root_.Go.Sh.r06_Cell.Pc (x : r06_Cell) : List PV := [.int .i64 x.State, .int .i64 x.Gen, .int .i64 x.Val.Serial, .int .i64 x.Val.Strong, .int .i64 x.Val.Weak, .int .i64 x.Val.Prog, .bool x.Val.Started, .lst false (List.map (PV.int .i64) x.Val.Fields)]
abbrev _root_.Go.Sh.r06_Cell.Pv (x : r06_Cell) : PV := .agg x.Pc
abbrev _root_.Go.Sh.r06_Store.Pc (x : r06_Store) : List PV := [.lst false (List.map r06_Cell.Pv x.Cells), .int .i64 x.Last, .int .i64 x.Serial]
abbrev _root_.Go.Sh.r06_Store.Pv (x : r06_Store) : PV := .agg x.Pc
abbrev _root_.Go.Sh.r03_Cell.Pc (x : r03_Cell) : List PV := [.int .i64 x.State, .int .i64 x.Gen, .int .i64 x.Val]
abbrev _root_.Go.Sh.r03_Cell.Pv (x : r03_Cell) : PV := .agg x.Pc
abbrev _root_.Go.Sh.r03_Slab.Pc (x : r03_Slab) : List PV := [.lst false (List.map r03_Cell.Pv x.Cells), .int .i64 x.Last]
abbrev _root_.Go.Sh.r03_Slab.Pv (x : r03_Slab) : PV := .agg x.Pc
abbrev _root_.Go.Sh.queue_Queue_int.Pc (x : queue_Queue_int) : List PV := [.lst false (List.map (PV.int .i64) x.L), .int .i64 x.Cap]
abbrev _root_.Go.Sh.queue_Queue_int.Pv (x : queue_Queue_int) : PV := .agg x.Pc
namespace Ty
theorem a3 : tagg Try.prog 3 = some false := by kernel_rfl
theorem a4 : tagg Try.prog 4 = some false := by kernel_rfl
theorem a22 : tagg Try.prog 22 = some false := by kernel_rfl
theorem a24 : tagg Try.prog 24 = some true := by kernel_rfl
theorem a26 : tagg Try.prog 26 = some true := by kernel_rfl
theorem a27 : tagg Try.prog 27 = some false := by kernel_rfl
theorem a29 : tagg Try.prog 29 = some true := by kernel_rfl
theorem a32 : tagg Try.prog 32 = some false := by kernel_rfl
theorem a35 : tagg Try.prog 35 = some false := by kernel_rfl
theorem a37 : tagg Try.prog 37 = some true := by kernel_rfl
theorem a41 : tagg Try.prog 41 = some true := by kernel_rfl
theorem a79 : tagg Try.prog 79 = some false := by kernel_rfl
theorem a81 : tagg Try.prog 81 = some true := by kernel_rfl
theorem a85 : tagg Try.prog 85 = some true := by kernel_rfl
theorem a87 : tagg Try.prog 87 = some true := by kernel_rfl
theorem a98 : tagg Try.prog 98 = some false := by kernel_rfl
theorem a112 : tagg Try.prog 112 = some false := by kernel_rfl
theorem a123 : tagg Try.prog 123 = some true := by kernel_rfl
theorem a134 : tagg Try.prog 134 = some true := by kernel_rfl
theorem b3 : tbytes Try.prog 3 = some 8 := by kernel_rfl
theorem b85 : tbytes Try.prog 85 = some 80 := by kernel_rfl
theorem b87 : tbytes Try.prog 87 = some 80 := by kernel_rfl
theorem b123 : tbytes Try.prog 123 = some 24 := by kernel_rfl
theorem e22 : telem Try.prog 22 = some 85 := by kernel_rfl
theorem e27 : telem Try.prog 27 = some 3 := by kernel_rfl
theorem e35 : telem Try.prog 35 = some 87 := by kernel_rfl
theorem e79 : telem Try.prog 79 = some 123 := by kernel_rfl
theorem f24_0 : foff Try.prog 24 0 = some (0, 22) := by kernel_rfl
theorem f24_1 : foff Try.prog 24 1 = some (1, 3) := by kernel_rfl
theorem f26_0 : foff Try.prog 26 0 = some (0, 24) := by kernel_rfl
theorem f26_1 : foff Try.prog 26 1 = some (2, 3) := by kernel_rfl
theorem f29_0 : foff Try.prog 29 0 = some (0, 3) := by kernel_rfl
theorem f29_1 : foff Try.prog 29 1 = some (1, 3) := by kernel_rfl
theorem f29_2 : foff Try.prog 29 2 = some (2, 3) := by kernel_rfl
theorem f29_3 : foff Try.prog 29 3 = some (3, 3) := by kernel_rfl
theorem f29_4 : foff Try.prog 29 4 = some (4, 4) := by kernel_rfl
theorem f29_5 : foff Try.prog 29 5 = some (5, 27) := by kernel_rfl
theorem f37_0 : foff Try.prog 37 0 = some (0, 35) := by kernel_rfl
theorem f37_1 : foff Try.prog 37 1 = some (1, 3) := by kernel_rfl
theorem f37_2 : foff Try.prog 37 2 = some (2, 3) := by kernel_rfl
theorem f41_0 : foff Try.prog 41 0 = some (0, 3) := by kernel_rfl
theorem f41_1 : foff Try.prog 41 1 = some (1, 3) := by kernel_rfl
theorem f41_2 : foff Try.prog 41 2 = some (2, 3) := by kernel_rfl
theorem f41_3 : foff Try.prog 41 3 = some (3, 3) := by kernel_rfl
theorem f41_4 : foff Try.prog 41 4 = some (4, 4) := by kernel_rfl
theorem f41_5 : foff Try.prog 41 5 = some (5, 27) := by kernel_rfl
theorem f81_0 : foff Try.prog 81 0 = some (0, 79) := by kernel_rfl
theorem f81_1 : foff Try.prog 81 1 = some (1, 3) := by kernel_rfl
theorem f85_0 : foff Try.prog 85 0 = some (0, 3) := by kernel_rfl
theorem f85_1 : foff Try.prog 85 1 = some (1, 3) := by kernel_rfl
theorem f85_2 : foff Try.prog 85 2 = some (2, 29) := by kernel_rfl
theorem f87_0 : foff Try.prog 87 0 = some (0, 3) := by kernel_rfl
theorem f87_1 : foff Try.prog 87 1 = some (1, 3) := by kernel_rfl
theorem f87_2 : foff Try.prog 87 2 = some (2, 41) := by kernel_rfl
theorem f123_0 : foff Try.prog 123 0 = some (0, 3) := by kernel_rfl
theorem f123_1 : foff Try.prog 123 1 = some (1, 3) := by kernel_rfl
theorem f123_2 : foff Try.prog 123 2 = some (2, 3) := by kernel_rfl
theorem f134_0 : foff Try.prog 134 0 = some (0, 27) := by kernel_rfl
theorem f134_1 : foff Try.prog 134 1 = some (1, 3) := by kernel_rfl
theorem k18 : Callable Try.prog 18 := ⟨Try.f18, _, Try.func18, rfl, by decide⟩
theorem k23 : Callable Try.prog 23 := ⟨Try.f23, _, Try.func23, rfl, by decide⟩
theorem k24 : Callable Try.prog 24 := ⟨Try.f24, _, Try.func24, rfl, by decide⟩
theorem k27 : Callable Try.prog 27 := ⟨Try.f27, _, Try.func27, rfl, by decide⟩
theorem k30 : Callable Try.prog 30 := ⟨Try.f30, _, Try.func30, rfl, by decide⟩
theorem k31 : Callable Try.prog 31 := ⟨Try.f31, _, Try.func31, rfl, by decide⟩
theorem k32 : Callable Try.prog 32 := ⟨Try.f32, _, Try.func32, rfl, by decide⟩
theorem k36 : Callable Try.prog 36 := ⟨Try.f36, _, Try.func36, rfl, by decide⟩
theorem k37 : Callable Try.prog 37 := ⟨Try.f37, _, Try.func37, rfl, by decide⟩
theorem k43 : Callable Try.prog 43 := ⟨Try.f43, _, Try.func43, rfl, by decide⟩
theorem k46 : Callable Try.prog 46 := ⟨Try.f46, _, Try.func46, rfl, by decide⟩
theorem k47 : Callable Try.prog 47 := ⟨Try.f47, _, Try.func47, rfl, by decide⟩
theorem k48 : Callable Try.prog 48 := ⟨Try.f48, _, Try.func48, rfl, by decide⟩
theorem k49 : Callable Try.prog 49 := ⟨Try.f49, _, Try.func49, rfl, by decide⟩
theorem k50 : Callable Try.prog 50 := ⟨Try.f50, _, Try.func50, rfl, by decide⟩
theorem k51 : Callable Try.prog 51 := ⟨Try.f51, _, Try.func51, rfl, by decide⟩
theorem k52 : Callable Try.prog 52 := ⟨Try.f52, _, Try.func52, rfl, by decide⟩
theorem k53 : Callable Try.prog 53 := ⟨Try.f53, _, Try.func53, rfl, by decide⟩
theorem k54 : Callable Try.prog 54 := ⟨Try.f54, _, Try.func54, rfl, by decide⟩
theorem k55 : Callable Try.prog 55 := ⟨Try.f55, _, Try.func55, rfl, by decide⟩
theorem k56 : Callable Try.prog 56 := ⟨Try.f56, _, Try.func56, rfl, by decide⟩
theorem k57 : Callable Try.prog 57 := ⟨Try.f57, _, Try.func57, rfl, by decide⟩
theorem k58 : Callable Try.prog 58 := ⟨Try.f58, _, Try.func58, rfl, by decide⟩
theorem k60 : Callable Try.prog 60 := ⟨Try.f60, _, Try.func60, rfl, by decide⟩
theorem k61 : Callable Try.prog 61 := ⟨Try.f61, _, Try.func61, rfl, by decide⟩
theorem k62 : Callable Try.prog 62 := ⟨Try.f62, _, Try.func62, rfl, by decide⟩
theorem k64 : Callable Try.prog 64 := ⟨Try.f64, _, Try.func64, rfl, by decide⟩
theorem k65 : Callable Try.prog 65 := ⟨Try.f65, _, Try.func65, rfl, by decide⟩
theorem k66 : Callable Try.prog 66 := ⟨Try.f66, _, Try.func66, rfl, by decide⟩
theorem k67 : Callable Try.prog 67 := ⟨Try.f67, _, Try.func67, rfl, by decide⟩
theorem k71 : Callable Try.prog 71 := ⟨Try.f71, _, Try.func71, rfl, by decide⟩
theorem k72 : Callable Try.prog 72 := ⟨Try.f72, _, Try.func72, rfl, by decide⟩
theorem k73 : Callable Try.prog 73 := ⟨Try.f73, _, Try.func73, rfl, by decide⟩
theorem k74 : Callable Try.prog 74 := ⟨Try.f74, _, Try.func74, rfl, by decide⟩
theorem k75 : Callable Try.prog 75 := ⟨Try.f75, _, Try.func75, rfl, by decide⟩
theorem k76 : Callable Try.prog 76 := ⟨Try.f76, _, Try.func76, rfl, by decide⟩
theorem k77 : Callable Try.prog 77 := ⟨Try.f77, _, Try.func77, rfl, by decide⟩
theorem k80 : Callable Try.prog 80 := ⟨Try.f80, _, Try.func80, rfl, by decide⟩
theorem k81 : Callable Try.prog 81 := ⟨Try.f81, _, Try.func81, rfl, by decide⟩
theorem k82 : Callable Try.prog 82 := ⟨Try.f82, _, Try.func82, rfl, by decide⟩
theorem k85 : Callable Try.prog 85 := ⟨Try.f85, _, Try.func85, rfl, by decide⟩
theorem k86 : Callable Try.prog 86 := ⟨Try.f86, _, Try.func86, rfl, by decide⟩
theorem k87 : Callable Try.prog 87 := ⟨Try.f87, _, Try.func87, rfl, by decide⟩
theorem k88 : Callable Try.prog 88 := ⟨Try.f88, _, Try.func88, rfl, by decide⟩
theorem k89 : Callable Try.prog 89 := ⟨Try.f89, _, Try.func89, rfl, by decide⟩
theorem k90 : Callable Try.prog 90 := ⟨Try.f90, _, Try.func90, rfl, by decide⟩
theorem k91 : Callable Try.prog 91 := ⟨Try.f91, _, Try.func91, rfl, by decide⟩
theorem k92 : Callable Try.prog 92 := ⟨Try.f92, _, Try.func92, rfl, by decide⟩
theorem k93 : Callable Try.prog 93 := ⟨Try.f93, _, Try.func93, rfl, by decide⟩
theorem k94 : Callable Try.prog 94 := ⟨Try.f94, _, Try.func94, rfl, by decide⟩
theorem k95 : Callable Try.prog 95 := ⟨Try.f95, _, Try.func95, rfl, by decide⟩
theorem k96 : Callable Try.prog 96 := ⟨Try.f96, _, Try.func96, rfl, by decide⟩
theorem k97 : Callable Try.prog 97 := ⟨Try.f97, _, Try.func97, rfl, by decide⟩
theorem k99 : Callable Try.prog 99 := ⟨Try.f99, _, Try.func99, rfl, by decide⟩
theorem k100 : Callable Try.prog 100 := ⟨Try.f100, _, Try.func100, rfl, by decide⟩
theorem k101 : Callable Try.prog 101 := ⟨Try.f101, _, Try.func101, rfl, by decide⟩
theorem k102 : Callable Try.prog 102 := ⟨Try.f102, _, Try.func102, rfl, by decide⟩
theorem k110 : Callable Try.prog 110 := ⟨Try.f110, _, Try.func110, rfl, by decide⟩
theorem k111 : Callable Try.prog 111 := ⟨Try.f111, _, Try.func111, rfl, by decide⟩
theorem k112 : Callable Try.prog 112 := ⟨Try.f112, _, Try.func112, rfl, by decide⟩
theorem k113 : Callable Try.prog 113 := ⟨Try.f113, _, Try.func113, rfl, by decide⟩
theorem k115 : Callable Try.prog 115 := ⟨Try.f115, _, Try.func115, rfl, by decide⟩
theorem k116 : Callable Try.prog 116 := ⟨Try.f116, _, Try.func116, rfl, by decide⟩
theorem k117 : Callable Try.prog 117 := ⟨Try.f117, _, Try.func117, rfl, by decide⟩
theorem k118 : Callable Try.prog 118 := ⟨Try.f118, _, Try.func118, rfl, by decide⟩
theorem k119 : Callable Try.prog 119 := ⟨Try.f119, _, Try.func119, rfl, by decide⟩
theorem k120 : Callable Try.prog 120 := ⟨Try.f120, _, Try.func120, rfl, by decide⟩
theorem k121 : Callable Try.prog 121 := ⟨Try.f121, _, Try.func121, rfl, by decide⟩
theorem k122 : Callable Try.prog 122 := ⟨Try.f122, _, Try.func122, rfl, by decide⟩
theorem k123 : Callable Try.prog 123 := ⟨Try.f123, _, Try.func123, rfl, by decide⟩
theorem k124 : Callable Try.prog 124 := ⟨Try.f124, _, Try.func124, rfl, by decide⟩
theorem k125 : Callable Try.prog 125 := ⟨Try.f125, _, Try.func125, rfl, by decide⟩
theorem k136 : Callable Try.prog 136 := ⟨Try.f136, _, Try.func136, rfl, by decide⟩
theorem k137 : Callable Try.prog 137 := ⟨Try.f137, _, Try.func137, rfl, by decide⟩
theorem k138 : Callable Try.prog 138 := ⟨Try.f138, _, Try.func138, rfl, by decide⟩
theorem k139 : Callable Try.prog 139 := ⟨Try.f139, _, Try.func139, rfl, by decide⟩
theorem k140 : Callable Try.prog 140 := ⟨Try.f140, _, Try.func140, rfl, by decide⟩
theorem mm98 : tmap Try.prog 98 = some (3, 3) := by kernel_rfl
theorem mm112 : tmap Try.prog 112 = some (3, 4) := by kernel_rfl
theorem p24 : bplaces Try.prog 24 = some (fun i => (#[(0, 1), (1, 1)] : Array (Nat × Nat))[i]?) := by kernel_rfl
theorem p26 : bplaces Try.prog 26 = some (fun i => (#[(0, 2), (2, 1)] : Array (Nat × Nat))[i]?) := by kernel_rfl
theorem p29 : bplaces Try.prog 29 = some (fun i => (#[(0, 1), (1, 1), (2, 1), (3, 1), (4, 1), (5, 1)] : Array (Nat × Nat))[i]?) := by kernel_rfl
theorem p37 : bplaces Try.prog 37 = some (fun i => (#[(0, 1), (1, 1), (2, 1)] : Array (Nat × Nat))[i]?) := by kernel_rfl
theorem p41 : bplaces Try.prog 41 = some (fun i => (#[(0, 1), (1, 1), (2, 1), (3, 1), (4, 1), (5, 1)] : Array (Nat × Nat))[i]?) := by kernel_rfl
theorem p81 : bplaces Try.prog 81 = some (fun i => (#[(0, 1), (1, 1)] : Array (Nat × Nat))[i]?) := by kernel_rfl
theorem p85 : bplaces Try.prog 85 = some (fun i => (#[(0, 1), (1, 1), (2, 6)] : Array (Nat × Nat))[i]?) := by kernel_rfl
theorem p87 : bplaces Try.prog 87 = some (fun i => (#[(0, 1), (1, 1), (2, 6)] : Array (Nat × Nat))[i]?) := by kernel_rfl
theorem p123 : bplaces Try.prog 123 = some (fun i => (#[(0, 1), (1, 1), (2, 1)] : Array (Nat × Nat))[i]?) := by kernel_rfl
theorem p134 : bplaces Try.prog 134 = some (fun i => (#[(0, 1), (1, 1)] : Array (Nat × Nat))[i]?) := by kernel_rfl
theorem s3 : tsize Try.prog 3 = some 1 := by kernel_rfl
theorem s22 : tsize Try.prog 22 = some 1 := by kernel_rfl
theorem s24 : tsize Try.prog 24 = some 2 := by kernel_rfl
theorem s26 : tsize Try.prog 26 = some 3 := by kernel_rfl
theorem s27 : tsize Try.prog 27 = some 1 := by kernel_rfl
theorem s29 : tsize Try.prog 29 = some 6 := by kernel_rfl
theorem s32 : tsize Try.prog 32 = some 1 := by kernel_rfl
theorem s37 : tsize Try.prog 37 = some 3 := by kernel_rfl
theorem s41 : tsize Try.prog 41 = some 6 := by kernel_rfl
theorem s79 : tsize Try.prog 79 = some 1 := by kernel_rfl
theorem s81 : tsize Try.prog 81 = some 2 := by kernel_rfl
theorem s85 : tsize Try.prog 85 = some 8 := by kernel_rfl
theorem s87 : tsize Try.prog 87 = some 8 := by kernel_rfl
theorem s98 : tsize Try.prog 98 = some 1 := by kernel_rfl
theorem s112 : tsize Try.prog 112 = some 1 := by kernel_rfl
theorem s123 : tsize Try.prog 123 = some 3 := by kernel_rfl
theorem s134 : tsize Try.prog 134 = some 2 := by kernel_rfl
theorem u3 : Try.prog.underlying 3 = some (.int .i64) := by kernel_rfl
theorem u4 : Try.prog.underlying 4 = some (.bool) := by kernel_rfl
theorem z3 : tzero Try.prog 3 = some ((.int .i64 0)) := by kernel_rfl
theorem z4 : tzero Try.prog 4 = some ((.bool false)) := by kernel_rfl
theorem z24 : tzero Try.prog 24 = some ((.agg #[(.slice none 0 0), (.int .i64 0)])) := by kernel_rfl
theorem z26 : tzero Try.prog 26 = some ((.agg #[(.slice none 0 0), (.int .i64 0), (.int .i64 0)])) := by kernel_rfl
theorem z27 : tzero Try.prog 27 = some ((.slice none 0 0)) := by kernel_rfl
theorem z29 : tzero Try.prog 29 = some ((.agg #[(.int .i64 0), (.int .i64 0), (.int .i64 0), (.int .i64 0), (.bool false), (.slice none 0 0)])) := by kernel_rfl
theorem z32 : tzero Try.prog 32 = some ((.int .i64 0)) := by kernel_rfl
theorem z37 : tzero Try.prog 37 = some ((.agg #[(.slice none 0 0), (.int .i64 0), (.int .i64 0)])) := by kernel_rfl
theorem z41 : tzero Try.prog 41 = some ((.agg #[(.int .i64 0), (.int .i64 0), (.int .i64 0), (.int .i64 0), (.bool false), (.slice none 0 0)])) := by kernel_rfl
theorem z81 : tzero Try.prog 81 = some ((.agg #[(.slice none 0 0), (.int .i64 0)])) := by kernel_rfl
theorem z85 : tzero Try.prog 85 = some ((.agg #[(.int .i64 0), (.int .i64 0), (.int .i64 0), (.int .i64 0), (.int .i64 0), (.int .i64 0), (.bool false), (.slice none 0 0)])) := by kernel_rfl
theorem z87 : tzero Try.prog 87 = some ((.agg #[(.int .i64 0), (.int .i64 0), (.int .i64 0), (.int .i64 0), (.int .i64 0), (.int .i64 0), (.bool false), (.slice none 0 0)])) := by kernel_rfl
theorem z98 : tzero Try.prog 98 = some ((.map none)) := by kernel_rfl
theorem z112 : tzero Try.prog 112 = some ((.map none)) := by kernel_rfl
theorem z123 : tzero Try.prog 123 = some ((.agg #[(.int .i64 0), (.int .i64 0), (.int .i64 0)])) := by kernel_rfl
theorem z134 : tzero Try.prog 134 = some ((.agg #[(.slice none 0 0), (.int .i64 0)])) := by kernel_rfl
theorem mix : Try.prog.follows .mixedOrders = true := by kernel_rfl
end Ty
theorem sortAt : SortAt Try.prog (Try.sortF_ren.f 6) := sortAt_of Try.sortF
theorem w08_small_ok {a0 : store_Store} {r : Bool} (h : w08_small a0 = some r) : PCalls Try.prog 87 [store_Store.Pv a0] (.bool r) := by
 unfold w08_small at h
 refine pc_intro (N := 31) Try.func87 rfl rfl nl fun w0 imm0 => sR <| y1 rfl (o_box (d := store_Store.Pv a0) (z := 3) (cl := true) rfl rfl rfl rfl rfl) rfl <| y0 rfl (o_assign (d := .bool false) rfl) <| y_nil ?_
 obtain ⟨κ5, hκ5, h⟩ := jnE h
 refine pw_jn0 (κ := κ5) (r := r) (fun (_ : Unit) => St.of [(1, .ptr 1 0 0)] [(1, ⟨[store_Store.Pv a0], 0, false, 3, true⟩)]) (fun q6 h => ?_) ?_
 ·subst hκ5
  refine sR <| y0 rfl (o_fieldAddrP (k := 0) rfl Ty.f26_0 rfl) <| y0 rfl (o_fieldAddrP (k := 0) rfl Ty.f24_0 rfl) <| y0 rfl (o_loadS rfl rfl rfl Ty.a22 rfl) <| y0 rfl (o_lnL (f := slab_Cell_store_Obj.Pv) rfl Ty.e22) <| y0 rfl (o_cmp rfl rfl rfl) <| y0 rfl (o_assign (d := .bool (decide ((a0.S.Cells.length : Int) ≤ 30))) rfl) <| y_nil ?_
  refine pw_ret ?_
  obtain rfl := Option.some.inj h
  exact ⟨rfl, [_], ⟨rfl, trivial⟩, rfl, io⟩
 ·skip
  refine sR <| y0 rfl (o_assign (d := .int .i64 0) rfl) <| y_nil <| pw_block ?_
  obtain ⟨e7, hl6, hk7⟩ := bindE h
  refine pw_lp0 (fun (s8 : Int) => St.of [(1, .ptr 1 0 0), (3, .int .i64 s8)] [(1, ⟨[store_Store.Pv a0], 0, false, 3, true⟩)]) hl6 (wk_st _ _ ⟨rfl, rfl, rfl, rfl, rfl, rfl, trivial⟩ ⟨rS, trivial⟩) (fun s8 x9 h hx8 => ?_)
  refine pw_seq <| sR <| y0 rfl (o_move (d := .int .i64 s8) rfl) <| y0 rfl (o_fieldAddrP (k := 0) rfl Ty.f26_0 rfl) <| y0 rfl (o_fieldAddrP (k := 0) rfl Ty.f24_0 rfl) <| y0 rfl (o_loadS rfl rfl rfl Ty.a22 rfl) <| y0 rfl (o_lnL (f := slab_Cell_store_Obj.Pv) rfl Ty.e22) <| y0 rfl (o_cmp rfl rfl rfl) ?_
  refine y0 rfl (o_move (d := .bool (decide (s8 < (a0.S.Cells.length : Int)))) rfl) <| y_if (g := ((decide (s8 < (a0.S.Cells.length : Int))) == true)) rfl (fun hg => o_move (d := .int .i64 s8) rfl) <| y_if (g := ((decide (s8 < (a0.S.Cells.length : Int))) == true)) rfl (fun hg => o_cmp (ct hg) rfl rfl) <| y0 rfl (pk_and rfl rfl rfl (fun q => eqT q)) <| y_nil ?_
  refine pw_cond ((decide (s8 < (a0.S.Cells.length : Int))) && (decide (s8 < 30))) rfl (fun hc => ?_) (fun hc => ?_)
  ·have h := ifT h hc
   refine pw_skip <| pw_seq <| pw_block <| sR <| y0 rfl (o_fieldAddrP (k := 0) rfl Ty.f26_0 rfl) <| y0 rfl (o_fieldAddrP (k := 0) rfl Ty.f24_0 rfl) <| y0 rfl (o_loadS rfl rfl rfl Ty.a22 rfl) <| y0 rfl (o_move (d := .int .i64 s8) rfl) ?_
   obtain ⟨v10, hv9, h⟩ := bindE h
   refine y0 rfl (o_ixL (f := slab_Cell_store_Obj.Pv) (cs := slab_Cell_store_Obj.Pc v10) hv9 rfl rfl Ty.e22 Ty.s85 rfl rfl) <| y0 rfl (o_fieldAddrR rfl Ty.f85_2 rfl) <| y0 rfl (o_fieldAddrR rfl Ty.f29_5 rfl) <| y0 rfl (o_loadRS rfl Ty.a27 rfl) <| y0 rfl (o_lnL (f := (PV.int .i64)) rfl Ty.e27) <| y0 rfl (o_cmp rfl rfl rfl) <| y_nil ?_
   refine pw_cond (decide ((v10.Val.Fields.length : Int) > 10)) rfl (fun hc => ?_) (fun hc => ?_)
   ·have h := ifT h hc
    refine sR <| y0 rfl (o_assign (d := .bool false) rfl) <| y_nil <| pw_ret ?_
    have he := hx8 _ (Option.some.inj h).symm
    have h := hk7
    rw [← he] at h
    obtain rfl := Option.some.inj h
    exact ⟨rfl, [_], ⟨rfl, trivial⟩, rfl, io⟩
   ·have h := ifF h hc
    refine pw_skip <| sr1 (by kernel_rfl) <| y0 rfl (o_move (d := .int .i64 s8) rfl) <| y0 rfl (o_ari rfl rfl rfl) <| y0 rfl (o_assign (d := .int .i64 (w64 (s8 + 1))) rfl) <| y_nil ?_
    exact ⟨rfl, w64 (s8 + 1), (Option.some.inj h).symm, (wk_st _ _ ⟨rfl, rfl, rfl, rfl, rfl, rfl, trivial⟩ ⟨rS, trivial⟩)⟩
  ·have h := ifF h hc
   refine pw_exit <| thenQ_exit <| thenQ_exit <| blockQ_exit ?_
   have he := hx8 _ (Option.some.inj h).symm
   have h := hk7
   rw [← he] at h
   exact ⟨rfl, (), h, (wk_st _ _ ⟨rfl, rfl, rfl, trivial⟩ ⟨rS, trivial⟩)⟩

theorem w08_obj_ok {a0 : store_Obj} {r : r06_Obj} (h : w08_obj a0 = some r) : PCalls Try.prog 88 [store_Obj.Pv a0] (r06_Obj.Pv r) := by
 unfold w08_obj at h
 refine pc_intro (N := 16) Try.func88 rfl rfl nl fun w0 imm0 => sR <| y1 rfl (o_box (d := store_Obj.Pv a0) (z := 6) (cl := true) rfl rfl rfl rfl rfl) rfl <| y1 rfl (o_alloc (d := .agg [.int .i64 0, .int .i64 0, .int .i64 0, .int .i64 0, .bool false, .lst true (List.map (PV.int .i64) [])]) (z := 6) rfl Ty.z41 rfl rfl rfl) rfl <| y_nil <| sR <| y0 rfl (o_fieldAddrP (k := 0) rfl Ty.f29_0 rfl) <| y0 rfl (o_loadS rfl rfl rfl Ty.a3 rfl) ?_
 refine y0 rfl (o_fieldAddrP (k := 1) rfl Ty.f29_1 rfl) <| y0 rfl (o_loadS rfl rfl rfl Ty.a3 rfl) <| y0 rfl (o_fieldAddrP (k := 2) rfl Ty.f29_2 rfl) <| y0 rfl (o_loadS rfl rfl rfl Ty.a3 rfl) <| y0 rfl (o_fieldAddrP (k := 3) rfl Ty.f29_3 rfl) <| y0 rfl (o_loadS rfl rfl rfl Ty.a3 rfl) <| y0 rfl (o_fieldAddrP (k := 4) rfl Ty.f29_4 rfl) <| y0 rfl (o_loadS rfl rfl rfl Ty.a4 rfl) ?_
 refine y0 rfl (o_fieldAddrP (k := 5) rfl Ty.f29_5 rfl) <| y0 rfl (o_loadS rfl rfl rfl Ty.a27 rfl) <| y0 rfl (o_build (cs := [.int .i64 a0.Serial, .int .i64 a0.Strong, .int .i64 a0.Weak, .int .i64 a0.Prog, .bool a0.Started, .lst false (List.map (PV.int .i64) a0.Fields)]) rfl Ty.p41 Ty.z41 rfl rfl rfl) <| y_sto (x' := .agg [.int .i64 a0.Serial, .int .i64 a0.Strong, .int .i64 a0.Weak, .int .i64 a0.Prog, .bool a0.Started, .lst false (List.map (PV.int .i64) a0.Fields)]) (cl' := true) rfl rfl (.inr rfl) Ty.s41 <| y_nil <| pw_ret ?_
 obtain rfl := Option.some.inj h
 exact ⟨rfl, [_], ⟨o_loadA rfl rfl rfl Ty.a41 Ty.s41 nl rfl, trivial⟩, rfl, io⟩

theorem w08_its_ok {a0 : store_Store} {r : r06_Store} (h : w08_its a0 = some r) : PCalls Try.prog 49 [store_Store.Pv a0] (r06_Store.Pv r) := by
 unfold w08_its at h
 refine pc_intro (N := 39) Try.func49 rfl rfl nl fun w0 imm0 => sR <| y1 rfl (o_box (d := store_Store.Pv a0) (z := 3) (cl := true) rfl rfl rfl rfl rfl) rfl <| y1 rfl (o_alloc (d := .agg [.lst true (List.map r06_Cell.Pv []), .int .i64 0, .int .i64 0]) (z := 3) rfl Ty.z37 rfl rfl rfl) rfl <| y_nil <| sR <| y0 rfl (o_nslice rfl Ty.e35 Ty.s87) <| y0 rfl (o_assign (d := .lst true (List.map r06_Cell.Pv [])) rfl) ?_
 refine y_nil ?_
 obtain ⟨κ9, hκ7, h⟩ := jnE h
 refine pw_jn0 (κ := κ9) (r := r) (fun (j10 : List r06_Cell) => St.of [(1, .ptr 1 0 0), (2, .ptr 2 0 0), (3, .sl 910003)] [(910003, ⟨List.map r06_Cell.Pv j10, (List.map r06_Cell.Pv j10).length, true, 8, true⟩), (2, ⟨[.agg [.lst true (List.map r06_Cell.Pv []), .int .i64 0, .int .i64 0]], 0, false, 3, true⟩), (1, ⟨[store_Store.Pv a0], 0, false, 3, true⟩)]) (fun j10 h => ?_) ?_
 ·subst hκ7
  refine sR <| y0 rfl (o_move (d := .sl 910003) rfl) <| y0 rfl (o_fieldAddrP (k := 0) rfl Ty.f26_0 rfl) <| y0 rfl (o_fieldAddrP (k := 1) rfl Ty.f24_1 rfl) <| y0 rfl (o_loadS rfl rfl rfl Ty.a3 rfl) <| y0 rfl (o_fieldAddrP (k := 2) rfl Ty.f26_1 rfl) <| y0 rfl (o_loadS rfl rfl rfl Ty.a3 rfl) <| y0 rfl (o_build (cs := [.sl 910003, .int .i64 a0.S.Last, .int .i64 a0.Serial]) rfl Ty.p37 Ty.z37 rfl rfl rfl) ?_
  refine y_sto (x' := .agg [.sl 910003, .int .i64 a0.S.Last, .int .i64 a0.Serial]) (cl' := false) rfl rfl (.inl rfl) Ty.s37 <| y_nil <| pw_ret ?_
  obtain rfl := Option.some.inj h
  exact ⟨rfl, [_], ⟨o_loadA rfl rfl rfl Ty.a37 Ty.s37 nl rfl, trivial⟩, rfl, io⟩
 ·skip
  refine sR <| y0 rfl (o_assign (d := .int .i64 0) rfl) <| y_nil <| pw_block ?_
  obtain ⟨e11, hl8, hk9⟩ := bindE h
  refine pw_lp0 (fun (q : Int × (List r06_Cell)) => St.of [(1, .ptr 1 0 0), (2, .ptr 2 0 0), (3, .sl 910003), (4, .int .i64 q.1)] [(2, ⟨[.agg [.lst true (List.map r06_Cell.Pv []), .int .i64 0, .int .i64 0]], 0, false, 3, true⟩), (1, ⟨[store_Store.Pv a0], 0, false, 3, true⟩), (910003, ⟨List.map r06_Cell.Pv q.2, (List.map r06_Cell.Pv q.2).length, true, 8, true⟩)]) hl8 (Wk.trans (wk_nil (t := 3) (l := 920003) (z := 8) rfl rfl) (wk_stP (fun l => if l = 910003 then 920003 else l) _ _ ⟨rfl, rfl, rfl, rfl, rfl, rfl, rfl, rfl, rfl, rfl, rfl, rfl, trivial⟩ ⟨rN, rN, rN, trivial⟩ rfl)) (fun q15 x14 h hx10 => ?_)
  obtain ⟨s12, s13⟩ := q15
  refine pw_seq <| sR <| y0 rfl (o_move (d := .int .i64 s12) rfl) <| y0 rfl (o_fieldAddrP (k := 0) rfl Ty.f26_0 rfl) <| y0 rfl (o_fieldAddrP (k := 0) rfl Ty.f24_0 rfl) <| y0 rfl (o_loadS rfl rfl rfl Ty.a22 rfl) <| y0 rfl (o_lnL (f := slab_Cell_store_Obj.Pv) rfl Ty.e22) <| y0 rfl (o_cmp rfl rfl rfl) ?_
  refine y_nil ?_
  refine pw_cond (decide (s12 < (a0.S.Cells.length : Int))) rfl (fun hc => ?_) (fun hc => ?_)
  ·have h := ifT h hc
   refine pw_skip <| pw_seq <| pw_block <| sR <| y0 rfl (o_fieldAddrP (k := 0) rfl Ty.f26_0 rfl) <| y0 rfl (o_fieldAddrP (k := 0) rfl Ty.f24_0 rfl) <| y0 rfl (o_loadS rfl rfl rfl Ty.a22 rfl) <| y0 rfl (o_move (d := .int .i64 s12) rfl) ?_
   obtain ⟨v16, hv11, h⟩ := bindE h
   refine y0 rfl (o_ixL (f := slab_Cell_store_Obj.Pv) (cs := slab_Cell_store_Obj.Pc v16) hv11 rfl rfl Ty.e22 Ty.s85 rfl rfl) <| y0 rfl (o_loadRA (cs := slab_Cell_store_Obj.Pc v16) rfl Ty.a85 Ty.s85 nl rfl) <| y1 rfl (o_alloc (d := .agg [.int .i64 0, .int .i64 0, .int .i64 0, .int .i64 0, .int .i64 0, .int .i64 0, .bool false, .lst true (List.map (PV.int .i64) [])]) (z := 8) rfl Ty.z85 rfl rfl rfl) rfl <| y_sto (x' := slab_Cell_store_Obj.Pv v16) (cl' := true) rfl rfl (.inr rfl) Ty.s85 <| y_nil <| pw_drw [] Ty.mix (by kernel_rfl) (by kernel_rfl) <| d7 rfl (fun _ hN => o_move (d := .sl 910003) rfl) rfl <| d7 rfl (fun _ hN => o_fieldAddrP (k := 0) rfl Ty.f85_0 rfl) rfl ?_
   refine d0 rfl (o_loadS rfl rfl rfl Ty.a3 rfl) rfl <| d7 rfl (fun _ hN => o_fieldAddrP (k := 1) rfl Ty.f85_1 rfl) rfl <| d0 rfl (o_loadS rfl rfl rfl Ty.a3 rfl) rfl <| d7 rfl (fun _ hN => o_fieldAddrP (k := 2) rfl Ty.f85_2 rfl) rfl <| d0 rfl (o_loadA (cs := store_Obj.Pc v16.Val) rfl rfl rfl Ty.a29 Ty.s29 nl rfl) rfl ?_
   obtain ⟨v17, hv12, h⟩ := bindE h
   refine d2f rfl (o_callF (ls := []) (ds := [store_Obj.Pv v16.Val]) rfl Ty.k88 rfl (w08_obj_ok hv12)) rfl <| d7 rfl (fun _ hN => o_build (cs := [.int .i64 v16.State, .int .i64 v16.Gen, .int .i64 v17.Serial, .int .i64 v17.Strong, .int .i64 v17.Weak, .int .i64 v17.Prog, .bool v17.Started, .lst false (List.map (PV.int .i64) v17.Fields)]) rfl Ty.p87 Ty.z87 rfl rfl rfl) rfl <| d1n rfl (o_bI (f := r06_Cell.Pv) (l := [(⟨v16.State, v16.Gen, v17⟩ : r06_Cell)]) rfl Ty.e35 Ty.s87 Ty.z87 rfl rfl nl rfl rfl) rfl ?_
   obtain ⟨v18, hv13, h⟩ := bindE h
   refine d3a rfl (o_apR (f := r06_Cell.Pv) hv13 rfl rfl rfl rfl rfl rfl (.inl ⟨_, rfl, rfl⟩) Ty.e35 Ty.s87 Ty.b87 Ty.z87 rfl (fun _ => rfl)) rfl rfl rfl rfl rfl <| d7 rfl (fun _ hN => o_assign (d := .sl 31) rfl) rfl <| d_nil <| sr1 (by kernel_rfl) <| y0 rfl (o_move (d := .int .i64 s12) rfl) <| y0 rfl (o_ari rfl rfl rfl) <| y0 rfl (o_assign (d := .int .i64 (w64 (s12 + 1))) rfl) <| y_nil ?_
   exact ⟨rfl, (w64 (s12 + 1), v18), (Option.some.inj h).symm, (Wk.trans (wk_frz _ [31]) (wk_stP (fun l => if l = 910003 then 31 else l) _ _ ⟨rfl, rfl, rfl, rfl, rfl, rfl, rfl, rfl, rfl, rfl, rfl, rfl, trivial⟩ ⟨rN, rN, rN, trivial⟩ rfl))⟩
  ·have h := ifF h hc
   refine pw_exit <| thenQ_exit <| thenQ_exit <| blockQ_exit ?_
   have he := hx10 _ (Option.some.inj h).symm
   have h := hk9
   rw [← he] at h
   exact ⟨rfl, s13, h, (Wk.trans (wk_frz _ [910003]) (wk_st _ _ ⟨rfl, rfl, rfl, rfl, rfl, rfl, rfl, rfl, rfl, trivial⟩ ⟨rS, rS, rS, trivial⟩))⟩

theorem r06_Plain_ok {a0 : r06_Store} {r : r03_Slab} (h : r06_Plain a0 = some r) : PCalls Try.prog 62 [r06_Store.Pv a0] (r03_Slab.Pv r) := by
 unfold r06_Plain at h
 refine pc_intro (N := 35) Try.func62 rfl rfl nl fun w0 imm0 => sR <| y1 rfl (o_box (d := r06_Store.Pv a0) (z := 3) (cl := true) rfl rfl rfl rfl rfl) rfl <| y1 rfl (o_alloc (d := .agg [.lst true (List.map r03_Cell.Pv []), .int .i64 0]) (z := 2) rfl Ty.z81 rfl rfl rfl) rfl <| y_nil <| sR <| y0 rfl (o_fieldAddrP (k := 1) rfl Ty.f37_1 rfl) <| y0 rfl (o_loadS rfl rfl rfl Ty.a3 rfl) ?_
 refine y0 rfl (o_build (cs := [.lst true (List.map r03_Cell.Pv []), .int .i64 a0.Last]) rfl Ty.p81 Ty.z81 rfl rfl rfl) <| y1 rfl (o_alloc (d := .agg [.lst true (List.map r03_Cell.Pv []), .int .i64 0]) (z := 2) rfl Ty.z81 rfl rfl rfl) rfl <| y_sto (x' := .agg [.lst true (List.map r03_Cell.Pv []), .int .i64 a0.Last]) (cl' := true) rfl rfl (.inl rfl) Ty.s81 <| y_nil ?_
 obtain ⟨κ8, hκ6, h⟩ := jnE h
 refine pw_jn0 (κ := κ8) (r := r) (fun (j9 : List r03_Cell) => St.of [(2, .ptr 2 0 0), (3, .ptr 3 0 0)] [(3, ⟨[.agg [.sl 910503, .int .i64 a0.Last]], 0, false, 2, false⟩), (910503, ⟨List.map r03_Cell.Pv j9, (List.map r03_Cell.Pv j9).length, true, 3, true⟩), (2, ⟨[.agg [.lst true (List.map r03_Cell.Pv []), .int .i64 0]], 0, false, 2, true⟩)]) (fun j9 h => ?_) ?_
 ·subst hκ6
  refine sR <| y0 rfl (o_loadA (cs := [.sl 910503, .int .i64 a0.Last]) rfl rfl rfl Ty.a81 Ty.s81 nl rfl) <| y_sto (x' := .agg [.sl 910503, .int .i64 a0.Last]) (cl' := false) rfl rfl (.inl rfl) Ty.s81 <| y_nil <| pw_ret ?_
  obtain rfl := Option.some.inj h
  exact ⟨rfl, [_], ⟨o_loadA rfl rfl rfl Ty.a81 Ty.s81 nl rfl, trivial⟩, rfl, io⟩
 ·skip
  refine sR <| y0 rfl (o_assign (d := .int .i64 0) rfl) <| y_nil <| pw_block ?_
  obtain ⟨e10, hl7, hk8⟩ := bindE h
  refine pw_lp0 (fun (q : Int × (List r03_Cell)) => St.of [(1, .ptr 1 0 0), (2, .ptr 2 0 0), (3, .ptr 3 0 0), (4, .int .i64 q.1)] [(3, ⟨[.agg [.sl 910503, .int .i64 a0.Last]], 0, false, 2, false⟩), (2, ⟨[.agg [.lst true (List.map r03_Cell.Pv []), .int .i64 0]], 0, false, 2, true⟩), (1, ⟨[r06_Store.Pv a0], 0, false, 3, true⟩), (910503, ⟨List.map r03_Cell.Pv q.2, (List.map r03_Cell.Pv q.2).length, true, 3, true⟩)]) hl7 (Wk.trans (wk_nilC (l0 := 3) (j := 0) (l := 920503) (z := 3) rfl rfl rfl rfl rfl) (wk_stP (fun l => if l = 910503 then 920503 else l) _ _ ⟨rfl, rfl, rfl, rfl, rfl, rfl, rfl, rfl, rfl, rfl, rfl, rfl, trivial⟩ ⟨rowLe_open rfl rfl rfl (fun q => nomatch q) rfl rfl rfl rfl, rN, rN, rN, trivial⟩ rfl)) (fun q14 x13 h hx9 => ?_)
  obtain ⟨s11, s12⟩ := q14
  refine pw_seq <| sR <| y0 rfl (o_move (d := .int .i64 s11) rfl) <| y0 rfl (o_fieldAddrP (k := 0) rfl Ty.f37_0 rfl) <| y0 rfl (o_loadS rfl rfl rfl Ty.a35 rfl) <| y0 rfl (o_lnL (f := r06_Cell.Pv) rfl Ty.e35) <| y0 rfl (o_cmp rfl rfl rfl) <| y_nil ?_
  refine pw_cond (decide (s11 < (a0.Cells.length : Int))) rfl (fun hc => ?_) (fun hc => ?_)
  ·have h := ifT h hc
   refine pw_skip <| pw_seq <| pw_block <| pw_drw [] Ty.mix (by kernel_rfl) (by kernel_rfl) <| d7 rfl (fun _ hN => o_fieldAddrP (k := 0) rfl Ty.f81_0 rfl) rfl <| d0 rfl (o_loadS rfl rfl rfl Ty.a79 rfl) rfl <| d7 rfl (fun _ hN => o_fieldAddrP (k := 0) rfl Ty.f37_0 rfl) rfl <| d0 rfl (o_loadS rfl rfl rfl Ty.a35 rfl) rfl ?_
   refine d7 rfl (fun _ hN => o_move (d := .int .i64 s11) rfl) rfl ?_
   obtain ⟨v15, hv10, h⟩ := bindE h
   refine d0 rfl (o_ixL (f := r06_Cell.Pv) (cs := r06_Cell.Pc v15) hv10 rfl rfl Ty.e35 Ty.s87 rfl rfl) rfl <| d7 rfl (fun _ hN => o_fieldAddrR rfl Ty.f87_0 rfl) rfl <| d0 rfl (o_loadRS rfl Ty.a3 rfl) rfl <| d7 rfl (fun _ hN => o_fieldAddrP (k := 0) rfl Ty.f37_0 rfl) rfl <| d0 rfl (o_loadS rfl rfl rfl Ty.a35 rfl) rfl <| d7 rfl (fun _ hN => o_move (d := .int .i64 s11) rfl) rfl <| d0 rfl (o_ixL (f := r06_Cell.Pv) (cs := r06_Cell.Pc v15) hv10 rfl rfl Ty.e35 Ty.s87 rfl rfl) rfl <| d7 rfl (fun _ hN => o_fieldAddrR rfl Ty.f87_1 rfl) rfl ?_
   refine d0 rfl (o_loadRS rfl Ty.a3 rfl) rfl <| d7 rfl (fun _ hN => o_move (d := .int .i64 s11) rfl) rfl <| d7 rfl (fun _ hN => o_build (cs := [.int .i64 v15.State, .int .i64 v15.Gen, .int .i64 s11]) rfl Ty.p123 Ty.z123 rfl rfl rfl) rfl <| d1n rfl (o_bI (f := r03_Cell.Pv) (l := [(⟨v15.State, v15.Gen, s11⟩ : r03_Cell)]) rfl Ty.e79 Ty.s123 Ty.z123 rfl rfl nl rfl rfl) rfl ?_
   obtain ⟨v16, hv11, h⟩ := bindE h
   refine d3a rfl (o_apR (f := r03_Cell.Pv) hv11 rfl rfl rfl rfl rfl rfl (.inl ⟨_, rfl, rfl⟩) Ty.e79 Ty.s123 Ty.b123 Ty.z123 rfl (fun _ => rfl)) rfl rfl rfl rfl rfl <| d7 rfl (fun _ hN => o_fieldAddrP (k := 0) rfl Ty.f81_0 rfl) rfl <| d_sto (x' := .agg [.sl 32, .int .i64 a0.Last]) (cl' := false) rfl rfl (.inl rfl) Ty.s79 <| d_nil <| sr1 (by kernel_rfl) <| y0 rfl (o_move (d := .int .i64 s11) rfl) <| y0 rfl (o_ari rfl rfl rfl) <| y0 rfl (o_assign (d := .int .i64 (w64 (s11 + 1))) rfl) ?_
   refine y_nil ?_
   exact ⟨rfl, (w64 (s11 + 1), v16), (Option.some.inj h).symm, (Wk.trans (wk_frz _ [32]) (wk_stP (fun l => if l = 910503 then 32 else l) _ _ ⟨rfl, rfl, rfl, rfl, rfl, rfl, rfl, rfl, rfl, rfl, rfl, rfl, trivial⟩ ⟨rowLe_open rfl rfl rfl (fun q => nomatch q) rfl rfl rfl rfl, rN, rN, rN, trivial⟩ rfl))⟩
  ·have h := ifF h hc
   refine pw_exit <| thenQ_exit <| thenQ_exit <| blockQ_exit ?_
   have he := hx9 _ (Option.some.inj h).symm
   have h := hk8
   rw [← he] at h
   exact ⟨rfl, s12, h, (Wk.trans (wk_frz _ [910503]) (wk_st _ _ ⟨rfl, rfl, rfl, rfl, rfl, rfl, trivial⟩ ⟨rowLe_open rfl rfl rfl (fun q => nomatch q) rfl rfl rfl rfl, rS, rS, trivial⟩))⟩

theorem r03_Right_ok {a0 : r03_Slab} {r : Bool} (h : r03_Right a0 = some r) : PCalls Try.prog 64 [r03_Slab.Pv a0] (.bool r) := by
 unfold r03_Right at h
 refine pc_intro (N := 51) Try.func64 rfl rfl nl fun w0 imm0 => sR <| y1 rfl (o_box (d := r03_Slab.Pv a0) (z := 2) (cl := true) rfl rfl rfl rfl rfl) rfl <| y0 rfl (o_assign (d := .bool false) rfl) <| y_nil <| pw_seq <| sR <| y0 rfl (o_fieldAddrP (k := 0) rfl Ty.f81_0 rfl) ?_
 refine y0 rfl (o_loadS rfl rfl rfl Ty.a79 rfl) <| y0 rfl (o_lnL (f := r03_Cell.Pv) rfl Ty.e79) <| y0 rfl (o_cmp rfl rfl rfl) <| y0 rfl (o_move (d := .bool (decide ((a0.Cells.length : Int) > 24))) rfl) <| y_if (g := ((decide ((a0.Cells.length : Int) > 24)) == false)) rfl (fun hg => o_fieldAddrP (k := 1) rfl Ty.f81_1 rfl) <| y_if (g := ((decide ((a0.Cells.length : Int) > 24)) == false)) rfl (fun hg => o_loadS (ct hg) rfl rfl Ty.a3 rfl) <| y_if (g := ((decide ((a0.Cells.length : Int) > 24)) == false)) rfl (fun hg => o_cmp (ct hg) rfl rfl) <| y0 rfl (pk_or rfl rfl rfl (fun q => eqF q)) ?_
 refine y0 rfl (o_move (d := .bool ((decide ((a0.Cells.length : Int) > 24)) || (decide (a0.Last < 0)))) rfl) <| y_if (g := (((decide ((a0.Cells.length : Int) > 24)) || (decide (a0.Last < 0))) == false)) rfl (fun hg => o_fieldAddrP (k := 1) rfl Ty.f81_1 rfl) <| y_if (g := (((decide ((a0.Cells.length : Int) > 24)) || (decide (a0.Last < 0))) == false)) rfl (fun hg => o_loadS (ct hg) rfl rfl Ty.a3 rfl) <| y_if (g := (((decide ((a0.Cells.length : Int) > 24)) || (decide (a0.Last < 0))) == false)) rfl (fun hg => o_cmp (ct hg) rfl rfl) <| y0 rfl (pk_or rfl rfl rfl (fun q => eqF q)) <| y_nil ?_
 refine pw_cond (((decide ((a0.Cells.length : Int) > 24)) || (decide (a0.Last < 0))) || (decide (a0.Last > 9))) rfl (fun hc => ?_) (fun hc => ?_)
 ·have h := ifT h hc
  refine sR <| y0 rfl (o_assign (d := .bool false) rfl) <| y_nil <| pw_ret ?_
  obtain rfl := Option.some.inj h
  exact ⟨rfl, [_], ⟨rfl, trivial⟩, rfl, io⟩
 ·have h := ifF h hc
  refine pw_skip ?_
  obtain ⟨κ5, hκ5, h⟩ := jnE h
  refine pw_jn0 (κ := κ5) (r := r) (fun (_ : Unit) => St.of [] []) (fun q6 h => ?_) ?_
  ·subst hκ5
   refine sR <| y0 rfl (o_assign (d := .bool true) rfl) <| y_nil <| pw_ret ?_
   obtain rfl := Option.some.inj h
   exact ⟨rfl, [_], ⟨rfl, trivial⟩, rfl, io⟩
  ·skip
   refine sR <| y0 rfl (o_assign (d := .int .i64 0) rfl) <| y_nil <| pw_block ?_
   obtain ⟨e7, hl6, hk7⟩ := bindE h
   refine pw_lp0 (fun (s8 : Int) => St.of [(1, .ptr 1 0 0), (3, .int .i64 s8)] [(1, ⟨[r03_Slab.Pv a0], 0, false, 2, true⟩)]) hl6 (wk_st _ _ ⟨rfl, rfl, rfl, rfl, rfl, rfl, trivial⟩ ⟨rS, trivial⟩) (fun s8 x9 h hx8 => ?_)
   refine pw_seq <| sR <| y0 rfl (o_move (d := .int .i64 s8) rfl) <| y0 rfl (o_fieldAddrP (k := 0) rfl Ty.f81_0 rfl) <| y0 rfl (o_loadS rfl rfl rfl Ty.a79 rfl) <| y0 rfl (o_lnL (f := r03_Cell.Pv) rfl Ty.e79) <| y0 rfl (o_cmp rfl rfl rfl) <| y_nil ?_
   refine pw_cond (decide (s8 < (a0.Cells.length : Int))) rfl (fun hc => ?_) (fun hc => ?_)
   ·have h := ifT h hc
    refine pw_skip <| pw_seq <| pw_block <| sR <| y0 rfl (o_fieldAddrP (k := 0) rfl Ty.f81_0 rfl) <| y0 rfl (o_loadS rfl rfl rfl Ty.a79 rfl) <| y0 rfl (o_move (d := .int .i64 s8) rfl) ?_
    obtain ⟨v10, hv9, h⟩ := bindE h
    refine y0 rfl (o_ixL (f := r03_Cell.Pv) (cs := r03_Cell.Pc v10) hv9 rfl rfl Ty.e79 Ty.s123 rfl rfl) <| y0 rfl (o_loadRA (cs := r03_Cell.Pc v10) rfl Ty.a123 Ty.s123 nl rfl) <| y1 rfl (o_alloc (d := .agg [.int .i64 0, .int .i64 0, .int .i64 0]) (z := 3) rfl Ty.z123 rfl rfl rfl) rfl <| y_sto (x' := r03_Cell.Pv v10) (cl' := true) rfl rfl (.inl rfl) Ty.s123 <| y_nil <| sR <| y0 rfl (o_fieldAddrP (k := 0) rfl Ty.f123_0 rfl) <| y0 rfl (o_loadS rfl rfl rfl Ty.a3 rfl) ?_
    refine y0 rfl (o_cmp rfl rfl rfl) <| y0 rfl (o_move (d := .bool (decide (v10.State < 0))) rfl) <| y_if (g := ((decide (v10.State < 0)) == false)) rfl (fun hg => o_fieldAddrP (k := 0) rfl Ty.f123_0 rfl) <| y_if (g := ((decide (v10.State < 0)) == false)) rfl (fun hg => o_loadS (ct hg) rfl rfl Ty.a3 rfl) <| y_if (g := ((decide (v10.State < 0)) == false)) rfl (fun hg => o_cmp (ct hg) rfl rfl) <| y0 rfl (pk_or rfl rfl rfl (fun q => eqF q)) <| y0 rfl (o_move (d := .bool ((decide (v10.State < 0)) || (decide (v10.State > 3)))) rfl) <| y_if (g := (((decide (v10.State < 0)) || (decide (v10.State > 3))) == false)) rfl (fun hg => o_fieldAddrP (k := 1) rfl Ty.f123_1 rfl) ?_
    refine y_if (g := (((decide (v10.State < 0)) || (decide (v10.State > 3))) == false)) rfl (fun hg => o_loadS (ct hg) rfl rfl Ty.a3 rfl) <| y_if (g := (((decide (v10.State < 0)) || (decide (v10.State > 3))) == false)) rfl (fun hg => o_cmp (ct hg) rfl rfl) <| y0 rfl (pk_or rfl rfl rfl (fun q => eqF q)) <| y0 rfl (o_move (d := .bool (((decide (v10.State < 0)) || (decide (v10.State > 3))) || (decide (v10.Gen < 0)))) rfl) <| y_if (g := ((((decide (v10.State < 0)) || (decide (v10.State > 3))) || (decide (v10.Gen < 0))) == false)) rfl (fun hg => o_fieldAddrP (k := 1) rfl Ty.f123_1 rfl) <| y_if (g := ((((decide (v10.State < 0)) || (decide (v10.State > 3))) || (decide (v10.Gen < 0))) == false)) rfl (fun hg => o_loadS (ct hg) rfl rfl Ty.a3 rfl) <| y_if (g := ((((decide (v10.State < 0)) || (decide (v10.State > 3))) || (decide (v10.Gen < 0))) == false)) rfl (fun hg => o_fieldAddrP (k := 1) rfl Ty.f81_1 rfl) <| y_if (g := ((((decide (v10.State < 0)) || (decide (v10.State > 3))) || (decide (v10.Gen < 0))) == false)) rfl (fun hg => o_loadS (ct hg) rfl rfl Ty.a3 rfl) ?_
    refine y_if (g := ((((decide (v10.State < 0)) || (decide (v10.State > 3))) || (decide (v10.Gen < 0))) == false)) rfl (fun hg => o_cmp (ct hg) (ct hg) rfl) <| y0 rfl (pk_or rfl rfl rfl (fun q => eqF q)) <| y_nil ?_
    refine pw_cond ((((decide (v10.State < 0)) || (decide (v10.State > 3))) || (decide (v10.Gen < 0))) || (decide (v10.Gen > a0.Last))) rfl (fun hc => ?_) (fun hc => ?_)
    ·have h := ifT h hc
     refine sR <| y0 rfl (o_assign (d := .bool false) rfl) <| y_nil <| pw_ret ?_
     have he := hx8 _ (Option.some.inj h).symm
     have h := hk7
     rw [← he] at h
     obtain rfl := Option.some.inj h
     exact ⟨rfl, [_], ⟨rfl, trivial⟩, rfl, io⟩
    ·have h := ifF h hc
     refine pw_skip <| sr1 (by kernel_rfl) <| y0 rfl (o_move (d := .int .i64 s8) rfl) <| y0 rfl (o_ari rfl rfl rfl) <| y0 rfl (o_assign (d := .int .i64 (w64 (s8 + 1))) rfl) <| y_nil ?_
     exact ⟨rfl, w64 (s8 + 1), (Option.some.inj h).symm, (wk_st _ _ ⟨rfl, rfl, rfl, rfl, rfl, rfl, trivial⟩ ⟨rS, trivial⟩)⟩
   ·have h := ifF h hc
    refine pw_exit <| thenQ_exit <| thenQ_exit <| blockQ_exit ?_
    have he := hx8 _ (Option.some.inj h).symm
    have h := hk7
    rw [← he] at h
    exact ⟨rfl, (), h, (wk_st _ _ trivial trivial)⟩

theorem r06_there_ok {a0 : r06_Cell} {r : Bool} (h : r06_there a0 = some r) : PCalls Try.prog 65 [r06_Cell.Pv a0] (.bool r) := by
 unfold r06_there at h
 refine pc_intro (N := 11) Try.func65 rfl rfl nl fun w0 imm0 => sR <| y1 rfl (o_box (d := r06_Cell.Pv a0) (z := 8) (cl := true) rfl rfl rfl rfl rfl) rfl <| y0 rfl (o_assign (d := .bool false) rfl) <| y_nil <| sR <| y0 rfl (o_fieldAddrP (k := 0) rfl Ty.f87_0 rfl) <| y0 rfl (o_loadS rfl rfl rfl Ty.a3 rfl) ?_
 refine y0 rfl (o_cmp rfl rfl rfl) <| y0 rfl (o_move (d := .bool (a0.State == 1)) rfl) <| y_if (g := ((a0.State == 1) == false)) rfl (fun hg => o_fieldAddrP (k := 0) rfl Ty.f87_0 rfl) <| y_if (g := ((a0.State == 1) == false)) rfl (fun hg => o_loadS (ct hg) rfl rfl Ty.a3 rfl) <| y_if (g := ((a0.State == 1) == false)) rfl (fun hg => o_cmp (ct hg) rfl rfl) <| y0 rfl (pk_or rfl rfl rfl (fun q => eqF q)) <| y0 rfl (o_assign (d := .bool ((a0.State == 1) || (a0.State == 2))) rfl) <| y_nil ?_
 refine pw_ret ?_
 obtain rfl := Option.some.inj h
 exact ⟨rfl, [_], ⟨rfl, trivial⟩, rfl, io⟩

theorem r06_Right_ok {a0 : r06_Store} {r : Bool} (h : r06_Right a0 = some r) : PCalls Try.prog 23 [r06_Store.Pv a0] (.bool r) := by
 unfold r06_Right at h
 refine pc_intro (N := 120) Try.func23 rfl rfl nl fun w0 imm0 => sR <| y1 rfl (o_box (d := r06_Store.Pv a0) (z := 3) (cl := true) rfl rfl rfl rfl rfl) rfl <| y0 rfl (o_assign (d := .bool false) rfl) <| y_nil <| pw_seq <| sR <| y0 rfl (o_loadA (cs := r06_Store.Pc a0) rfl rfl rfl Ty.a37 Ty.s37 nl rfl) ?_
 obtain ⟨v1, hv1, h⟩ := bindE h
 refine yc rfl (o_callF (ls := []) (ds := [r06_Store.Pv a0]) rfl Ty.k62 rfl (r06_Plain_ok hv1)) ?_
 obtain ⟨v2, hv2, h⟩ := bindE h
 refine y0 rfl (o_call (ds := [r03_Slab.Pv v1]) rfl Ty.k64 rfl (r03_Right_ok hv2)) <| y0 rfl (o_not rfl rfl) <| y0 rfl (o_move (d := .bool (!v2)) rfl) <| y_if (g := ((!v2) == false)) rfl (fun hg => o_fieldAddrP (k := 2) rfl Ty.f37_2 rfl) <| y_if (g := ((!v2) == false)) rfl (fun hg => o_loadS (ct hg) rfl rfl Ty.a3 rfl) <| y_if (g := ((!v2) == false)) rfl (fun hg => o_cmp (ct hg) rfl rfl) <| y0 rfl (pk_or rfl rfl rfl (fun q => eqF q)) <| y_nil ?_
 refine pw_cond ((!v2) || (decide (a0.Serial < 0))) rfl (fun hc => ?_) (fun hc => ?_)
 ·have h := ifT h hc
  refine sR <| y0 rfl (o_assign (d := .bool false) rfl) <| y_nil <| pw_ret ?_
  obtain rfl := Option.some.inj h
  exact ⟨rfl, [_], ⟨rfl, trivial⟩, rfl, io⟩
 ·have h := ifF h hc
  refine pw_skip ?_
  obtain ⟨κ22, hκ21, h⟩ := jnE h
  refine pw_jn0 (κ := κ22) (r := r) (fun (_ : Unit) => St.of [] []) (fun q23 h => ?_) ?_
  ·subst hκ21
   refine sR <| y0 rfl (o_assign (d := .bool true) rfl) <| y_nil <| pw_ret ?_
   obtain rfl := Option.some.inj h
   exact ⟨rfl, [_], ⟨rfl, trivial⟩, rfl, io⟩
  ·skip
   refine sR <| y0 rfl (o_assign (d := .int .i64 0) rfl) <| y_nil <| pw_block ?_
   obtain ⟨e24, hl22, hk23⟩ := bindE h
   refine pw_lp0 (fun (s25 : Int) => St.of [(1, .ptr 1 0 0), (3, .int .i64 s25)] [(1, ⟨[r06_Store.Pv a0], 0, false, 3, true⟩)]) hl22 (wk_st _ _ ⟨rfl, rfl, rfl, rfl, rfl, rfl, trivial⟩ ⟨rS, trivial⟩) (fun s25 x26 h hx24 => ?_)
   refine pw_seq <| sR <| y0 rfl (o_move (d := .int .i64 s25) rfl) <| y0 rfl (o_fieldAddrP (k := 0) rfl Ty.f37_0 rfl) <| y0 rfl (o_loadS rfl rfl rfl Ty.a35 rfl) <| y0 rfl (o_lnL (f := r06_Cell.Pv) rfl Ty.e35) <| y0 rfl (o_cmp rfl rfl rfl) <| y_nil ?_
   refine pw_cond (decide (s25 < (a0.Cells.length : Int))) rfl (fun hc => ?_) (fun hc => ?_)
   ·have h := ifT h hc
    refine pw_skip ?_
    obtain ⟨κ34, hκ32, h⟩ := jnE h
    refine pw_jn0 (κ := κ34) (r := x26) (fun (_ : Unit) => St.of [(1, .ptr 1 0 0), (3, .int .i64 s25)] [(1, ⟨[r06_Store.Pv a0], 0, false, 3, true⟩)]) (fun q35 h => ?_) ?_
    ·subst hκ32
     refine sr1 (by kernel_rfl) <| y0 rfl (o_move (d := .int .i64 s25) rfl) <| y0 rfl (o_ari rfl rfl rfl) <| y0 rfl (o_assign (d := .int .i64 (w64 (s25 + 1))) rfl) <| y_nil ?_
     exact ⟨rfl, w64 (s25 + 1), (Option.some.inj h).symm, (wk_st _ _ ⟨rfl, rfl, rfl, rfl, rfl, rfl, trivial⟩ ⟨rS, trivial⟩)⟩
    ·skip
     refine pw_block <| sR <| y0 rfl (o_fieldAddrP (k := 0) rfl Ty.f37_0 rfl) <| y0 rfl (o_loadS rfl rfl rfl Ty.a35 rfl) <| y0 rfl (o_move (d := .int .i64 s25) rfl) ?_
     obtain ⟨v36, hv33, h⟩ := bindE h
     refine y0 rfl (o_ixL (f := r06_Cell.Pv) (cs := r06_Cell.Pc v36) hv33 rfl rfl Ty.e35 Ty.s87 rfl rfl) <| y0 rfl (o_loadRA (cs := r06_Cell.Pc v36) rfl Ty.a87 Ty.s87 nl rfl) <| y1 rfl (o_alloc (d := .agg [.int .i64 0, .int .i64 0, .int .i64 0, .int .i64 0, .int .i64 0, .int .i64 0, .bool false, .lst true (List.map (PV.int .i64) [])]) (z := 8) rfl Ty.z87 rfl rfl rfl) rfl <| y_sto (x' := r06_Cell.Pv v36) (cl' := true) rfl rfl (.inr rfl) Ty.s87 <| y_nil <| sR <| y0 rfl (o_fieldAddrP (k := 2) rfl Ty.f87_2 rfl) <| y0 rfl (o_loadA (cs := r06_Obj.Pc v36.Val) rfl rfl rfl Ty.a41 Ty.s41 nl rfl) ?_
     refine y1 rfl (o_alloc (d := .agg [.int .i64 0, .int .i64 0, .int .i64 0, .int .i64 0, .bool false, .lst true (List.map (PV.int .i64) [])]) (z := 6) rfl Ty.z41 rfl rfl rfl) rfl <| y_sto (x' := r06_Obj.Pv v36.Val) (cl' := true) rfl rfl (.inr rfl) Ty.s41 <| y_nil <| pw_seq <| sR <| y0 rfl (o_loadA (cs := r06_Cell.Pc v36) rfl rfl rfl Ty.a87 Ty.s87 nl rfl) ?_
     obtain ⟨v37, hv34, h⟩ := bindE h
     refine y0 rfl (o_call (ds := [r06_Cell.Pv v36]) rfl Ty.k65 rfl (r06_there_ok hv34)) <| y0 rfl (o_not rfl rfl) <| y_nil ?_
     refine pw_cond (!v37) rfl (fun hc => ?_) (fun hc => ?_)
     ·have h := ifT h hc
      refine pw_seq <| sR <| y0 rfl (o_fieldAddrP (k := 0) rfl Ty.f41_0 rfl) <| y0 rfl (o_loadS rfl rfl rfl Ty.a3 rfl) <| y0 rfl (o_cmp rfl rfl rfl) <| y0 rfl (o_move (d := .bool (v36.Val.Serial != 0)) rfl) <| y_if (g := ((v36.Val.Serial != 0) == false)) rfl (fun hg => o_fieldAddrP (k := 1) rfl Ty.f41_1 rfl) <| y_if (g := ((v36.Val.Serial != 0) == false)) rfl (fun hg => o_loadS (ct hg) rfl rfl Ty.a3 rfl) ?_
      refine y_if (g := ((v36.Val.Serial != 0) == false)) rfl (fun hg => o_cmp (ct hg) rfl rfl) <| y0 rfl (pk_or rfl rfl rfl (fun q => eqF q)) <| y0 rfl (o_move (d := .bool ((v36.Val.Serial != 0) || (v36.Val.Strong != 0))) rfl) <| y_if (g := (((v36.Val.Serial != 0) || (v36.Val.Strong != 0)) == false)) rfl (fun hg => o_fieldAddrP (k := 2) rfl Ty.f41_2 rfl) <| y_if (g := (((v36.Val.Serial != 0) || (v36.Val.Strong != 0)) == false)) rfl (fun hg => o_loadS (ct hg) rfl rfl Ty.a3 rfl) <| y_if (g := (((v36.Val.Serial != 0) || (v36.Val.Strong != 0)) == false)) rfl (fun hg => o_cmp (ct hg) rfl rfl) <| y0 rfl (pk_or rfl rfl rfl (fun q => eqF q)) <| y0 rfl (o_move (d := .bool (((v36.Val.Serial != 0) || (v36.Val.Strong != 0)) || (v36.Val.Weak != 0))) rfl) ?_
      refine y_if (g := ((((v36.Val.Serial != 0) || (v36.Val.Strong != 0)) || (v36.Val.Weak != 0)) == false)) rfl (fun hg => o_fieldAddrP (k := 3) rfl Ty.f41_3 rfl) <| y_if (g := ((((v36.Val.Serial != 0) || (v36.Val.Strong != 0)) || (v36.Val.Weak != 0)) == false)) rfl (fun hg => o_loadS (ct hg) rfl rfl Ty.a3 rfl) <| y_if (g := ((((v36.Val.Serial != 0) || (v36.Val.Strong != 0)) || (v36.Val.Weak != 0)) == false)) rfl (fun hg => o_cmp (ct hg) rfl rfl) <| y0 rfl (pk_or rfl rfl rfl (fun q => eqF q)) <| y0 rfl (o_move (d := .bool ((((v36.Val.Serial != 0) || (v36.Val.Strong != 0)) || (v36.Val.Weak != 0)) || (v36.Val.Prog != 0))) rfl) <| y_if (g := (((((v36.Val.Serial != 0) || (v36.Val.Strong != 0)) || (v36.Val.Weak != 0)) || (v36.Val.Prog != 0)) == false)) rfl (fun hg => o_fieldAddrP (k := 4) rfl Ty.f41_4 rfl) <| y_if (g := (((((v36.Val.Serial != 0) || (v36.Val.Strong != 0)) || (v36.Val.Weak != 0)) || (v36.Val.Prog != 0)) == false)) rfl (fun hg => o_loadS (ct hg) rfl rfl Ty.a4 rfl) <| y0 rfl (pk_or rfl rfl rfl (fun q => eqF q)) ?_
      refine y0 rfl (o_move (d := .bool (((((v36.Val.Serial != 0) || (v36.Val.Strong != 0)) || (v36.Val.Weak != 0)) || (v36.Val.Prog != 0)) || v36.Val.Started)) rfl) <| y_if (g := ((((((v36.Val.Serial != 0) || (v36.Val.Strong != 0)) || (v36.Val.Weak != 0)) || (v36.Val.Prog != 0)) || v36.Val.Started) == false)) rfl (fun hg => o_fieldAddrP (k := 5) rfl Ty.f41_5 rfl) <| y_if (g := ((((((v36.Val.Serial != 0) || (v36.Val.Strong != 0)) || (v36.Val.Weak != 0)) || (v36.Val.Prog != 0)) || v36.Val.Started) == false)) rfl (fun hg => o_loadS (ct hg) rfl rfl Ty.a27 rfl) <| y_if (g := ((((((v36.Val.Serial != 0) || (v36.Val.Strong != 0)) || (v36.Val.Weak != 0)) || (v36.Val.Prog != 0)) || v36.Val.Started) == false)) rfl (fun hg => o_lnL (f := (PV.int .i64)) (ct hg) Ty.e27) <| y_if (g := ((((((v36.Val.Serial != 0) || (v36.Val.Strong != 0)) || (v36.Val.Weak != 0)) || (v36.Val.Prog != 0)) || v36.Val.Started) == false)) rfl (fun hg => o_cmp (ct hg) rfl rfl) <| y0 rfl (pk_or rfl rfl rfl (fun q => eqF q)) <| y_nil ?_
      refine pw_cond ((((((v36.Val.Serial != 0) || (v36.Val.Strong != 0)) || (v36.Val.Weak != 0)) || (v36.Val.Prog != 0)) || v36.Val.Started) || ((v36.Val.Fields.length : Int) != 0)) rfl (fun hc => ?_) (fun hc => ?_)
      ·have h := ifT h hc
       refine sR <| y0 rfl (o_assign (d := .bool false) rfl) <| y_nil <| pw_ret ?_
       have he := hx24 _ (Option.some.inj h).symm
       have h := hk23
       rw [← he] at h
       obtain rfl := Option.some.inj h
       exact ⟨rfl, [_], ⟨rfl, trivial⟩, rfl, io⟩
      ·have h := ifF h hc
       refine pw_skip <| pw_exit <| thenQ_exit <| blockQ_exit ?_
       exact ⟨rfl, (), h, (wk_st _ _ ⟨rfl, rfl, rfl, rfl, rfl, rfl, trivial⟩ ⟨rS, trivial⟩)⟩
     ·have h := ifF h hc
      refine pw_skip <| pw_seq <| sR <| y0 rfl (o_fieldAddrP (k := 0) rfl Ty.f41_0 rfl) <| y0 rfl (o_loadS rfl rfl rfl Ty.a3 rfl) <| y0 rfl (o_cmp rfl rfl rfl) <| y0 rfl (o_move (d := .bool (decide (v36.Val.Serial < 1))) rfl) <| y_if (g := ((decide (v36.Val.Serial < 1)) == false)) rfl (fun hg => o_fieldAddrP (k := 0) rfl Ty.f41_0 rfl) ?_
      refine y_if (g := ((decide (v36.Val.Serial < 1)) == false)) rfl (fun hg => o_loadS (ct hg) rfl rfl Ty.a3 rfl) <| y_if (g := ((decide (v36.Val.Serial < 1)) == false)) rfl (fun hg => o_fieldAddrP (k := 2) rfl Ty.f37_2 rfl) <| y_if (g := ((decide (v36.Val.Serial < 1)) == false)) rfl (fun hg => o_loadS (ct hg) rfl rfl Ty.a3 rfl) <| y_if (g := ((decide (v36.Val.Serial < 1)) == false)) rfl (fun hg => o_cmp (ct hg) (ct hg) rfl) <| y0 rfl (pk_or rfl rfl rfl (fun q => eqF q)) <| y0 rfl (o_move (d := .bool ((decide (v36.Val.Serial < 1)) || (decide (v36.Val.Serial > a0.Serial)))) rfl) <| y_if (g := (((decide (v36.Val.Serial < 1)) || (decide (v36.Val.Serial > a0.Serial))) == false)) rfl (fun hg => o_fieldAddrP (k := 1) rfl Ty.f41_1 rfl) <| y_if (g := (((decide (v36.Val.Serial < 1)) || (decide (v36.Val.Serial > a0.Serial))) == false)) rfl (fun hg => o_loadS (ct hg) rfl rfl Ty.a3 rfl) ?_
      refine y_if (g := (((decide (v36.Val.Serial < 1)) || (decide (v36.Val.Serial > a0.Serial))) == false)) rfl (fun hg => o_cmp (ct hg) rfl rfl) <| y0 rfl (pk_or rfl rfl rfl (fun q => eqF q)) <| y0 rfl (o_move (d := .bool (((decide (v36.Val.Serial < 1)) || (decide (v36.Val.Serial > a0.Serial))) || (decide (v36.Val.Strong < 0)))) rfl) <| y_if (g := ((((decide (v36.Val.Serial < 1)) || (decide (v36.Val.Serial > a0.Serial))) || (decide (v36.Val.Strong < 0))) == false)) rfl (fun hg => o_fieldAddrP (k := 2) rfl Ty.f41_2 rfl) <| y_if (g := ((((decide (v36.Val.Serial < 1)) || (decide (v36.Val.Serial > a0.Serial))) || (decide (v36.Val.Strong < 0))) == false)) rfl (fun hg => o_loadS (ct hg) rfl rfl Ty.a3 rfl) <| y_if (g := ((((decide (v36.Val.Serial < 1)) || (decide (v36.Val.Serial > a0.Serial))) || (decide (v36.Val.Strong < 0))) == false)) rfl (fun hg => o_cmp (ct hg) rfl rfl) <| y0 rfl (pk_or rfl rfl rfl (fun q => eqF q)) <| y0 rfl (o_move (d := .bool ((((decide (v36.Val.Serial < 1)) || (decide (v36.Val.Serial > a0.Serial))) || (decide (v36.Val.Strong < 0))) || (decide (v36.Val.Weak < 0)))) rfl) ?_
      refine y_if (g := (((((decide (v36.Val.Serial < 1)) || (decide (v36.Val.Serial > a0.Serial))) || (decide (v36.Val.Strong < 0))) || (decide (v36.Val.Weak < 0))) == false)) rfl (fun hg => o_fieldAddrP (k := 3) rfl Ty.f41_3 rfl) <| y_if (g := (((((decide (v36.Val.Serial < 1)) || (decide (v36.Val.Serial > a0.Serial))) || (decide (v36.Val.Strong < 0))) || (decide (v36.Val.Weak < 0))) == false)) rfl (fun hg => o_loadS (ct hg) rfl rfl Ty.a3 rfl) <| y_if (g := (((((decide (v36.Val.Serial < 1)) || (decide (v36.Val.Serial > a0.Serial))) || (decide (v36.Val.Strong < 0))) || (decide (v36.Val.Weak < 0))) == false)) rfl (fun hg => o_cmp (ct hg) rfl rfl) <| y0 rfl (pk_or rfl rfl rfl (fun q => eqF q)) <| y0 rfl (o_move (d := .bool (((((decide (v36.Val.Serial < 1)) || (decide (v36.Val.Serial > a0.Serial))) || (decide (v36.Val.Strong < 0))) || (decide (v36.Val.Weak < 0))) || (decide (v36.Val.Prog < (-1))))) rfl) <| y_if (g := ((((((decide (v36.Val.Serial < 1)) || (decide (v36.Val.Serial > a0.Serial))) || (decide (v36.Val.Strong < 0))) || (decide (v36.Val.Weak < 0))) || (decide (v36.Val.Prog < (-1)))) == false)) rfl (fun hg => o_fieldAddrP (k := 3) rfl Ty.f41_3 rfl) <| y_if (g := ((((((decide (v36.Val.Serial < 1)) || (decide (v36.Val.Serial > a0.Serial))) || (decide (v36.Val.Strong < 0))) || (decide (v36.Val.Weak < 0))) || (decide (v36.Val.Prog < (-1)))) == false)) rfl (fun hg => o_loadS (ct hg) rfl rfl Ty.a3 rfl) <| y_if (g := ((((((decide (v36.Val.Serial < 1)) || (decide (v36.Val.Serial > a0.Serial))) || (decide (v36.Val.Strong < 0))) || (decide (v36.Val.Weak < 0))) || (decide (v36.Val.Prog < (-1)))) == false)) rfl (fun hg => o_cmp (ct hg) rfl rfl) ?_
      refine y0 rfl (pk_or rfl rfl rfl (fun q => eqF q)) <| y0 rfl (o_move (d := .bool ((((((decide (v36.Val.Serial < 1)) || (decide (v36.Val.Serial > a0.Serial))) || (decide (v36.Val.Strong < 0))) || (decide (v36.Val.Weak < 0))) || (decide (v36.Val.Prog < (-1)))) || (decide (v36.Val.Prog > 5)))) rfl) <| y_if (g := (((((((decide (v36.Val.Serial < 1)) || (decide (v36.Val.Serial > a0.Serial))) || (decide (v36.Val.Strong < 0))) || (decide (v36.Val.Weak < 0))) || (decide (v36.Val.Prog < (-1)))) || (decide (v36.Val.Prog > 5))) == false)) rfl (fun hg => o_fieldAddrP (k := 5) rfl Ty.f41_5 rfl) <| y_if (g := (((((((decide (v36.Val.Serial < 1)) || (decide (v36.Val.Serial > a0.Serial))) || (decide (v36.Val.Strong < 0))) || (decide (v36.Val.Weak < 0))) || (decide (v36.Val.Prog < (-1)))) || (decide (v36.Val.Prog > 5))) == false)) rfl (fun hg => o_loadS (ct hg) rfl rfl Ty.a27 rfl) <| y_if (g := (((((((decide (v36.Val.Serial < 1)) || (decide (v36.Val.Serial > a0.Serial))) || (decide (v36.Val.Strong < 0))) || (decide (v36.Val.Weak < 0))) || (decide (v36.Val.Prog < (-1)))) || (decide (v36.Val.Prog > 5))) == false)) rfl (fun hg => o_lnL (f := (PV.int .i64)) (ct hg) Ty.e27) <| y_if (g := (((((((decide (v36.Val.Serial < 1)) || (decide (v36.Val.Serial > a0.Serial))) || (decide (v36.Val.Strong < 0))) || (decide (v36.Val.Weak < 0))) || (decide (v36.Val.Prog < (-1)))) || (decide (v36.Val.Prog > 5))) == false)) rfl (fun hg => o_cmp (ct hg) rfl rfl) <| y0 rfl (pk_or rfl rfl rfl (fun q => eqF q)) <| y_nil ?_
      refine pw_cond (((((((decide (v36.Val.Serial < 1)) || (decide (v36.Val.Serial > a0.Serial))) || (decide (v36.Val.Strong < 0))) || (decide (v36.Val.Weak < 0))) || (decide (v36.Val.Prog < (-1)))) || (decide (v36.Val.Prog > 5))) || (decide ((v36.Val.Fields.length : Int) > 4))) rfl (fun hc => ?_) (fun hc => ?_)
      ·have h := ifT h hc
       refine sR <| y0 rfl (o_assign (d := .bool false) rfl) <| y_nil <| pw_ret ?_
       have he := hx24 _ (Option.some.inj h).symm
       have h := hk23
       rw [← he] at h
       obtain rfl := Option.some.inj h
       exact ⟨rfl, [_], ⟨rfl, trivial⟩, rfl, io⟩
      ·have h := ifF h hc
       refine pw_skip <| sR <| y0 rfl (o_assign (d := .int .i64 0) rfl) <| y_nil <| pw_block ?_
       obtain ⟨e38, hl35, hk36⟩ := bindE h
       refine pw_lp0 (fun (s39 : Int) => St.of [(1, .ptr 1 0 0), (3, .int .i64 s25), (5, .ptr 5 0 0), (6, .int .i64 s39)] [(5, ⟨[r06_Obj.Pv v36.Val], 0, false, 6, true⟩), (1, ⟨[r06_Store.Pv a0], 0, false, 3, true⟩)]) hl35 (wk_st _ _ ⟨rfl, rfl, rfl, rfl, rfl, rfl, rfl, rfl, rfl, rfl, rfl, rfl, trivial⟩ ⟨rS, rS, trivial⟩) (fun s39 x40 h hx37 => ?_)
       refine pw_seq <| sR <| y0 rfl (o_move (d := .int .i64 s39) rfl) <| y0 rfl (o_move (d := .int .i64 s25) rfl) <| y0 rfl (o_cmp rfl rfl rfl) <| y_nil ?_
       refine pw_cond (decide (s39 < s25)) rfl (fun hc => ?_) (fun hc => ?_)
       ·have h := ifT h hc
        refine pw_skip <| pw_seq <| pw_block <| dr [] Ty.mix (by kernel_rfl) (by kernel_rfl) <| d7 rfl (fun _ hN => o_fieldAddrP (k := 0) rfl Ty.f37_0 rfl) rfl <| d0 rfl (o_loadS rfl rfl rfl Ty.a35 rfl) rfl <| d7 rfl (fun _ hN => o_move (d := .int .i64 s39) rfl) rfl ?_
        obtain ⟨v41, hv38, h⟩ := bindE h
        refine d0 rfl (o_ixL (f := r06_Cell.Pv) (cs := r06_Cell.Pc v41) hv38 rfl rfl Ty.e35 Ty.s87 rfl rfl) rfl <| d0 rfl (o_loadRA (cs := r06_Cell.Pc v41) rfl Ty.a87 Ty.s87 nl rfl) rfl ?_
        obtain ⟨v42, hv39, h⟩ := bindE h
        refine d2 rfl (o_call (ds := [r06_Cell.Pv v41]) rfl Ty.k65 rfl (r06_there_ok hv39)) rfl <| d7 rfl (fun _ hN => o_move (d := .bool v42) rfl) rfl <| d_if7 (g := (v42 == true)) rfl (fun hg _ hN => o_fieldAddrP (k := 0) rfl Ty.f37_0 rfl) rfl <| d_if0 (g := (v42 == true)) rfl (fun hg => o_loadS (ct hg) rfl rfl Ty.a35 rfl) rfl <| d_if7 (g := (v42 == true)) rfl (fun hg _ hN => o_move (d := .int .i64 s39) rfl) rfl <| d_if0 (g := (v42 == true)) rfl (fun hg => o_ixL (f := r06_Cell.Pv) (cs := r06_Cell.Pc v41) hv38 (ct hg) (ct hg) Ty.e35 Ty.s87 rfl rfl) rfl <| d_if7 (g := (v42 == true)) rfl (fun hg _ hN => o_fieldAddrR (ct hg) Ty.f87_2 rfl) rfl <| d_if7 (g := (v42 == true)) rfl (fun hg _ hN => o_fieldAddrR (ct hg) Ty.f41_0 rfl) rfl ?_
        refine d_if0 (g := (v42 == true)) rfl (fun hg => o_loadRS (ct hg) Ty.a3 rfl) rfl <| d_if7 (g := (v42 == true)) rfl (fun hg _ hN => o_fieldAddrP (k := 0) rfl Ty.f41_0 rfl) rfl <| d_if0 (g := (v42 == true)) rfl (fun hg => o_loadS (ct hg) rfl rfl Ty.a3 rfl) rfl <| d_if7 (g := (v42 == true)) rfl (fun hg _ hN => o_cmp (ct hg) (ct hg) rfl) rfl <| d7 rfl (fun _ hN => pk_and rfl rfl rfl (fun q => eqT q)) rfl <| d_nil ?_
        refine pw_cond (v42 && (v41.Val.Serial == v36.Val.Serial)) rfl (fun hc => ?_) (fun hc => ?_)
        ·have h := ifT h hc
         refine sR <| y0 rfl (o_assign (d := .bool false) rfl) <| y_nil <| pw_ret ?_
         have he := hx37 _ (Option.some.inj h).symm
         have h := hk36
         rw [← he] at h
         have he := hx24 _ (Option.some.inj h).symm
         have h := hk23
         rw [← he] at h
         obtain rfl := Option.some.inj h
         exact ⟨rfl, [_], ⟨rfl, trivial⟩, rfl, io⟩
        ·have h := ifF h hc
         refine pw_skip <| sr1 (by kernel_rfl) <| y0 rfl (o_move (d := .int .i64 s39) rfl) <| y0 rfl (o_ari rfl rfl rfl) <| y0 rfl (o_assign (d := .int .i64 (w64 (s39 + 1))) rfl) <| y_nil ?_
         exact ⟨rfl, w64 (s39 + 1), (Option.some.inj h).symm, (wk_st _ _ ⟨rfl, rfl, rfl, rfl, rfl, rfl, rfl, rfl, rfl, rfl, rfl, rfl, trivial⟩ ⟨rS, rS, trivial⟩)⟩
       ·have h := ifF h hc
        refine pw_exit <| thenQ_exit <| thenQ_exit <| blockQ_exit ?_
        have he := hx37 _ (Option.some.inj h).symm
        have h := hk36
        rw [← he] at h
        exact ⟨rfl, (), h, (wk_st _ _ ⟨rfl, rfl, rfl, rfl, rfl, rfl, trivial⟩ ⟨rS, trivial⟩)⟩
   ·have h := ifF h hc
    refine pw_exit <| thenQ_exit <| thenQ_exit <| blockQ_exit ?_
    have he := hx24 _ (Option.some.inj h).symm
    have h := hk23
    rw [← he] at h
    exact ⟨rfl, (), h, (wk_st _ _ trivial trivial)⟩

theorem w08_right_ok {a0 : store_Store} {r : Bool} (h : w08_right a0 = some r) : PCalls Try.prog 47 [store_Store.Pv a0] (.bool r) := by
 unfold w08_right at h
 refine pc_intro (N := 15) Try.func47 rfl rfl nl fun w0 imm0 => sR <| y1 rfl (o_box (d := store_Store.Pv a0) (z := 3) (cl := true) rfl rfl rfl rfl rfl) rfl <| y0 rfl (o_assign (d := .bool false) rfl) <| y_nil <| sR <| y0 rfl (o_loadA (cs := store_Store.Pc a0) rfl rfl rfl Ty.a26 Ty.s26 nl rfl) ?_
 obtain ⟨v1, hv1, h⟩ := bindE h
 refine y0 rfl (o_call (ds := [store_Store.Pv a0]) rfl Ty.k87 rfl (w08_small_ok hv1)) <| y0 rfl (o_move (d := .bool v1) rfl) <| y_if (g := (v1 == true)) rfl (fun hg => o_fieldAddrP (k := 2) rfl Ty.f26_1 rfl) <| y_if (g := (v1 == true)) rfl (fun hg => o_loadS (ct hg) rfl rfl Ty.a3 rfl) <| y_if (g := (v1 == true)) rfl (fun hg => o_cmp (ct hg) rfl rfl) <| y0 rfl (pk_and rfl rfl rfl (fun q => eqT q)) <| y0 rfl (o_move (d := .bool (v1 && (decide (a0.Serial < 1000000000)))) rfl) <| y_if (g := ((v1 && (decide (a0.Serial < 1000000000))) == true)) rfl (fun hg => o_loadA (cs := store_Store.Pc a0) rfl rfl rfl Ty.a26 Ty.s26 nl rfl) ?_
 obtain ⟨v2, hv2, h⟩ := bindE h
 refine y_ifc (g := ((v1 && (decide (a0.Serial < 1000000000))) == true)) rfl (fun hg => o_callF (ls := []) (ds := [store_Store.Pv a0]) rfl Ty.k49 (consE (ct hg) rfl) (w08_its_ok (onlyE hv2 hg))) ?_
 obtain ⟨v3, hv3, h⟩ := bindE h
 refine y_if (g := ((v1 && (decide (a0.Serial < 1000000000))) == true)) rfl (fun hg => o_call (ds := [r06_Store.Pv v2]) rfl Ty.k23 (consE (ct hg) rfl) (r06_Right_ok (onlyE hv3 hg))) <| y0 rfl (pk_and rfl rfl rfl (fun q => eqT q)) <| y0 rfl (o_assign (d := .bool ((v1 && (decide (a0.Serial < 1000000000))) && v3)) rfl) <| y_nil <| pw_ret ?_
 obtain rfl := Option.some.inj h
 exact ⟨rfl, [_], ⟨rfl, trivial⟩, rfl, io⟩

theorem slab_New_store_Obj_ok {a0 : Int} {a1 : Int} {r : slab_Slab_store_Obj} (h : slab_New_store_Obj a0 a1 = some r) : PCalls Try.prog 67 [.int .i64 a0, .int .i64 a1] (slab_Slab_store_Obj.Pv r) := by
 unfold slab_New_store_Obj at h
 refine pc_intro (N := 24) Try.func67 rfl rfl nl fun w0 imm0 => sR <| y1 rfl (o_alloc (d := .agg [.lst true (List.map slab_Cell_store_Obj.Pv []), .int .i64 0]) (z := 2) rfl Ty.z24 rfl rfl rfl) rfl <| y_nil <| pw_seq <| sR <| y0 rfl (o_move (d := .int .i64 a0) rfl) <| y0 rfl (o_cmp rfl rfl rfl) ?_
 refine y0 rfl (o_move (d := .bool (decide (a0 < 0))) rfl) <| y_if (g := ((decide (a0 < 0)) == false)) rfl (fun hg => o_move (d := .int .i64 a0) rfl) <| y_if (g := ((decide (a0 < 0)) == false)) rfl (fun hg => o_cmp (ct hg) rfl rfl) <| y0 rfl (pk_or rfl rfl rfl (fun q => eqF q)) <| y0 rfl (o_move (d := .bool ((decide (a0 < 0)) || (decide (a0 > 24)))) rfl) <| y_if (g := (((decide (a0 < 0)) || (decide (a0 > 24))) == false)) rfl (fun hg => o_move (d := .int .i64 a1) rfl) <| y_if (g := (((decide (a0 < 0)) || (decide (a0 > 24))) == false)) rfl (fun hg => o_cmp (ct hg) rfl rfl) <| y0 rfl (pk_or rfl rfl rfl (fun q => eqF q)) ?_
 refine y0 rfl (o_move (d := .bool (((decide (a0 < 0)) || (decide (a0 > 24))) || (decide (a1 < 0)))) rfl) <| y_if (g := ((((decide (a0 < 0)) || (decide (a0 > 24))) || (decide (a1 < 0))) == false)) rfl (fun hg => o_move (d := .int .i64 a1) rfl) <| y_if (g := ((((decide (a0 < 0)) || (decide (a0 > 24))) || (decide (a1 < 0))) == false)) rfl (fun hg => o_cmp (ct hg) rfl rfl) <| y0 rfl (pk_or rfl rfl rfl (fun q => eqF q)) <| y_nil ?_
 refine pw_cond ((((decide (a0 < 0)) || (decide (a0 > 24))) || (decide (a1 < 0))) || (decide (a1 > 9))) rfl (fun hc => ?_) (fun hc => ?_)
 ·have h := ifT h hc
  refine sR <| y0 rfl (o_build (cs := [.lst true (List.map slab_Cell_store_Obj.Pv []), .int .i64 0]) rfl Ty.p24 Ty.z24 rfl rfl rfl) <| y_sto (x' := .agg [.lst true (List.map slab_Cell_store_Obj.Pv []), .int .i64 0]) (cl' := true) rfl rfl (.inl rfl) Ty.s24 <| y_nil <| pw_ret ?_
  obtain rfl := Option.some.inj h
  exact ⟨rfl, [_], ⟨o_loadA rfl rfl rfl Ty.a24 Ty.s24 nl rfl, trivial⟩, rfl, io⟩
 ·have h := ifF h hc
  refine pw_skip <| sR <| y0 rfl (o_move (d := .int .i64 a0) rfl) ?_
  obtain ⟨v1, hv1, h⟩ := bindE h
  refine y1 rfl (o_mk (f := slab_Cell_store_Obj.Pv) hv1 rfl rfl rfl Ty.e22 Ty.s85 Ty.z85 Ty.b85 rfl rfl rfl) rfl <| y0 rfl (o_move (d := .int .i64 a1) rfl) <| y0 rfl (o_build (cs := [.sl 21, .int .i64 a1]) rfl Ty.p24 Ty.z24 rfl rfl rfl) <| y_sto (x' := .agg [.sl 21, .int .i64 a1]) (cl' := false) rfl rfl (.inl rfl) Ty.s24 <| y_nil <| pw_ret ?_
  obtain rfl := Option.some.inj h
  exact ⟨rfl, [_], ⟨o_loadA rfl rfl rfl Ty.a24 Ty.s24 nl rfl, trivial⟩, rfl, io⟩

theorem store_New_ok {a0 : Int} {a1 : Int} {r : store_Store} (h : store_New a0 a1 = some r) : PCalls Try.prog 27 [.int .i64 a0, .int .i64 a1] (store_Store.Pv r) := by
 unfold store_New at h
 refine pc_intro (N := 9) Try.func27 rfl rfl nl fun w0 imm0 => sR <| y1 rfl (o_alloc (d := .agg [.lst true (List.map slab_Cell_store_Obj.Pv []), .int .i64 0, .int .i64 0]) (z := 3) rfl Ty.z26 rfl rfl rfl) rfl <| y_nil <| sR <| y0 rfl (o_move (d := .int .i64 a0) rfl) <| y0 rfl (o_move (d := .int .i64 a1) rfl) ?_
 obtain ⟨v1, hv1, h⟩ := bindE h
 refine yc rfl (o_callF (ls := []) (ds := [.int .i64 a0, .int .i64 a1]) rfl Ty.k67 rfl (slab_New_store_Obj_ok hv1)) <| y0 rfl (o_build (cs := [.lst false (List.map slab_Cell_store_Obj.Pv v1.Cells), .int .i64 v1.Last, .int .i64 0]) rfl Ty.p26 Ty.z26 rfl rfl rfl) <| y_sto (x' := .agg [.lst false (List.map slab_Cell_store_Obj.Pv v1.Cells), .int .i64 v1.Last, .int .i64 0]) (cl' := true) rfl rfl (.inr rfl) Ty.s26 <| y_nil <| pw_ret ?_
 obtain rfl := Option.some.inj h
 exact ⟨rfl, [_], ⟨o_loadA rfl rfl rfl Ty.a26 Ty.s26 nl rfl, trivial⟩, rfl, io⟩

theorem vec_New_ok {a0 : Int} {r : (List Int) × Int} (h : vec_New a0 = some r) : PCalls Try.prog 75 [.int .i64 a0] (.tup [.lst false (List.map (PV.int .i64) r.1), .int .i64 r.2]) := by
 unfold vec_New at h
 refine pc_intro (N := 12) Try.func75 rfl rfl nl fun w0 imm0 => sR <| y0 rfl (o_assign (d := .lst true (List.map (PV.int .i64) [])) rfl) <| y0 rfl (o_assign (d := .int .i64 0) rfl) <| y_nil <| pw_seq <| sR <| y0 rfl (o_move (d := .int .i64 a0) rfl) ?_
 refine y0 rfl (o_cmp rfl rfl rfl) <| y0 rfl (o_move (d := .bool (decide (a0 < 0))) rfl) <| y_if (g := ((decide (a0 < 0)) == false)) rfl (fun hg => o_move (d := .int .i64 a0) rfl) <| y_if (g := ((decide (a0 < 0)) == false)) rfl (fun hg => o_cmp (ct hg) rfl rfl) <| y0 rfl (pk_or rfl rfl rfl (fun q => eqF q)) <| y_nil ?_
 refine pw_cond ((decide (a0 < 0)) || (decide (a0 > 4))) rfl (fun hc => ?_) (fun hc => ?_)
 ·have h := ifT h hc
  refine sR <| y0 rfl (o_assign (d := .lst true (List.map (PV.int .i64) [])) rfl) <| y0 rfl (o_assign (d := .int .i64 1) rfl) <| y_nil <| pw_ret ?_
  obtain rfl := Option.some.inj h
  exact ⟨rfl, [_, _], ⟨rfl, ⟨rfl, trivial⟩⟩, rfl, io⟩
 ·have h := ifF h hc
  refine pw_skip <| sR <| y0 rfl (o_move (d := .int .i64 a0) rfl) ?_
  obtain ⟨v1, hv1, h⟩ := bindE h
  refine y1 rfl (o_mk (f := (PV.int .i64)) hv1 rfl rfl rfl Ty.e27 Ty.s3 Ty.z3 Ty.b3 rfl rfl rfl) rfl <| y0 rfl (o_assign (d := .sl 11) rfl) <| y0 rfl (o_assign (d := .int .i64 0) rfl) <| y_nil <| pw_ret ?_
  obtain rfl := Option.some.inj h
  exact ⟨rfl, [_, _], ⟨rfl, ⟨rfl, trivial⟩⟩, rfl, io⟩

theorem store_programFits_ok {a0 : Int} {r : Bool} (h : store_programFits a0 = some r) : PCalls Try.prog 76 [.int .i64 a0] (.bool r) := by
 unfold store_programFits at h
 refine pc_intro (N := 9) Try.func76 rfl rfl nl fun w0 imm0 => sR <| y0 rfl (o_assign (d := .bool false) rfl) <| y_nil <| sR <| y0 rfl (o_move (d := .int .i64 a0) rfl) <| y0 rfl (o_cmp rfl rfl rfl) <| y0 rfl (o_move (d := .bool (decide (a0 ≥ (-1)))) rfl) ?_
 refine y_if (g := ((decide (a0 ≥ (-1))) == true)) rfl (fun hg => o_move (d := .int .i64 a0) rfl) <| y_if (g := ((decide (a0 ≥ (-1))) == true)) rfl (fun hg => o_cmp (ct hg) rfl rfl) <| y0 rfl (pk_and rfl rfl rfl (fun q => eqT q)) <| y0 rfl (o_assign (d := .bool ((decide (a0 ≥ (-1))) && (decide (a0 < 6)))) rfl) <| y_nil <| pw_ret ?_
 obtain rfl := Option.some.inj h
 exact ⟨rfl, [_], ⟨rfl, trivial⟩, rfl, io⟩

theorem slab_free_store_Obj_ok {a0 : slab_Slab_store_Obj} {r : slab_Slab_store_Obj} (h : slab_free_store_Obj a0 = some r) : PCalls Try.prog 111 [slab_Slab_store_Obj.Pv a0] (.fn (.func 136) [.rptr (slab_Slab_store_Obj.Pc r)]) := by
 unfold slab_free_store_Obj at h
 refine pc_intro (N := 4) Try.func111 rfl rfl nl fun w0 imm0 => sR <| y1 rfl (o_box (d := slab_Slab_store_Obj.Pv a0) (z := 2) (cl := true) rfl rfl rfl rfl rfl) rfl <| y0 rfl (o_assign (d := .nilfn) rfl) <| y_nil <| sR <| y0 rfl (o_mkFunc rfl) <| y0 rfl (o_assign (d := .fn (.func 136) [.ptr 1 0 0]) rfl) ?_
 refine y_nil <| pw_ret ?_
 obtain rfl := Option.some.inj h
 exact ⟨rfl, [_], ⟨rfl, trivial⟩, rfl, io⟩

theorem slices_Clone_slab_Cell_store_Obj_slab_Cell_store_Obj_okN {a0 r : List slab_Cell_store_Obj} (h : slices_Clone_slab_Cell_store_Obj_slab_Cell_store_Obj a0 = some r) : PCallsN Try.prog 124 [.lst false (List.map slab_Cell_store_Obj.Pv a0)] ⟨List.map slab_Cell_store_Obj.Pv r, 0, true, 8, true⟩ := by
 unfold slices_Clone_slab_Cell_store_Obj_slab_Cell_store_Obj at h
 refine pc_introN (N := 8) Try.func124 rfl rfl nl fun w0 imm0 => sR <| y0 rfl (o_assign (d := .lst true (List.map slab_Cell_store_Obj.Pv [])) rfl) <| y_nil <| pw_seq <| sR <| y0 rfl (o_move (d := .lst false (List.map slab_Cell_store_Obj.Pv a0)) rfl) <| y_eqnil rfl Ty.e22 fun b hb => ?_
 refine y_nil ?_
 refine pw_cond b rfl (fun hc => ?_) (fun hc => ?_)
 ·obtain rfl : a0 = [] := by simpa using hb hc
  refine sR <| y0 rfl (o_assign (d := .lst true (List.map slab_Cell_store_Obj.Pv [])) rfl) <| y_nil <| pw_wk (wk_nil (t := 2) (l := 920000) (z := 8) rfl rfl) <| pw_ret ?_
  obtain rfl := Option.some.inj h
  exact ⟨rfl, _, _, rfl, rfl, rfl, rfl⟩
 ·refine pw_skip ?_
  refine sR <| y0 rfl (o_nslice rfl Ty.e22 Ty.s85) <| y0 rfl (o_move (d := .lst false (List.map slab_Cell_store_Obj.Pv a0)) rfl) <| y1 rfl (o_apT (f := slab_Cell_store_Obj.Pv) h rfl rfl (.inl ⟨_, rfl, rfl⟩) Ty.e22 Ty.s85 Ty.b85 Ty.z85 rfl (fun _ => rfl)) rfl <| y0 rfl (o_assign (d := .sl 7) rfl) <| y_nil <| pw_ret ?_
  exact ⟨rfl, _, _, rfl, rfl, rfl, rfl⟩

theorem slices_Clone_slab_Cell_store_Obj_slab_Cell_store_Obj_ok {a0 r : List slab_Cell_store_Obj} (h : slices_Clone_slab_Cell_store_Obj_slab_Cell_store_Obj a0 = some r) : PCalls Try.prog 124 [.lst false (List.map slab_Cell_store_Obj.Pv a0)] (.lst false (List.map slab_Cell_store_Obj.Pv r)) := pcalls_ofN (slices_Clone_slab_Cell_store_Obj_slab_Cell_store_Obj_okN h) rfl

theorem slab_with_store_Obj_ok {a0 : slab_Slab_store_Obj} {a1 : Int} {a2 : slab_Cell_store_Obj} {r : slab_Slab_store_Obj} (h : slab_with_store_Obj a0 a1 a2 = some r) : PCalls Try.prog 100 [slab_Slab_store_Obj.Pv a0, .int .i64 a1, slab_Cell_store_Obj.Pv a2] (slab_Slab_store_Obj.Pv r) := by
 unfold slab_with_store_Obj at h
 refine pc_intro (N := 17) Try.func100 rfl rfl nl fun w0 imm0 => sR <| y1 rfl (o_box (d := slab_Slab_store_Obj.Pv a0) (z := 2) (cl := true) rfl rfl rfl rfl rfl) rfl <| y1 rfl (o_box (d := slab_Cell_store_Obj.Pv a2) (z := 8) (cl := true) rfl rfl rfl rfl rfl) rfl <| y1 rfl (o_alloc (d := .agg [.lst true (List.map slab_Cell_store_Obj.Pv []), .int .i64 0]) (z := 2) rfl Ty.z24 rfl rfl rfl) rfl <| y_nil <| sR <| y0 rfl (o_fieldAddrP (k := 0) rfl Ty.f24_0 rfl) ?_
 refine y0 rfl (o_loadS rfl rfl rfl Ty.a22 rfl) ?_
 obtain ⟨v1, hv1, h⟩ := bindE h
 refine ycN rfl (o_callN (ls := []) (ds := [.lst false (List.map slab_Cell_store_Obj.Pv a0.Cells)]) rfl Ty.k124 rfl (slices_Clone_slab_Cell_store_Obj_slab_Cell_store_Obj_okN hv1)) rfl rfl <| y0 rfl (o_fieldAddrP (k := 0) rfl Ty.f24_0 rfl) <| y_sto (x' := .agg [.sl 9, .int .i64 a0.Last]) (cl' := false) rfl rfl (.inl rfl) Ty.s22 <| y_nil <| sR <| y0 rfl (o_fieldAddrP (k := 0) rfl Ty.f24_0 rfl) <| y0 rfl (o_loadS rfl rfl rfl Ty.a22 rfl) <| y0 rfl (o_move (d := .int .i64 a1) rfl) ?_
 refine y0 rfl (o_loadA (cs := slab_Cell_store_Obj.Pc a2) rfl rfl rfl Ty.a85 Ty.s85 nl rfl) ?_
 obtain ⟨v2, hv2, h⟩ := bindE h
 refine y0 rfl (o_ixR (f := slab_Cell_store_Obj.Pv) hv2 rfl rfl rfl rfl Ty.e22 Ty.s85 rfl) <| y_stE (f := slab_Cell_store_Obj.Pv) (v := a2) hv2 rfl rfl (.inr rfl) Ty.s85 <| y_nil <| sR <| y0 rfl (o_loadA (cs := [.sl 9, .int .i64 a0.Last]) rfl rfl rfl Ty.a24 Ty.s24 nl rfl) <| y_sto (x' := .agg [.sl 9, .int .i64 a0.Last]) (cl' := false) rfl rfl (.inl rfl) Ty.s24 <| y_nil <| pw_ret ?_
 obtain rfl := Option.some.inj h
 exact ⟨rfl, [_], ⟨o_loadA rfl rfl rfl Ty.a24 Ty.s24 nl rfl, trivial⟩, rfl, io⟩

theorem handle_Pack_ok {a0 : Int} {a1 : Int} {r : Int} (h : handle_Pack a0 a1 = some r) : PCalls Try.prog 71 [.int .i64 a0, .int .i64 a1] (.int .i64 r) := by
 unfold handle_Pack at h
 refine pc_intro (N := 25) Try.func71 rfl rfl nl fun w0 imm0 => sR <| y0 rfl (o_assign (d := .int .i64 0) rfl) <| y_nil <| pw_seq <| sR <| y0 rfl (o_move (d := .int .i64 a0) rfl) <| y0 rfl (o_cmp rfl rfl rfl) ?_
 refine y0 rfl (o_move (d := .bool (decide (a0 < 0))) rfl) <| y_if (g := ((decide (a0 < 0)) == false)) rfl (fun hg => o_move (d := .int .i64 a0) rfl) <| y_if (g := ((decide (a0 < 0)) == false)) rfl (fun hg => o_cmp (ct hg) rfl rfl) <| y0 rfl (pk_or rfl rfl rfl (fun q => eqF q)) <| y0 rfl (o_move (d := .bool ((decide (a0 < 0)) || (decide (a0 ≥ 24)))) rfl) <| y_if (g := (((decide (a0 < 0)) || (decide (a0 ≥ 24))) == false)) rfl (fun hg => o_move (d := .int .i64 a1) rfl) <| y_if (g := (((decide (a0 < 0)) || (decide (a0 ≥ 24))) == false)) rfl (fun hg => o_cmp (ct hg) rfl rfl) <| y0 rfl (pk_or rfl rfl rfl (fun q => eqF q)) ?_
 refine y0 rfl (o_move (d := .bool (((decide (a0 < 0)) || (decide (a0 ≥ 24))) || (decide (a1 < 0)))) rfl) <| y_if (g := ((((decide (a0 < 0)) || (decide (a0 ≥ 24))) || (decide (a1 < 0))) == false)) rfl (fun hg => o_move (d := .int .i64 a1) rfl) <| y_if (g := ((((decide (a0 < 0)) || (decide (a0 ≥ 24))) || (decide (a1 < 0))) == false)) rfl (fun hg => o_cmp (ct hg) rfl rfl) <| y0 rfl (pk_or rfl rfl rfl (fun q => eqF q)) <| y_nil ?_
 refine pw_cond ((((decide (a0 < 0)) || (decide (a0 ≥ 24))) || (decide (a1 < 0))) || (decide (a1 > 9))) rfl (fun hc => ?_) (fun hc => ?_)
 ·have h := ifT h hc
  refine sR <| y0 rfl (o_assign (d := .int .i64 0) rfl) <| y_nil <| pw_ret ?_
  obtain rfl := Option.some.inj h
  exact ⟨rfl, [_], ⟨rfl, trivial⟩, rfl, io⟩
 ·have h := ifF h hc
  refine pw_skip <| sR <| y0 rfl (o_move (d := .int .i64 a0) rfl) <| y0 rfl (o_ari rfl rfl rfl) <| y0 rfl (o_ari rfl rfl rfl) <| y0 rfl (o_move (d := .int .i64 a1) rfl) <| y0 rfl (o_ari rfl rfl rfl) <| y0 rfl (o_ari rfl rfl rfl) ?_
  refine y0 rfl (o_assign (d := .int .i64 (w64 ((w64 (1 + (w64 (a0 * 1)))) + (w64 (a1 * 32))))) rfl) <| y_nil <| pw_ret ?_
  obtain rfl := Option.some.inj h
  exact ⟨rfl, [_], ⟨rfl, trivial⟩, rfl, io⟩

theorem slab_Take_store_Obj_ok {a0 : slab_Slab_store_Obj} {a1 : store_Obj} {r : slab_Slab_store_Obj × Int × Int} (h : slab_Take_store_Obj a0 a1 = some r) : PCalls Try.prog 77 [slab_Slab_store_Obj.Pv a0, store_Obj.Pv a1] (.tup [slab_Slab_store_Obj.Pv r.1, .int .i64 r.2.1, .int .i64 r.2.2]) := by
 unfold slab_Take_store_Obj at h
 refine pc_intro (N := 28) Try.func77 rfl rfl nl fun w0 imm0 => sR <| y1 rfl (o_box (d := slab_Slab_store_Obj.Pv a0) (z := 2) (cl := true) rfl rfl rfl rfl rfl) rfl <| y1 rfl (o_box (d := store_Obj.Pv a1) (z := 6) (cl := true) rfl rfl rfl rfl rfl) rfl <| y1 rfl (o_alloc (d := .agg [.lst true (List.map slab_Cell_store_Obj.Pv []), .int .i64 0]) (z := 2) rfl Ty.z24 rfl rfl rfl) rfl <| y1 rfl (o_alloc (d := .int .i64 0) (z := 1) rfl Ty.z3 rfl rfl rfl) rfl <| y1 rfl (o_alloc (d := .int .i64 0) (z := 1) rfl Ty.z32 rfl rfl rfl) rfl <| y_nil ?_
 obtain ⟨κ9, hκ17, h⟩ := jnE h
 refine pw_jn0 (κ := κ9) (r := r) (fun (_ : Unit) => St.of [(2, .ptr 2005 0 0), (4, .ptr 2003 0 0), (5, .ptr 2002 0 0), (6, .ptr 2001 0 0)] [(2001, ⟨[.int .i64 0], 0, false, 1, true⟩), (2002, ⟨[.int .i64 0], 0, false, 1, true⟩), (2003, ⟨[.agg [.lst true (List.map slab_Cell_store_Obj.Pv []), .int .i64 0]], 0, false, 2, true⟩), (2005, ⟨[slab_Slab_store_Obj.Pv a0], 0, false, 2, true⟩)]) (fun q10 h => ?_) ?_
 ·subst hκ17
  refine sR <| y0 rfl (o_loadA (cs := slab_Slab_store_Obj.Pc a0) rfl rfl rfl Ty.a24 Ty.s24 nl rfl) <| y_sto (x' := slab_Slab_store_Obj.Pv a0) (cl' := true) rfl rfl (.inr rfl) Ty.s24 <| y_sto (x' := .int .i64 0) (cl' := true) rfl rfl (.inl rfl) Ty.s3 <| y_sto (x' := .int .i64 4) (cl' := true) rfl rfl (.inl rfl) Ty.s32 <| y_nil <| pw_ret ?_
  obtain rfl := Option.some.inj h
  exact ⟨rfl, [_, _, _], ⟨o_loadA rfl rfl rfl Ty.a24 Ty.s24 nl rfl, ⟨o_loadS rfl rfl rfl Ty.a3 rfl, ⟨o_loadS rfl rfl rfl Ty.a32 rfl, trivial⟩⟩⟩, rfl, io⟩
 ·skip
  refine sR <| y0 rfl (o_loadA (cs := slab_Slab_store_Obj.Pc a0) rfl rfl rfl Ty.a24 Ty.s24 nl rfl) ?_
  obtain ⟨v11, hv18, h⟩ := bindE h
  refine yc rfl (o_callF (ls := []) (ds := [slab_Slab_store_Obj.Pv a0]) rfl Ty.k111 rfl (slab_free_store_Obj_ok hv18)) <| y_nil <| pw_block <| pw_wk (wk_stP (fun l => if l = 2006 then 6 else if l = 2007 then 5 else if l = 2008 then 4 else if l = 2009 then 3 else if l = 2010 then 2 else l) [(2, .ptr 2010 0 0), (3, .ptr 2009 0 0), (4, .ptr 2008 0 0), (5, .ptr 2007 0 0), (6, .ptr 2006 0 0), (10, .fn (.func 136) [.rptr (slab_Slab_store_Obj.Pc v11)])] [(2006, ⟨[.int .i64 0], 0, false, 1, true⟩), (2007, ⟨[.int .i64 0], 0, false, 1, true⟩), (2008, ⟨[.agg [.lst true (List.map slab_Cell_store_Obj.Pv []), .int .i64 0]], 0, false, 2, true⟩), (2009, ⟨[store_Obj.Pv a1], 0, false, 6, true⟩), (2010, ⟨[slab_Slab_store_Obj.Pv a0], 0, false, 2, true⟩)] ⟨rfl, rfl, rfl, rfl, rfl, rfl, rfl, rfl, rfl, rfl, rfl, rfl, rfl, rfl, rfl, rfl, rfl, rfl, trivial⟩ ⟨rN, rN, rN, rN, rN, trivial⟩ rfl) ?_
  refine pw_range (fn := Try.f136) (N1 := 23) rfl Try.func136 rfl rfl nl rfl Ty.k136 rfl rfl (fun l19 e20 o21 hR22 => ?_)
  refine sR <| y0 rfl (o_fieldAddrR rfl Ty.f24_0 rfl) <| y0 rfl (o_loadRS rfl Ty.a22 rfl) <| y0 rfl (o_lnL (f := slab_Cell_store_Obj.Pv) rfl Ty.e22) <| y0 rfl (o_move (d := .int .i64 0) rfl) <| y_nil <| pw_block ?_
  obtain ⟨e12, hl23, hk24⟩ := bindE h
  refine pw_lp0 (fun (s13 : Int) => St.of [(1000002, .ptr 2010 0 0), (1000003, .ptr 2009 0 0), (1000004, .ptr 2008 0 0), (1000005, .ptr 2007 0 0), (1000006, .ptr 2006 0 0), (1000010, .fn (.func 136) [.rptr (slab_Slab_store_Obj.Pc v11)]), (0, .fn (.yield l19) []), (6, .lst false (List.map slab_Cell_store_Obj.Pv v11.Cells)), (7, .int .i64 (v11.Cells.length : Int)), (8, .int .i64 s13)] [(2006, ⟨[.int .i64 0], 0, false, 1, true⟩), (2007, ⟨[.int .i64 0], 0, false, 1, true⟩), (2008, ⟨[.agg [.lst true (List.map slab_Cell_store_Obj.Pv []), .int .i64 0]], 0, false, 2, true⟩), (2009, ⟨[store_Obj.Pv a1], 0, false, 6, true⟩), (2010, ⟨[slab_Slab_store_Obj.Pv a0], 0, false, 2, true⟩)]) hl23 (wk_st _ _ ⟨rfl, rfl, rfl, rfl, rfl, rfl, rfl, rfl, rfl, rfl, rfl, rfl, rfl, rfl, rfl, rfl, rfl, rfl, rfl, rfl, rfl, rfl, rfl, rfl, rfl, rfl, rfl, rfl, rfl, rfl, trivial⟩ ⟨rS, rS, rS, rS, rS, trivial⟩) (fun s13 x14 h hx25 => ?_)
  refine sR <| y0 rfl (o_cmp rfl rfl rfl) <| y_nil <| pw_seq ?_
  refine pw_cond (decide (s13 < (v11.Cells.length : Int))) rfl (fun hc => ?_) (fun hc => ?_)
  ·have h := ifT h hc
   refine pw_skip <| pw_seq <| pw_block <| sR <| y0 rfl (o_move (d := .int .i64 s13) rfl) ?_
   obtain ⟨v15, hv26, h⟩ := bindE h
   refine y0 rfl (o_ixL (f := slab_Cell_store_Obj.Pv) (cs := slab_Cell_store_Obj.Pc v15) hv26 rfl rfl Ty.e22 Ty.s85 rfl rfl) <| y0 rfl (o_loadRA (cs := slab_Cell_store_Obj.Pc v15) rfl Ty.a85 Ty.s85 nl rfl) <| y1 rfl (o_alloc (d := .agg [.int .i64 0, .int .i64 0, .int .i64 0, .int .i64 0, .int .i64 0, .int .i64 0, .bool false, .lst true (List.map (PV.int .i64) [])]) (z := 8) rfl Ty.z85 rfl rfl rfl) rfl <| y0 rfl (o_assign (d := .int .i64 s13) rfl) <| y_sto (x' := slab_Cell_store_Obj.Pv v15) (cl' := true) rfl rfl (.inr rfl) Ty.s85 <| y_nil <| sR <| y0 rfl (o_fieldAddrP (k := 0) rfl Ty.f85_0 rfl) ?_
   refine y0 rfl (o_loadS rfl rfl rfl Ty.a3 rfl) <| y0 rfl (o_cmp rfl rfl rfl) <| y0 rfl (o_move (d := .bool (v15.State == 0)) rfl) <| y_if (g := ((v15.State == 0) == true)) rfl (fun hg => o_move (d := .fn (.yield l19) []) rfl) <| y_if (g := ((v15.State == 0) == true)) rfl (fun hg => o_move (d := .int .i64 s13) rfl) ?_
   rcases Bool.eq_false_or_eq_true ((v15.State == 0) == true) with hg27 | hg27
   ·have h := ifT h hg27
    refine y_wk (wk_st [(1000002, .ptr 2010 0 0), (1000003, .ptr 2009 0 0), (1000004, .ptr 2008 0 0), (1000005, .ptr 2007 0 0), (1000006, .ptr 2006 0 0), (1000010, .fn (.func 136) [.rptr (slab_Slab_store_Obj.Pc v11)]), (0, .fn (.yield l19) []), (6, .lst false (List.map slab_Cell_store_Obj.Pv v11.Cells)), (7, .int .i64 (v11.Cells.length : Int)), (8, .int .i64 s13), (16, .bool (v15.State == 0)), (17, .fn (.yield l19) []), (18, .int .i64 s13)] [(2006, ⟨[.int .i64 0], 0, false, 1, true⟩), (2007, ⟨[.int .i64 0], 0, false, 1, true⟩), (2008, ⟨[.agg [.lst true (List.map slab_Cell_store_Obj.Pv []), .int .i64 0]], 0, false, 2, true⟩), (2009, ⟨[store_Obj.Pv a1], 0, false, 6, true⟩), (2010, ⟨[slab_Slab_store_Obj.Pv a0], 0, false, 2, true⟩)] ⟨rfl, rfl, rfl, rfl, rfl, rfl, rfl, rfl, rfl, rfl, rfl, rfl, rfl, rfl, rfl, rfl, rfl, rfl, rfl, rfl, rfl, rfl, rfl, rfl, rfl, rfl, rfl, rfl, rfl, rfl, rfl, rfl, rfl, (ct hg27), rfl, rfl, (ct hg27), rfl, rfl, trivial⟩ ⟨rS, rS, rS, rS, rS, trivial⟩) ?_
    refine y_yield hR22 (congrArg some hg27) rfl rfl rfl rfl rfl (fun e28 o29 o30 => ?_)
    refine sr1 (by kernel_rfl) <| y0 rfl (o_assign (d := .int .i64 s13) rfl) <| y_nil ?_
    refine ⟨rfl, ?_⟩
    refine pw_block <| sR <| y0 rfl (o_fieldAddrP (k := 0) rfl Ty.f24_0 rfl) <| y0 rfl (o_loadS rfl rfl rfl Ty.a22 rfl) <| y0 rfl (o_move (d := .int .i64 s13) rfl) ?_
    obtain ⟨v16, hv31, h⟩ := bindE h
    refine y0 rfl (o_ixL (f := slab_Cell_store_Obj.Pv) (cs := slab_Cell_store_Obj.Pc v16) hv31 rfl rfl Ty.e22 Ty.s85 rfl rfl) <| y0 rfl (o_fieldAddrR rfl Ty.f85_1 rfl) <| y0 rfl (o_loadRS rfl Ty.a3 rfl) <| y0 rfl (o_assign (d := .int .i64 v16.Gen) rfl) <| y_nil <| sR <| y0 rfl (o_loadA (cs := slab_Slab_store_Obj.Pc a0) rfl rfl rfl Ty.a24 Ty.s24 nl rfl) <| y0 rfl (o_move (d := .int .i64 s13) rfl) ?_
    refine y0 rfl (o_move (d := .int .i64 v16.Gen) rfl) <| y0 rfl (o_loadA (cs := store_Obj.Pc a1) rfl rfl rfl Ty.a29 Ty.s29 nl rfl) <| y0 rfl (o_build (cs := [.int .i64 1, .int .i64 v16.Gen, .int .i64 a1.Serial, .int .i64 a1.Strong, .int .i64 a1.Weak, .int .i64 a1.Prog, .bool a1.Started, .lst false (List.map (PV.int .i64) a1.Fields)]) rfl Ty.p85 Ty.z85 rfl rfl rfl) ?_
    obtain ⟨v17, hv32, h⟩ := bindE h
    refine yc rfl (o_callF (ls := []) (ds := [slab_Slab_store_Obj.Pv a0, .int .i64 s13, .agg [.int .i64 1, .int .i64 v16.Gen, .int .i64 a1.Serial, .int .i64 a1.Strong, .int .i64 a1.Weak, .int .i64 a1.Prog, .bool a1.Started, .lst false (List.map (PV.int .i64) a1.Fields)]]) rfl Ty.k100 rfl (slab_with_store_Obj_ok hv32)) <| y0 rfl (o_move (d := .int .i64 s13) rfl) <| y0 rfl (o_move (d := .int .i64 v16.Gen) rfl) ?_
    obtain ⟨v18, hv33, h⟩ := bindE h
    refine y0 rfl (o_call (ds := [.int .i64 s13, .int .i64 v16.Gen]) rfl Ty.k71 rfl (handle_Pack_ok hv33)) <| y_sto (x' := slab_Slab_store_Obj.Pv v17) (cl' := true) rfl rfl (.inr rfl) Ty.s24 <| y_sto (x' := .int .i64 v18) (cl' := true) rfl rfl (.inl rfl) Ty.s3 <| y_sto (x' := .int .i64 0) (cl' := true) rfl rfl (.inl rfl) Ty.s32 <| y_nil <| pw_ret ?_
    refine ⟨rfl, ?_⟩
    refine y_wk (wk_st [(1000002, .ptr 2010 0 0), (1000003, .ptr 2009 0 0), (1000004, .ptr 2008 0 0), (1000005, .ptr 2007 0 0), (1000006, .ptr 2006 0 0), (1000010, .fn (.func 136) [.rptr (slab_Slab_store_Obj.Pc v11)]), (0, .fn (.yield l19) []), (6, .lst false (List.map slab_Cell_store_Obj.Pv v11.Cells)), (7, .int .i64 (v11.Cells.length : Int)), (8, .int .i64 s13), (16, .bool (v15.State == 0)), (19, .bool false)] [(2006, ⟨[.int .i64 0], 0, false, 1, true⟩), (2007, ⟨[.int .i64 v18], 0, false, 1, true⟩), (2008, ⟨[slab_Slab_store_Obj.Pv v17], 0, false, 2, true⟩), (2009, ⟨[store_Obj.Pv a1], 0, false, 6, true⟩), (2010, ⟨[slab_Slab_store_Obj.Pv a0], 0, false, 2, true⟩)] ⟨rfl, rfl, rfl, rfl, rfl, rfl, rfl, rfl, rfl, rfl, rfl, rfl, rfl, rfl, rfl, rfl, rfl, rfl, rfl, rfl, rfl, rfl, rfl, rfl, rfl, rfl, rfl, rfl, rfl, rfl, rfl, rfl, rfl, rfl, rfl, rfl, trivial⟩ ⟨rS, rS, rS, rS, rS, trivial⟩) <| y0 (congrArg some hg27) (o_not rfl rfl) <| y0 rfl (pk_andT rfl rfl hg27) <| y_nil ?_
    refine pw_cond true rfl (fun _ => ?_) (fun q => nomatch q)
    refine pw_ret ?_
    refine .inr ⟨.ret, rfl, jmpR ?_⟩
    have he := hx25 _ (Option.some.inj h).symm
    have h := hk24
    rw [← he] at h
    obtain rfl := Option.some.inj h
    exact ⟨rfl, [_, _, _], ⟨o_loadA rfl rfl rfl Ty.a24 Ty.s24 nl rfl, ⟨o_loadS rfl rfl rfl Ty.a3 rfl, ⟨o_loadS rfl rfl rfl Ty.a32 rfl, trivial⟩⟩⟩, rfl, io⟩
   ·have h := ifF h hg27
    refine y_skip (congrArg some hg27) <| y_skip (congrArg some hg27) <| y0 rfl (pk_andF rfl rfl hg27) <| y_nil ?_
    refine pw_cond false rfl (fun q => nomatch q) (fun _ => ?_)
    refine pw_skip <| sr1 (by kernel_rfl) <| y0 rfl (o_ari rfl rfl rfl) <| y0 rfl (o_move (d := .int .i64 (w64 (s13 + 1))) rfl) <| y_nil ?_
    exact ⟨rfl, w64 (s13 + 1), (Option.some.inj h).symm, (wk_st _ _ ⟨rfl, rfl, rfl, rfl, rfl, rfl, rfl, rfl, rfl, rfl, rfl, rfl, rfl, rfl, rfl, rfl, rfl, rfl, rfl, rfl, rfl, rfl, rfl, rfl, rfl, rfl, rfl, rfl, rfl, rfl, trivial⟩ ⟨rS, rS, rS, rS, rS, trivial⟩)⟩
  ·have h := ifF h hc
   refine pw_exit <| thenQ_exit <| thenQ_exit <| blockQ_exit ?_
   refine .inl ⟨rfl, ?_⟩
   have he := hx25 _ (Option.some.inj h).symm
   have h := hk24
   rw [← he] at h
   exact ⟨rfl, (), h, (wk_stP (fun l => if l = 2005 then 2010 else if l = 2003 then 2008 else if l = 2002 then 2007 else if l = 2001 then 2006 else l) _ _ ⟨rfl, rfl, rfl, rfl, rfl, rfl, rfl, rfl, rfl, rfl, rfl, rfl, trivial⟩ ⟨rN, rN, rN, rN, trivial⟩ rfl)⟩

theorem store_Make_ok {a0 : store_Store} {a1 : Int} {a2 : Int} {r : store_Store × Int × Int} (h : store_Make a0 a1 a2 = some r) : PCalls Try.prog 31 [store_Store.Pv a0, .int .i64 a1, .int .i64 a2] (.tup [store_Store.Pv r.1, .int .i64 r.2.1, .int .i64 r.2.2]) := by
 unfold store_Make at h
 refine pc_intro (N := 49) Try.func31 rfl rfl nl fun w0 imm0 => sR <| y1 rfl (o_box (d := store_Store.Pv a0) (z := 3) (cl := true) rfl rfl rfl rfl rfl) rfl <| y1 rfl (o_alloc (d := .agg [.lst true (List.map slab_Cell_store_Obj.Pv []), .int .i64 0, .int .i64 0]) (z := 3) rfl Ty.z26 rfl rfl rfl) rfl <| y0 rfl (o_assign (d := .int .i64 0) rfl) <| y0 rfl (o_assign (d := .int .i64 0) rfl) <| y_nil <| sR ?_
 refine y0 rfl (o_move (d := .int .i64 a1) rfl) ?_
 obtain ⟨v1, hv1, h⟩ := bindE h
 refine yc rfl (o_callF (ls := []) (ds := [.int .i64 a1]) rfl Ty.k75 rfl (vec_New_ok hv1)) <| y0 rfl (o_move (d := .tup [.lst false (List.map (PV.int .i64) v1.1), .int .i64 v1.2]) rfl) <| y0 rfl (o_extract rfl rfl) <| y0 rfl (o_extract rfl rfl) <| y0 rfl (o_assign (d := .lst false (List.map (PV.int .i64) v1.1)) rfl) <| y0 rfl (o_assign (d := .int .i64 v1.2) rfl) <| y_nil <| pw_seq ?_
 refine sR <| y0 rfl (o_move (d := .int .i64 v1.2) rfl) <| y0 rfl (o_cmp rfl rfl rfl) <| y_nil ?_
 refine pw_cond (v1.2 != 0) rfl (fun hc => ?_) (fun hc => ?_)
 ·have h := ifT h hc
  refine sR <| y0 rfl (o_loadA (cs := store_Store.Pc a0) rfl rfl rfl Ty.a26 Ty.s26 nl rfl) <| y0 rfl (o_move (d := .int .i64 v1.2) rfl) <| y_sto (x' := store_Store.Pv a0) (cl' := true) rfl rfl (.inr rfl) Ty.s26 <| y0 rfl (o_assign (d := .int .i64 0) rfl) <| y0 rfl (o_assign (d := .int .i64 v1.2) rfl) <| y_nil <| pw_ret ?_
  obtain rfl := Option.some.inj h
  exact ⟨rfl, [_, _, _], ⟨o_loadA rfl rfl rfl Ty.a26 Ty.s26 nl rfl, ⟨rfl, ⟨rfl, trivial⟩⟩⟩, rfl, io⟩
 ·have h := ifF h hc
  refine pw_skip <| pw_seq <| sR <| y0 rfl (o_move (d := .int .i64 a2) rfl) ?_
  obtain ⟨v2, hv2, h⟩ := bindE h
  refine y0 rfl (o_call (ds := [.int .i64 a2]) rfl Ty.k76 rfl (store_programFits_ok hv2)) <| y0 rfl (o_not rfl rfl) <| y_nil ?_
  refine pw_cond (!v2) rfl (fun hc => ?_) (fun hc => ?_)
  ·have h := ifT h hc
   refine sR <| y0 rfl (o_loadA (cs := store_Store.Pc a0) rfl rfl rfl Ty.a26 Ty.s26 nl rfl) <| y_sto (x' := store_Store.Pv a0) (cl' := true) rfl rfl (.inr rfl) Ty.s26 <| y0 rfl (o_assign (d := .int .i64 0) rfl) <| y0 rfl (o_assign (d := .int .i64 13) rfl) <| y_nil <| pw_ret ?_
   obtain rfl := Option.some.inj h
   exact ⟨rfl, [_, _, _], ⟨o_loadA rfl rfl rfl Ty.a26 Ty.s26 nl rfl, ⟨rfl, ⟨rfl, trivial⟩⟩⟩, rfl, io⟩
  ·have h := ifF h hc
   refine pw_skip <| sR <| y0 rfl (o_fieldAddrP (k := 0) rfl Ty.f26_0 rfl) <| y0 rfl (o_loadA (cs := slab_Slab_store_Obj.Pc a0.S) rfl rfl rfl Ty.a24 Ty.s24 nl rfl) <| y0 rfl (o_fieldAddrP (k := 2) rfl Ty.f26_1 rfl) <| y0 rfl (o_loadS rfl rfl rfl Ty.a3 rfl) <| y0 rfl (o_ari rfl rfl rfl) <| y0 rfl (o_move (d := .int .i64 a2) rfl) ?_
   refine y0 rfl (o_move (d := .lst false (List.map (PV.int .i64) v1.1)) rfl) <| y0 rfl (o_build (cs := [.int .i64 (w64 (a0.Serial + 1)), .int .i64 0, .int .i64 0, .int .i64 a2, .bool false, .lst false (List.map (PV.int .i64) v1.1)]) rfl Ty.p29 Ty.z29 rfl rfl rfl) ?_
   obtain ⟨v3, hv3, h⟩ := bindE h
   refine yc rfl (o_callF (ls := []) (ds := [slab_Slab_store_Obj.Pv a0.S, .agg [.int .i64 (w64 (a0.Serial + 1)), .int .i64 0, .int .i64 0, .int .i64 a2, .bool false, .lst false (List.map (PV.int .i64) v1.1)]]) rfl Ty.k77 rfl (slab_Take_store_Obj_ok hv3)) <| y0 rfl (o_move (d := .tup [slab_Slab_store_Obj.Pv v3.1, .int .i64 v3.2.1, .int .i64 v3.2.2]) rfl) <| y0 rfl (o_extract rfl rfl) <| y0 rfl (o_extract rfl rfl) <| y0 rfl (o_extract rfl rfl) <| y1 rfl (o_alloc (d := .agg [.lst true (List.map slab_Cell_store_Obj.Pv []), .int .i64 0]) (z := 2) rfl Ty.z24 rfl rfl rfl) rfl <| y_sto (x' := slab_Slab_store_Obj.Pv v3.1) (cl' := true) rfl rfl (.inr rfl) Ty.s24 <| y0 rfl (o_assign (d := .int .i64 v3.2.1) rfl) ?_
   refine y0 rfl (o_assign (d := .int .i64 v3.2.2) rfl) <| y_nil <| pw_seq <| sR <| y0 rfl (o_move (d := .int .i64 v3.2.2) rfl) <| y0 rfl (o_cmp rfl rfl rfl) <| y_nil ?_
   refine pw_cond (v3.2.2 != 0) rfl (fun hc => ?_) (fun hc => ?_)
   ·have h := ifT h hc
    refine sR <| y0 rfl (o_loadA (cs := store_Store.Pc a0) rfl rfl rfl Ty.a26 Ty.s26 nl rfl) <| y0 rfl (o_move (d := .int .i64 v3.2.2) rfl) <| y_sto (x' := store_Store.Pv a0) (cl' := true) rfl rfl (.inr rfl) Ty.s26 <| y0 rfl (o_assign (d := .int .i64 0) rfl) <| y0 rfl (o_assign (d := .int .i64 v3.2.2) rfl) <| y_nil <| pw_ret ?_
    obtain rfl := Option.some.inj h
    exact ⟨rfl, [_, _, _], ⟨o_loadA rfl rfl rfl Ty.a26 Ty.s26 nl rfl, ⟨rfl, ⟨rfl, trivial⟩⟩⟩, rfl, io⟩
   ·have h := ifF h hc
    refine pw_skip <| sR <| y0 rfl (o_loadA (cs := slab_Slab_store_Obj.Pc v3.1) rfl rfl rfl Ty.a24 Ty.s24 nl rfl) <| y0 rfl (o_fieldAddrP (k := 2) rfl Ty.f26_1 rfl) <| y0 rfl (o_loadS rfl rfl rfl Ty.a3 rfl) <| y0 rfl (o_ari rfl rfl rfl) <| y0 rfl (o_build (cs := [.lst false (List.map slab_Cell_store_Obj.Pv v3.1.Cells), .int .i64 v3.1.Last, .int .i64 (w64 (a0.Serial + 1))]) rfl Ty.p26 Ty.z26 rfl rfl rfl) <| y0 rfl (o_move (d := .int .i64 v3.2.1) rfl) ?_
    refine y_sto (x' := .agg [.lst false (List.map slab_Cell_store_Obj.Pv v3.1.Cells), .int .i64 v3.1.Last, .int .i64 (w64 (a0.Serial + 1))]) (cl' := true) rfl rfl (.inr rfl) Ty.s26 <| y0 rfl (o_assign (d := .int .i64 v3.2.1) rfl) <| y0 rfl (o_assign (d := .int .i64 0) rfl) <| y_nil <| pw_ret ?_
    obtain rfl := Option.some.inj h
    exact ⟨rfl, [_, _, _], ⟨o_loadA rfl rfl rfl Ty.a26 Ty.s26 nl rfl, ⟨rfl, ⟨rfl, trivial⟩⟩⟩, rfl, io⟩

theorem handle_parts_ok {a0 : Int} {r : Int × Int × Bool} (h : handle_parts a0 = some r) : PCalls Try.prog 140 [.int .i64 a0] (.tup [.int .i64 r.1, .int .i64 r.2.1, .bool r.2.2]) := by
 unfold handle_parts at h
 refine pc_intro (N := 22) Try.func140 rfl rfl nl fun w0 imm0 => sR <| y0 rfl (o_assign (d := .int .i64 0) rfl) <| y0 rfl (o_assign (d := .int .i64 0) rfl) <| y0 rfl (o_assign (d := .bool false) rfl) <| y_nil <| pw_seq <| sR ?_
 refine y0 rfl (o_move (d := .int .i64 a0) rfl) <| y0 rfl (o_cmp rfl rfl rfl) <| y_nil ?_
 refine pw_cond (decide (a0 < 1)) rfl (fun hc => ?_) (fun hc => ?_)
 ·have h := ifT h hc
  refine sR <| y0 rfl (o_assign (d := .int .i64 (-1)) rfl) <| y0 rfl (o_assign (d := .int .i64 (-1)) rfl) <| y0 rfl (o_assign (d := .bool false) rfl) <| y_nil <| pw_ret ?_
  obtain rfl := Option.some.inj h
  exact ⟨rfl, [_, _, _], ⟨rfl, ⟨rfl, ⟨rfl, trivial⟩⟩⟩, rfl, io⟩
 ·have h := ifF h hc
  refine pw_skip <| sR <| y0 rfl (o_move (d := .int .i64 a0) rfl) <| y0 rfl (o_ari rfl rfl rfl) ?_
  obtain ⟨v1, hv1, h⟩ := bindE h
  refine y0 rfl (o_ari rfl rfl hv1) ?_
  obtain ⟨v2, hv2, h⟩ := bindE h
  refine y0 rfl (o_ari rfl rfl hv2) <| y0 rfl (o_move (d := .int .i64 a0) rfl) <| y0 rfl (o_ari rfl rfl rfl) ?_
  obtain ⟨v3, hv3, h⟩ := bindE h
  refine y0 rfl (o_ari rfl rfl hv3) <| y0 rfl (o_assign (d := .int .i64 v2) rfl) <| y0 rfl (o_assign (d := .int .i64 v3) rfl) <| y_nil <| pw_seq <| sR <| y0 rfl (o_move (d := .int .i64 v2) rfl) <| y0 rfl (o_cmp rfl rfl rfl) ?_
  refine y0 rfl (o_move (d := .bool (decide (v2 ≥ 24))) rfl) <| y_if (g := ((decide (v2 ≥ 24)) == false)) rfl (fun hg => o_move (d := .int .i64 v3) rfl) <| y_if (g := ((decide (v2 ≥ 24)) == false)) rfl (fun hg => o_cmp (ct hg) rfl rfl) <| y0 rfl (pk_or rfl rfl rfl (fun q => eqF q)) <| y_nil ?_
  refine pw_cond ((decide (v2 ≥ 24)) || (decide (v3 > 9))) rfl (fun hc => ?_) (fun hc => ?_)
  ·have h := ifT h hc
   refine sR <| y0 rfl (o_assign (d := .int .i64 (-1)) rfl) <| y0 rfl (o_assign (d := .int .i64 (-1)) rfl) <| y0 rfl (o_assign (d := .bool false) rfl) <| y_nil <| pw_ret ?_
   obtain rfl := Option.some.inj h
   exact ⟨rfl, [_, _, _], ⟨rfl, ⟨rfl, ⟨rfl, trivial⟩⟩⟩, rfl, io⟩
  ·have h := ifF h hc
   refine pw_skip <| sR <| y0 rfl (o_move (d := .int .i64 v2) rfl) <| y0 rfl (o_move (d := .int .i64 v3) rfl) <| y0 rfl (o_assign (d := .int .i64 v2) rfl) <| y0 rfl (o_assign (d := .int .i64 v3) rfl) <| y0 rfl (o_assign (d := .bool true) rfl) <| y_nil ?_
   refine pw_ret ?_
   obtain rfl := Option.some.inj h
   exact ⟨rfl, [_, _, _], ⟨rfl, ⟨rfl, ⟨rfl, trivial⟩⟩⟩, rfl, io⟩

theorem handle_Slot_ok {a0 : Int} {r : Int} (h : handle_Slot a0 = some r) : PCalls Try.prog 122 [.int .i64 a0] (.int .i64 r) := by
 unfold handle_Slot at h
 refine pc_intro (N := 13) Try.func122 rfl rfl nl fun w0 imm0 => sR <| y0 rfl (o_assign (d := .int .i64 0) rfl) <| y_nil <| sR <| y0 rfl (o_move (d := .int .i64 a0) rfl) ?_
 obtain ⟨v1, hv1, h⟩ := bindE h
 refine y0 rfl (o_call (ds := [.int .i64 a0]) rfl Ty.k140 rfl (handle_parts_ok hv1)) <| y0 rfl (o_move (d := .tup [.int .i64 v1.1, .int .i64 v1.2.1, .bool v1.2.2]) rfl) <| y0 rfl (o_extract rfl rfl) <| y0 rfl (o_extract rfl rfl) <| y0 rfl (o_extract rfl rfl) <| y0 rfl (o_assign (d := .int .i64 v1.1) rfl) <| y0 rfl (o_assign (d := .int .i64 v1.2.1) rfl) <| y0 rfl (o_assign (d := .bool v1.2.2) rfl) ?_
 refine y_nil <| sR <| y0 rfl (o_move (d := .int .i64 v1.1) rfl) <| y0 rfl (o_assign (d := .int .i64 v1.1) rfl) <| y_nil <| pw_ret ?_
 obtain rfl := Option.some.inj h
 exact ⟨rfl, [_], ⟨rfl, trivial⟩, rfl, io⟩

theorem handle_Gen_ok {a0 : Int} {r : Int} (h : handle_Gen a0 = some r) : PCalls Try.prog 123 [.int .i64 a0] (.int .i64 r) := by
 unfold handle_Gen at h
 refine pc_intro (N := 13) Try.func123 rfl rfl nl fun w0 imm0 => sR <| y0 rfl (o_assign (d := .int .i64 0) rfl) <| y_nil <| sR <| y0 rfl (o_move (d := .int .i64 a0) rfl) ?_
 obtain ⟨v1, hv1, h⟩ := bindE h
 refine y0 rfl (o_call (ds := [.int .i64 a0]) rfl Ty.k140 rfl (handle_parts_ok hv1)) <| y0 rfl (o_move (d := .tup [.int .i64 v1.1, .int .i64 v1.2.1, .bool v1.2.2]) rfl) <| y0 rfl (o_extract rfl rfl) <| y0 rfl (o_extract rfl rfl) <| y0 rfl (o_extract rfl rfl) <| y0 rfl (o_assign (d := .int .i64 v1.1) rfl) <| y0 rfl (o_assign (d := .int .i64 v1.2.1) rfl) <| y0 rfl (o_assign (d := .bool v1.2.2) rfl) ?_
 refine y_nil <| sR <| y0 rfl (o_move (d := .int .i64 v1.2.1) rfl) <| y0 rfl (o_assign (d := .int .i64 v1.2.1) rfl) <| y_nil <| pw_ret ?_
 obtain rfl := Option.some.inj h
 exact ⟨rfl, [_], ⟨rfl, trivial⟩, rfl, io⟩

theorem slab_Find_store_Obj_ok {a0 : slab_Slab_store_Obj} {a1 : Int} {r : Int × Int} (h : slab_Find_store_Obj a0 a1 = some r) : PCalls Try.prog 99 [slab_Slab_store_Obj.Pv a0, .int .i64 a1] (.tup [.int .i64 r.1, .int .i64 r.2]) := by
 unfold slab_Find_store_Obj at h
 refine pc_intro (N := 42) Try.func99 rfl rfl nl fun w0 imm0 => sR <| y1 rfl (o_box (d := slab_Slab_store_Obj.Pv a0) (z := 2) (cl := true) rfl rfl rfl rfl rfl) rfl <| y0 rfl (o_assign (d := .int .i64 0) rfl) <| y0 rfl (o_assign (d := .int .i64 0) rfl) <| y_nil <| pw_seq <| sR ?_
 refine y0 rfl (o_move (d := .int .i64 a1) rfl) <| y0 rfl (o_cmp rfl rfl rfl) <| y_nil ?_
 refine pw_cond (a1 == 0) rfl (fun hc => ?_) (fun hc => ?_)
 ·have h := ifT h hc
  refine sR <| y0 rfl (o_assign (d := .int .i64 (-1)) rfl) <| y0 rfl (o_assign (d := .int .i64 2) rfl) <| y_nil <| pw_ret ?_
  obtain rfl := Option.some.inj h
  exact ⟨rfl, [_, _], ⟨rfl, ⟨rfl, trivial⟩⟩, rfl, io⟩
 ·have h := ifF h hc
  refine pw_skip <| sR <| y0 rfl (o_move (d := .int .i64 a1) rfl) ?_
  obtain ⟨v1, hv1, h⟩ := bindE h
  refine y0 rfl (o_call (ds := [.int .i64 a1]) rfl Ty.k122 rfl (handle_Slot_ok hv1)) <| y0 rfl (o_assign (d := .int .i64 v1) rfl) <| y_nil <| pw_seq <| sR <| y0 rfl (o_move (d := .int .i64 v1) rfl) <| y0 rfl (o_cmp rfl rfl rfl) <| y0 rfl (o_move (d := .bool (decide (v1 < 0))) rfl) ?_
  refine y_if (g := ((decide (v1 < 0)) == false)) rfl (fun hg => o_move (d := .int .i64 v1) rfl) <| y_if (g := ((decide (v1 < 0)) == false)) rfl (fun hg => o_fieldAddrP (k := 0) rfl Ty.f24_0 rfl) <| y_if (g := ((decide (v1 < 0)) == false)) rfl (fun hg => o_loadS (ct hg) rfl rfl Ty.a22 rfl) <| y_if (g := ((decide (v1 < 0)) == false)) rfl (fun hg => o_lnL (f := slab_Cell_store_Obj.Pv) (ct hg) Ty.e22) <| y_if (g := ((decide (v1 < 0)) == false)) rfl (fun hg => o_cmp (ct hg) (ct hg) rfl) <| y0 rfl (pk_or rfl rfl rfl (fun q => eqF q)) <| y_nil ?_
  refine pw_cond ((decide (v1 < 0)) || (decide (v1 ≥ (a0.Cells.length : Int)))) rfl (fun hc => ?_) (fun hc => ?_)
  ·have h := ifT h hc
   refine sR <| y0 rfl (o_assign (d := .int .i64 (-1)) rfl) <| y0 rfl (o_assign (d := .int .i64 3) rfl) <| y_nil <| pw_ret ?_
   obtain rfl := Option.some.inj h
   exact ⟨rfl, [_, _], ⟨rfl, ⟨rfl, trivial⟩⟩, rfl, io⟩
  ·have h := ifF h hc
   refine pw_skip <| sR <| y0 rfl (o_fieldAddrP (k := 0) rfl Ty.f24_0 rfl) <| y0 rfl (o_loadS rfl rfl rfl Ty.a22 rfl) <| y0 rfl (o_move (d := .int .i64 v1) rfl) ?_
   obtain ⟨v2, hv2, h⟩ := bindE h
   refine y0 rfl (o_ixL (f := slab_Cell_store_Obj.Pv) (cs := slab_Cell_store_Obj.Pc v2) hv2 rfl rfl Ty.e22 Ty.s85 rfl rfl) <| y0 rfl (o_loadRA (cs := slab_Cell_store_Obj.Pc v2) rfl Ty.a85 Ty.s85 nl rfl) <| y1 rfl (o_alloc (d := .agg [.int .i64 0, .int .i64 0, .int .i64 0, .int .i64 0, .int .i64 0, .int .i64 0, .bool false, .lst true (List.map (PV.int .i64) [])]) (z := 8) rfl Ty.z85 rfl rfl rfl) rfl <| y_sto (x' := slab_Cell_store_Obj.Pv v2) (cl' := true) rfl rfl (.inr rfl) Ty.s85 <| y_nil <| pw_seq <| dr [] Ty.mix (by kernel_rfl) (by kernel_rfl) <| d7 rfl (fun _ hN => o_fieldAddrP (k := 1) rfl Ty.f85_1 rfl) rfl ?_
   refine d0 rfl (o_loadS rfl rfl rfl Ty.a3 rfl) rfl <| d7 rfl (fun _ hN => o_move (d := .int .i64 a1) rfl) rfl ?_
   obtain ⟨v3, hv3, h⟩ := bindE h
   refine d2 rfl (o_call (ds := [.int .i64 a1]) rfl Ty.k123 rfl (handle_Gen_ok hv3)) rfl <| d7 rfl (fun _ hN => o_cmp rfl rfl rfl) rfl <| d7 rfl (fun _ hN => o_move (d := .bool (v2.Gen != v3)) rfl) rfl <| d_if7 (g := ((v2.Gen != v3) == false)) rfl (fun hg _ hN => o_fieldAddrP (k := 0) rfl Ty.f85_0 rfl) rfl <| d_if0 (g := ((v2.Gen != v3) == false)) rfl (fun hg => o_loadS (ct hg) rfl rfl Ty.a3 rfl) rfl <| d_if7 (g := ((v2.Gen != v3) == false)) rfl (fun hg _ hN => o_cmp (ct hg) rfl rfl) rfl <| d_if7 (g := ((v2.Gen != v3) == false)) rfl (fun hg _ hN => o_move (d := .bool (v2.State != 1)) (ct hg)) rfl <| d_if7 (g := (((v2.Gen != v3) == false) && ((v2.State != 1) == true))) (want2 rfl rfl rfl) (fun hg _ hN => o_fieldAddrP (k := 0) rfl Ty.f85_0 rfl) rfl ?_
   refine d_if0 (g := (((v2.Gen != v3) == false) && ((v2.State != 1) == true))) (want2 rfl rfl rfl) (fun hg => o_loadS (ct hg) rfl rfl Ty.a3 rfl) rfl <| d_if7 (g := (((v2.Gen != v3) == false) && ((v2.State != 1) == true))) (want2 rfl rfl rfl) (fun hg _ hN => o_cmp (ct hg) rfl rfl) rfl <| d_if7 (g := ((v2.Gen != v3) == false)) rfl (fun hg _ hN => pk_and (ct hg) rfl rfl (fun q => andI hg (eqT q))) rfl <| d7 rfl (fun _ hN => pk_or rfl rfl rfl (fun q => eqF q)) rfl <| d_nil ?_
   refine pw_cond ((v2.Gen != v3) || ((v2.State != 1) && (v2.State != 2))) rfl (fun hc => ?_) (fun hc => ?_)
   ·have h := ifT h hc
    refine sR <| y0 rfl (o_assign (d := .int .i64 (-1)) rfl) <| y0 rfl (o_assign (d := .int .i64 3) rfl) <| y_nil <| pw_ret ?_
    obtain rfl := Option.some.inj h
    exact ⟨rfl, [_, _], ⟨rfl, ⟨rfl, trivial⟩⟩, rfl, io⟩
   ·have h := ifF h hc
    refine pw_skip <| sR <| y0 rfl (o_move (d := .int .i64 v1) rfl) <| y0 rfl (o_assign (d := .int .i64 v1) rfl) <| y0 rfl (o_assign (d := .int .i64 0) rfl) <| y_nil <| pw_ret ?_
    obtain rfl := Option.some.inj h
    exact ⟨rfl, [_, _], ⟨rfl, ⟨rfl, trivial⟩⟩, rfl, io⟩

theorem slab_Get_store_Obj_ok {a0 : slab_Slab_store_Obj} {a1 : Int} {r : store_Obj × Int} (h : slab_Get_store_Obj a0 a1 = some r) : PCalls Try.prog 66 [slab_Slab_store_Obj.Pv a0, .int .i64 a1] (.tup [store_Obj.Pv r.1, .int .i64 r.2]) := by
 unfold slab_Get_store_Obj at h
 refine pc_intro (N := 33) Try.func66 rfl rfl nl fun w0 imm0 => sR <| y1 rfl (o_box (d := slab_Slab_store_Obj.Pv a0) (z := 2) (cl := true) rfl rfl rfl rfl rfl) rfl <| y1 rfl (o_alloc (d := .agg [.int .i64 0, .int .i64 0, .int .i64 0, .int .i64 0, .bool false, .lst true (List.map (PV.int .i64) [])]) (z := 6) rfl Ty.z29 rfl rfl rfl) rfl <| y0 rfl (o_assign (d := .int .i64 0) rfl) <| y_nil <| sR <| y1 rfl (o_alloc (d := .agg [.int .i64 0, .int .i64 0, .int .i64 0, .int .i64 0, .bool false, .lst true (List.map (PV.int .i64) [])]) (z := 6) rfl Ty.z29 rfl rfl rfl) rfl ?_
 refine y_nil <| sR <| y0 rfl (o_loadA (cs := slab_Slab_store_Obj.Pc a0) rfl rfl rfl Ty.a24 Ty.s24 nl rfl) <| y0 rfl (o_move (d := .int .i64 a1) rfl) ?_
 obtain ⟨v1, hv1, h⟩ := bindE h
 refine y0 rfl (o_call (ds := [slab_Slab_store_Obj.Pv a0, .int .i64 a1]) rfl Ty.k99 rfl (slab_Find_store_Obj_ok hv1)) <| y0 rfl (o_move (d := .tup [.int .i64 v1.1, .int .i64 v1.2]) rfl) <| y0 rfl (o_extract rfl rfl) <| y0 rfl (o_extract rfl rfl) <| y0 rfl (o_assign (d := .int .i64 v1.1) rfl) <| y0 rfl (o_assign (d := .int .i64 v1.2) rfl) <| y_nil <| pw_seq ?_
 refine sR <| y0 rfl (o_move (d := .int .i64 v1.2) rfl) <| y0 rfl (o_cmp rfl rfl rfl) <| y_nil ?_
 refine pw_cond (v1.2 != 0) rfl (fun hc => ?_) (fun hc => ?_)
 ·have h := ifT h hc
  refine sR <| y0 rfl (o_loadA (cs := [.int .i64 0, .int .i64 0, .int .i64 0, .int .i64 0, .bool false, .lst true (List.map (PV.int .i64) [])]) rfl rfl rfl Ty.a29 Ty.s29 nl rfl) <| y0 rfl (o_move (d := .int .i64 v1.2) rfl) <| y_sto (x' := .agg [.int .i64 0, .int .i64 0, .int .i64 0, .int .i64 0, .bool false, .lst true (List.map (PV.int .i64) [])]) (cl' := true) rfl rfl (.inl rfl) Ty.s29 <| y0 rfl (o_assign (d := .int .i64 v1.2) rfl) <| y_nil <| pw_ret ?_
  obtain rfl := Option.some.inj h
  exact ⟨rfl, [_, _], ⟨o_loadA rfl rfl rfl Ty.a29 Ty.s29 nl rfl, ⟨rfl, trivial⟩⟩, rfl, io⟩
 ·have h := ifF h hc
  refine pw_skip <| pw_seq <| sR <| y0 rfl (o_fieldAddrP (k := 0) rfl Ty.f24_0 rfl) <| y0 rfl (o_loadS rfl rfl rfl Ty.a22 rfl) <| y0 rfl (o_move (d := .int .i64 v1.1) rfl) ?_
  obtain ⟨v2, hv2, h⟩ := bindE h
  refine y0 rfl (o_ixL (f := slab_Cell_store_Obj.Pv) (cs := slab_Cell_store_Obj.Pc v2) hv2 rfl rfl Ty.e22 Ty.s85 rfl rfl) <| y0 rfl (o_fieldAddrR rfl Ty.f85_0 rfl) <| y0 rfl (o_loadRS rfl Ty.a3 rfl) <| y0 rfl (o_cmp rfl rfl rfl) <| y_nil ?_
  refine pw_cond (v2.State == 2) rfl (fun hc => ?_) (fun hc => ?_)
  ·have h := ifT h hc
   refine sR <| y0 rfl (o_loadA (cs := [.int .i64 0, .int .i64 0, .int .i64 0, .int .i64 0, .bool false, .lst true (List.map (PV.int .i64) [])]) rfl rfl rfl Ty.a29 Ty.s29 nl rfl) <| y_sto (x' := .agg [.int .i64 0, .int .i64 0, .int .i64 0, .int .i64 0, .bool false, .lst true (List.map (PV.int .i64) [])]) (cl' := true) rfl rfl (.inl rfl) Ty.s29 <| y0 rfl (o_assign (d := .int .i64 3) rfl) <| y_nil <| pw_ret ?_
   obtain rfl := Option.some.inj h
   exact ⟨rfl, [_, _], ⟨o_loadA rfl rfl rfl Ty.a29 Ty.s29 nl rfl, ⟨rfl, trivial⟩⟩, rfl, io⟩
  ·have h := ifF h hc
   refine pw_skip <| sR <| y0 rfl (o_fieldAddrP (k := 0) rfl Ty.f24_0 rfl) <| y0 rfl (o_loadS rfl rfl rfl Ty.a22 rfl) <| y0 rfl (o_move (d := .int .i64 v1.1) rfl) <| y0 rfl (o_ixL (f := slab_Cell_store_Obj.Pv) (cs := slab_Cell_store_Obj.Pc v2) hv2 rfl rfl Ty.e22 Ty.s85 rfl rfl) <| y0 rfl (o_fieldAddrR rfl Ty.f85_2 rfl) <| y0 rfl (o_loadRA (cs := store_Obj.Pc v2.Val) rfl Ty.a29 Ty.s29 nl rfl) ?_
   refine y_sto (x' := store_Obj.Pv v2.Val) (cl' := true) rfl rfl (.inr rfl) Ty.s29 <| y0 rfl (o_assign (d := .int .i64 0) rfl) <| y_nil <| pw_ret ?_
   obtain rfl := Option.some.inj h
   exact ⟨rfl, [_, _], ⟨o_loadA rfl rfl rfl Ty.a29 Ty.s29 nl rfl, ⟨rfl, trivial⟩⟩, rfl, io⟩

theorem store_Get_ok {a0 : store_Store} {a1 : Int} {r : store_Obj × Int} (h : store_Get a0 a1 = some r) : PCalls Try.prog 24 [store_Store.Pv a0, .int .i64 a1] (.tup [store_Obj.Pv r.1, .int .i64 r.2]) := by
 unfold store_Get at h
 refine pc_intro (N := 12) Try.func24 rfl rfl nl fun w0 imm0 => sR <| y1 rfl (o_box (d := store_Store.Pv a0) (z := 3) (cl := true) rfl rfl rfl rfl rfl) rfl <| y1 rfl (o_alloc (d := .agg [.int .i64 0, .int .i64 0, .int .i64 0, .int .i64 0, .bool false, .lst true (List.map (PV.int .i64) [])]) (z := 6) rfl Ty.z29 rfl rfl rfl) rfl <| y0 rfl (o_assign (d := .int .i64 0) rfl) <| y_nil <| sR <| y0 rfl (o_fieldAddrP (k := 0) rfl Ty.f26_0 rfl) ?_
 refine y0 rfl (o_loadA (cs := slab_Slab_store_Obj.Pc a0.S) rfl rfl rfl Ty.a24 Ty.s24 nl rfl) <| y0 rfl (o_move (d := .int .i64 a1) rfl) ?_
 obtain ⟨v1, hv1, h⟩ := bindE h
 refine yc rfl (o_callF (ls := []) (ds := [slab_Slab_store_Obj.Pv a0.S, .int .i64 a1]) rfl Ty.k66 rfl (slab_Get_store_Obj_ok hv1)) <| y0 rfl (o_extract rfl rfl) <| y0 rfl (o_extract rfl rfl) <| y_sto (x' := store_Obj.Pv v1.1) (cl' := true) rfl rfl (.inr rfl) Ty.s29 <| y0 rfl (o_assign (d := .int .i64 v1.2) rfl) <| y_nil <| pw_ret ?_
 obtain rfl := Option.some.inj h
 exact ⟨rfl, [_, _], ⟨o_loadA rfl rfl rfl Ty.a29 Ty.s29 nl rfl, ⟨rfl, trivial⟩⟩, rfl, io⟩

theorem vec_has_ok {a0 : List Int} {a1 : Int} {r : Bool} (h : vec_has a0 a1 = some r) : PCalls Try.prog 121 [.lst false (List.map (PV.int .i64) a0), .int .i64 a1] (.bool r) := by
 unfold vec_has at h
 refine pc_intro (N := 13) Try.func121 rfl rfl nl fun w0 imm0 => sR <| y0 rfl (o_assign (d := .bool false) rfl) <| y_nil <| sR <| y0 rfl (o_move (d := .int .i64 a1) rfl) <| y0 rfl (o_cmp rfl rfl rfl) <| y0 rfl (o_move (d := .bool (decide (a1 ≥ 0))) rfl) ?_
 refine y_if (g := ((decide (a1 ≥ 0)) == true)) rfl (fun hg => o_move (d := .int .i64 a1) rfl) <| y_if (g := ((decide (a1 ≥ 0)) == true)) rfl (fun hg => o_move (d := .lst false (List.map (PV.int .i64) a0)) rfl) <| y_if (g := ((decide (a1 ≥ 0)) == true)) rfl (fun hg => o_lnL (f := (PV.int .i64)) (ct hg) Ty.e27) <| y_if (g := ((decide (a1 ≥ 0)) == true)) rfl (fun hg => o_cmp (ct hg) (ct hg) rfl) <| y0 rfl (pk_and rfl rfl rfl (fun q => eqT q)) <| y0 rfl (o_assign (d := .bool ((decide (a1 ≥ 0)) && (decide (a1 < (a0.length : Int))))) rfl) <| y_nil <| pw_ret ?_
 obtain rfl := Option.some.inj h
 exact ⟨rfl, [_], ⟨rfl, trivial⟩, rfl, io⟩

theorem vec_With_ok {a0 : List Int} {a1 : Int} {a2 : Int} {r : (List Int) × Int} (h : vec_With a0 a1 a2 = some r) : PCalls Try.prog 97 [.lst false (List.map (PV.int .i64) a0), .int .i64 a1, .int .i64 a2] (.tup [.lst false (List.map (PV.int .i64) r.1), .int .i64 r.2]) := by
 unfold vec_With at h
 refine pc_intro (N := 25) Try.func97 rfl rfl nl fun w0 imm0 => sR <| y0 rfl (o_assign (d := .lst true (List.map (PV.int .i64) [])) rfl) <| y0 rfl (o_assign (d := .int .i64 0) rfl) <| y_nil <| pw_seq <| sR <| y0 rfl (o_move (d := .lst false (List.map (PV.int .i64) a0)) rfl) ?_
 refine y0 rfl (o_move (d := .int .i64 a1) rfl) ?_
 obtain ⟨v1, hv1, h⟩ := bindE h
 refine y0 rfl (o_call (ds := [.lst false (List.map (PV.int .i64) a0), .int .i64 a1]) rfl Ty.k121 rfl (vec_has_ok hv1)) <| y0 rfl (o_not rfl rfl) <| y_nil ?_
 refine pw_cond (!v1) rfl (fun hc => ?_) (fun hc => ?_)
 ·have h := ifT h hc
  refine sR <| y0 rfl (o_move (d := .lst false (List.map (PV.int .i64) a0)) rfl) <| y0 rfl (o_assign (d := .lst false (List.map (PV.int .i64) a0)) rfl) <| y0 rfl (o_assign (d := .int .i64 5) rfl) <| y_nil <| pw_ret ?_
  obtain rfl := Option.some.inj h
  exact ⟨rfl, [_, _], ⟨rfl, ⟨rfl, trivial⟩⟩, rfl, io⟩
 ·have h := ifF h hc
  refine pw_skip <| sR <| y0 rfl (o_move (d := .lst false (List.map (PV.int .i64) a0)) rfl) <| y0 rfl (o_lnL (f := (PV.int .i64)) rfl Ty.e27) ?_
  obtain ⟨v2, hv2, h⟩ := bindE h
  refine y1 rfl (o_mk (f := (PV.int .i64)) hv2 rfl rfl rfl Ty.e27 Ty.s3 Ty.z3 Ty.b3 rfl rfl rfl) rfl <| y0 rfl (o_assign (d := .sl 16) rfl) <| y_nil <| sR <| y0 rfl (o_move (d := .sl 16) rfl) <| y0 rfl (o_move (d := .lst false (List.map (PV.int .i64) a0)) rfl) ?_
  obtain ⟨v3, hv3, h⟩ := bindE h
  refine y_cp (f := (PV.int .i64)) hv3 rfl rfl rfl (.inl ⟨_, rfl, rfl⟩) Ty.e27 Ty.s3 (fun _ => rfl) (by decide) <| y_nil <| sR <| y0 rfl (o_move (d := .sl 16) rfl) <| y0 rfl (o_move (d := .int .i64 a1) rfl) <| y0 rfl (o_move (d := .int .i64 a2) rfl) ?_
  obtain ⟨v4, hv4, h⟩ := bindE h
  refine y0 rfl (o_ixR (f := (PV.int .i64)) hv4 rfl rfl rfl rfl Ty.e27 Ty.s3 rfl) <| y_stE (f := (PV.int .i64)) (v := a2) hv4 rfl rfl (.inl rfl) Ty.s3 <| y_nil <| sR <| y0 rfl (o_move (d := .sl 16) rfl) <| y0 rfl (o_assign (d := .sl 16) rfl) <| y0 rfl (o_assign (d := .int .i64 0) rfl) <| y_nil ?_
  refine pw_ret ?_
  obtain rfl := Option.some.inj h
  exact ⟨rfl, [_, _], ⟨rfl, ⟨rfl, trivial⟩⟩, rfl, io⟩

theorem slab_Set_store_Obj_ok {a0 : slab_Slab_store_Obj} {a1 : Int} {a2 : store_Obj} {r : slab_Slab_store_Obj × Int} (h : slab_Set_store_Obj a0 a1 a2 = some r) : PCalls Try.prog 60 [slab_Slab_store_Obj.Pv a0, .int .i64 a1, store_Obj.Pv a2] (.tup [slab_Slab_store_Obj.Pv r.1, .int .i64 r.2]) := by
 unfold slab_Set_store_Obj at h
 refine pc_intro (N := 32) Try.func60 rfl rfl nl fun w0 imm0 => sR <| y1 rfl (o_box (d := slab_Slab_store_Obj.Pv a0) (z := 2) (cl := true) rfl rfl rfl rfl rfl) rfl <| y1 rfl (o_box (d := store_Obj.Pv a2) (z := 6) (cl := true) rfl rfl rfl rfl rfl) rfl <| y1 rfl (o_alloc (d := .agg [.lst true (List.map slab_Cell_store_Obj.Pv []), .int .i64 0]) (z := 2) rfl Ty.z24 rfl rfl rfl) rfl <| y0 rfl (o_assign (d := .int .i64 0) rfl) <| y_nil <| sR ?_
 refine y0 rfl (o_loadA (cs := slab_Slab_store_Obj.Pc a0) rfl rfl rfl Ty.a24 Ty.s24 nl rfl) <| y0 rfl (o_move (d := .int .i64 a1) rfl) ?_
 obtain ⟨v1, hv1, h⟩ := bindE h
 refine y0 rfl (o_call (ds := [slab_Slab_store_Obj.Pv a0, .int .i64 a1]) rfl Ty.k99 rfl (slab_Find_store_Obj_ok hv1)) <| y0 rfl (o_move (d := .tup [.int .i64 v1.1, .int .i64 v1.2]) rfl) <| y0 rfl (o_extract rfl rfl) <| y0 rfl (o_extract rfl rfl) <| y0 rfl (o_assign (d := .int .i64 v1.1) rfl) <| y0 rfl (o_assign (d := .int .i64 v1.2) rfl) <| y_nil <| pw_seq ?_
 refine sR <| y0 rfl (o_move (d := .int .i64 v1.2) rfl) <| y0 rfl (o_cmp rfl rfl rfl) <| y_nil ?_
 refine pw_cond (v1.2 != 0) rfl (fun hc => ?_) (fun hc => ?_)
 ·have h := ifT h hc
  refine sR <| y0 rfl (o_loadA (cs := slab_Slab_store_Obj.Pc a0) rfl rfl rfl Ty.a24 Ty.s24 nl rfl) <| y0 rfl (o_move (d := .int .i64 v1.2) rfl) <| y_sto (x' := slab_Slab_store_Obj.Pv a0) (cl' := true) rfl rfl (.inr rfl) Ty.s24 <| y0 rfl (o_assign (d := .int .i64 v1.2) rfl) <| y_nil <| pw_ret ?_
  obtain rfl := Option.some.inj h
  exact ⟨rfl, [_, _], ⟨o_loadA rfl rfl rfl Ty.a24 Ty.s24 nl rfl, ⟨rfl, trivial⟩⟩, rfl, io⟩
 ·have h := ifF h hc
  refine pw_skip <| sR <| y0 rfl (o_fieldAddrP (k := 0) rfl Ty.f24_0 rfl) <| y0 rfl (o_loadS rfl rfl rfl Ty.a22 rfl) <| y0 rfl (o_move (d := .int .i64 v1.1) rfl) ?_
  obtain ⟨v2, hv2, h⟩ := bindE h
  refine y0 rfl (o_ixL (f := slab_Cell_store_Obj.Pv) (cs := slab_Cell_store_Obj.Pc v2) hv2 rfl rfl Ty.e22 Ty.s85 rfl rfl) <| y0 rfl (o_loadRA (cs := slab_Cell_store_Obj.Pc v2) rfl Ty.a85 Ty.s85 nl rfl) <| y1 rfl (o_alloc (d := .agg [.int .i64 0, .int .i64 0, .int .i64 0, .int .i64 0, .int .i64 0, .int .i64 0, .bool false, .lst true (List.map (PV.int .i64) [])]) (z := 8) rfl Ty.z85 rfl rfl rfl) rfl <| y_sto (x' := slab_Cell_store_Obj.Pv v2) (cl' := true) rfl rfl (.inr rfl) Ty.s85 <| y_nil <| sR <| y0 rfl (o_loadA (cs := store_Obj.Pc a2) rfl rfl rfl Ty.a29 Ty.s29 nl rfl) <| y0 rfl (o_fieldAddrP (k := 2) rfl Ty.f85_2 rfl) ?_
  refine y_sto (x' := .agg [.int .i64 v2.State, .int .i64 v2.Gen, .int .i64 a2.Serial, .int .i64 a2.Strong, .int .i64 a2.Weak, .int .i64 a2.Prog, .bool a2.Started, .lst false (List.map (PV.int .i64) a2.Fields)]) (cl' := true) rfl rfl (.inr rfl) Ty.s29 <| y_nil <| sR <| y0 rfl (o_loadA (cs := slab_Slab_store_Obj.Pc a0) rfl rfl rfl Ty.a24 Ty.s24 nl rfl) <| y0 rfl (o_move (d := .int .i64 v1.1) rfl) <| y0 rfl (o_loadA (cs := [.int .i64 v2.State, .int .i64 v2.Gen, .int .i64 a2.Serial, .int .i64 a2.Strong, .int .i64 a2.Weak, .int .i64 a2.Prog, .bool a2.Started, .lst false (List.map (PV.int .i64) a2.Fields)]) rfl rfl rfl Ty.a85 Ty.s85 nl rfl) ?_
  obtain ⟨v3, hv3, h⟩ := bindE h
  refine yc rfl (o_callF (ls := []) (ds := [slab_Slab_store_Obj.Pv a0, .int .i64 v1.1, .agg [.int .i64 v2.State, .int .i64 v2.Gen, .int .i64 a2.Serial, .int .i64 a2.Strong, .int .i64 a2.Weak, .int .i64 a2.Prog, .bool a2.Started, .lst false (List.map (PV.int .i64) a2.Fields)]]) rfl Ty.k100 rfl (slab_with_store_Obj_ok hv3)) <| y_sto (x' := slab_Slab_store_Obj.Pv v3) (cl' := true) rfl rfl (.inr rfl) Ty.s24 <| y0 rfl (o_assign (d := .int .i64 0) rfl) <| y_nil <| pw_ret ?_
  obtain rfl := Option.some.inj h
  exact ⟨rfl, [_, _], ⟨o_loadA rfl rfl rfl Ty.a24 Ty.s24 nl rfl, ⟨rfl, trivial⟩⟩, rfl, io⟩

theorem store_Set_ok {a0 : store_Store} {a1 : Int} {a2 : store_Obj} {r : store_Store × Int} (h : store_Set a0 a1 a2 = some r) : PCalls Try.prog 18 [store_Store.Pv a0, .int .i64 a1, store_Obj.Pv a2] (.tup [store_Store.Pv r.1, .int .i64 r.2]) := by
 unfold store_Set at h
 refine pc_intro (N := 20) Try.func18 rfl rfl nl fun w0 imm0 => sR <| y1 rfl (o_box (d := store_Store.Pv a0) (z := 3) (cl := true) rfl rfl rfl rfl rfl) rfl <| y1 rfl (o_box (d := store_Obj.Pv a2) (z := 6) (cl := true) rfl rfl rfl rfl rfl) rfl <| y1 rfl (o_alloc (d := .agg [.lst true (List.map slab_Cell_store_Obj.Pv []), .int .i64 0, .int .i64 0]) (z := 3) rfl Ty.z26 rfl rfl rfl) rfl <| y0 rfl (o_assign (d := .int .i64 0) rfl) <| y_nil <| sR ?_
 refine y0 rfl (o_assign (d := .int .i64 0) rfl) <| y_nil <| sR <| y0 rfl (o_fieldAddrP (k := 0) rfl Ty.f26_0 rfl) <| y0 rfl (o_loadA (cs := slab_Slab_store_Obj.Pc a0.S) rfl rfl rfl Ty.a24 Ty.s24 nl rfl) <| y0 rfl (o_move (d := .int .i64 a1) rfl) <| y0 rfl (o_loadA (cs := store_Obj.Pc a2) rfl rfl rfl Ty.a29 Ty.s29 nl rfl) ?_
 obtain ⟨v1, hv1, h⟩ := bindE h
 refine yc rfl (o_callF (ls := []) (ds := [slab_Slab_store_Obj.Pv a0.S, .int .i64 a1, store_Obj.Pv a2]) rfl Ty.k60 rfl (slab_Set_store_Obj_ok hv1)) <| y0 rfl (o_move (d := .tup [slab_Slab_store_Obj.Pv v1.1, .int .i64 v1.2]) rfl) <| y0 rfl (o_extract rfl rfl) <| y0 rfl (o_extract rfl rfl) <| y0 rfl (o_fieldAddrP (k := 0) rfl Ty.f26_0 rfl) <| y_sto (x' := .agg [.lst false (List.map slab_Cell_store_Obj.Pv v1.1.Cells), .int .i64 v1.1.Last, .int .i64 a0.Serial]) (cl' := true) rfl rfl (.inr rfl) Ty.s24 <| y0 rfl (o_assign (d := .int .i64 v1.2) rfl) <| y_nil ?_
 refine sR <| y0 rfl (o_loadA (cs := [.lst false (List.map slab_Cell_store_Obj.Pv v1.1.Cells), .int .i64 v1.1.Last, .int .i64 a0.Serial]) rfl rfl rfl Ty.a26 Ty.s26 nl rfl) <| y0 rfl (o_move (d := .int .i64 v1.2) rfl) <| y_sto (x' := .agg [.lst false (List.map slab_Cell_store_Obj.Pv v1.1.Cells), .int .i64 v1.1.Last, .int .i64 a0.Serial]) (cl' := true) rfl rfl (.inr rfl) Ty.s26 <| y0 rfl (o_assign (d := .int .i64 v1.2) rfl) <| y_nil <| pw_ret ?_
 obtain rfl := Option.some.inj h
 exact ⟨rfl, [_, _], ⟨o_loadA rfl rfl rfl Ty.a26 Ty.s26 nl rfl, ⟨rfl, trivial⟩⟩, rfl, io⟩

theorem store_Put_ok {a0 : store_Store} {a1 : Int} {a2 : Int} {a3 : Int} {r : store_Store × Int} (h : store_Put a0 a1 a2 a3 = some r) : PCalls Try.prog 58 [store_Store.Pv a0, .int .i64 a1, .int .i64 a2, .int .i64 a3] (.tup [store_Store.Pv r.1, .int .i64 r.2]) := by
 unfold store_Put at h
 refine pc_intro (N := 41) Try.func58 rfl rfl nl fun w0 imm0 => sR <| y1 rfl (o_box (d := store_Store.Pv a0) (z := 3) (cl := true) rfl rfl rfl rfl rfl) rfl <| y1 rfl (o_alloc (d := .agg [.lst true (List.map slab_Cell_store_Obj.Pv []), .int .i64 0, .int .i64 0]) (z := 3) rfl Ty.z26 rfl rfl rfl) rfl <| y0 rfl (o_assign (d := .int .i64 0) rfl) <| y_nil <| sR <| y0 rfl (o_loadA (cs := store_Store.Pc a0) rfl rfl rfl Ty.a26 Ty.s26 nl rfl) ?_
 refine y0 rfl (o_move (d := .int .i64 a1) rfl) ?_
 obtain ⟨v1, hv1, h⟩ := bindE h
 refine yc rfl (o_callF (ls := []) (ds := [store_Store.Pv a0, .int .i64 a1]) rfl Ty.k24 rfl (store_Get_ok hv1)) <| y0 rfl (o_move (d := .tup [store_Obj.Pv v1.1, .int .i64 v1.2]) rfl) <| y0 rfl (o_extract rfl rfl) <| y0 rfl (o_extract rfl rfl) <| y1 rfl (o_alloc (d := .agg [.int .i64 0, .int .i64 0, .int .i64 0, .int .i64 0, .bool false, .lst true (List.map (PV.int .i64) [])]) (z := 6) rfl Ty.z29 rfl rfl rfl) rfl <| y_sto (x' := store_Obj.Pv v1.1) (cl' := true) rfl rfl (.inr rfl) Ty.s29 <| y0 rfl (o_assign (d := .int .i64 v1.2) rfl) <| y_nil ?_
 refine pw_seq <| sR <| y0 rfl (o_move (d := .int .i64 v1.2) rfl) <| y0 rfl (o_cmp rfl rfl rfl) <| y_nil ?_
 refine pw_cond (v1.2 != 0) rfl (fun hc => ?_) (fun hc => ?_)
 ·have h := ifT h hc
  refine sR <| y0 rfl (o_loadA (cs := store_Store.Pc a0) rfl rfl rfl Ty.a26 Ty.s26 nl rfl) <| y0 rfl (o_move (d := .int .i64 v1.2) rfl) <| y_sto (x' := store_Store.Pv a0) (cl' := true) rfl rfl (.inr rfl) Ty.s26 <| y0 rfl (o_assign (d := .int .i64 v1.2) rfl) <| y_nil <| pw_ret ?_
  obtain rfl := Option.some.inj h
  exact ⟨rfl, [_, _], ⟨o_loadA rfl rfl rfl Ty.a26 Ty.s26 nl rfl, ⟨rfl, trivial⟩⟩, rfl, io⟩
 ·have h := ifF h hc
  refine pw_skip <| pw_seq <| sR <| y0 rfl (o_fieldAddrP (k := 5) rfl Ty.f29_5 rfl) <| y0 rfl (o_loadS rfl rfl rfl Ty.a27 rfl) <| y0 rfl (o_move (d := .int .i64 a2) rfl) <| y0 rfl (o_move (d := .int .i64 a3) rfl) ?_
  obtain ⟨v2, hv2, h⟩ := bindE h
  refine yc rfl (o_callF (ls := []) (ds := [.lst false (List.map (PV.int .i64) v1.1.Fields), .int .i64 a2, .int .i64 a3]) rfl Ty.k97 rfl (vec_With_ok hv2)) <| y0 rfl (o_move (d := .tup [.lst false (List.map (PV.int .i64) v2.1), .int .i64 v2.2]) rfl) <| y0 rfl (o_extract rfl rfl) <| y0 rfl (o_extract rfl rfl) <| y0 rfl (o_fieldAddrP (k := 5) rfl Ty.f29_5 rfl) <| y_sto (x' := .agg [.int .i64 v1.1.Serial, .int .i64 v1.1.Strong, .int .i64 v1.1.Weak, .int .i64 v1.1.Prog, .bool v1.1.Started, .lst false (List.map (PV.int .i64) v2.1)]) (cl' := true) rfl rfl (.inr rfl) Ty.s27 <| y0 rfl (o_assign (d := .int .i64 v2.2) rfl) <| y_nil ?_
  refine sR <| y0 rfl (o_move (d := .int .i64 v2.2) rfl) <| y0 rfl (o_cmp rfl rfl rfl) <| y_nil ?_
  refine pw_cond (v2.2 != 0) rfl (fun hc => ?_) (fun hc => ?_)
  ·have h := ifT h hc
   refine sR <| y0 rfl (o_loadA (cs := store_Store.Pc a0) rfl rfl rfl Ty.a26 Ty.s26 nl rfl) <| y0 rfl (o_move (d := .int .i64 v2.2) rfl) <| y_sto (x' := store_Store.Pv a0) (cl' := true) rfl rfl (.inr rfl) Ty.s26 <| y0 rfl (o_assign (d := .int .i64 v2.2) rfl) <| y_nil <| pw_ret ?_
   obtain rfl := Option.some.inj h
   exact ⟨rfl, [_, _], ⟨o_loadA rfl rfl rfl Ty.a26 Ty.s26 nl rfl, ⟨rfl, trivial⟩⟩, rfl, io⟩
  ·have h := ifF h hc
   refine pw_skip <| sR <| y0 rfl (o_loadA (cs := store_Store.Pc a0) rfl rfl rfl Ty.a26 Ty.s26 nl rfl) <| y0 rfl (o_move (d := .int .i64 a1) rfl) <| y0 rfl (o_loadA (cs := [.int .i64 v1.1.Serial, .int .i64 v1.1.Strong, .int .i64 v1.1.Weak, .int .i64 v1.1.Prog, .bool v1.1.Started, .lst false (List.map (PV.int .i64) v2.1)]) rfl rfl rfl Ty.a29 Ty.s29 nl rfl) ?_
   obtain ⟨v3, hv3, h⟩ := bindE h
   refine yc rfl (o_callF (ls := []) (ds := [store_Store.Pv a0, .int .i64 a1, .agg [.int .i64 v1.1.Serial, .int .i64 v1.1.Strong, .int .i64 v1.1.Weak, .int .i64 v1.1.Prog, .bool v1.1.Started, .lst false (List.map (PV.int .i64) v2.1)]]) rfl Ty.k18 rfl (store_Set_ok hv3)) <| y0 rfl (o_extract rfl rfl) <| y0 rfl (o_extract rfl rfl) <| y_sto (x' := store_Store.Pv v3.1) (cl' := true) rfl rfl (.inr rfl) Ty.s26 <| y0 rfl (o_assign (d := .int .i64 v3.2) rfl) <| y_nil <| pw_ret ?_
   obtain rfl := Option.some.inj h
   exact ⟨rfl, [_, _], ⟨o_loadA rfl rfl rfl Ty.a26 Ty.s26 nl rfl, ⟨rfl, trivial⟩⟩, rfl, io⟩

theorem cmp_isNaN_int_ok {a0 : Int} {r : Bool} (h : cmp_isNaN_int a0 = some r) : PCalls Try.prog 110 [.int .i64 a0] (.bool r) := by
 unfold cmp_isNaN_int at h
 refine pc_intro (N := 6) Try.func110 rfl rfl nl fun w0 imm0 => sR <| y0 rfl (o_assign (d := .bool false) rfl) <| y_nil <| sR <| y0 rfl (o_move (d := .int .i64 a0) rfl) <| y0 rfl (o_move (d := .int .i64 a0) rfl) <| y0 rfl (o_cmp rfl rfl rfl) ?_
 refine y0 rfl (o_assign (d := .bool (a0 != a0)) rfl) <| y_nil <| pw_ret ?_
 obtain rfl := Option.some.inj h
 exact ⟨rfl, [_], ⟨rfl, trivial⟩, rfl, io⟩

theorem cmp_Compare_int_ok {a0 : Int} {a1 : Int} {r : Int} (h : cmp_Compare_int a0 a1 = some r) : PCalls Try.prog 74 [.int .i64 a0, .int .i64 a1] (.int .i64 r) := by
 unfold cmp_Compare_int at h
 refine pc_intro (N := 20) Try.func74 rfl rfl nl fun w0 imm0 => sR <| y0 rfl (o_assign (d := .int .i64 0) rfl) <| y_nil <| sR <| y0 rfl (o_move (d := .int .i64 a0) rfl) ?_
 obtain ⟨v1, hv1, h⟩ := bindE h
 refine y0 rfl (o_call (ds := [.int .i64 a0]) rfl Ty.k110 rfl (cmp_isNaN_int_ok hv1)) <| y0 rfl (o_assign (d := .bool v1) rfl) <| y_nil <| sR <| y0 rfl (o_move (d := .int .i64 a1) rfl) ?_
 obtain ⟨v2, hv2, h⟩ := bindE h
 refine y0 rfl (o_call (ds := [.int .i64 a1]) rfl Ty.k110 rfl (cmp_isNaN_int_ok hv2)) <| y0 rfl (o_assign (d := .bool v2) rfl) <| y_nil <| pw_seq <| sR <| y0 rfl (o_move (d := .bool v1) rfl) <| y_nil ?_
 refine pw_cond v1 rfl (fun hc => ?_) (fun hc => ?_)
 ·have h := ifT h hc
  refine pw_seq <| sR <| y0 rfl (o_move (d := .bool v2) rfl) <| y_nil ?_
  refine pw_cond v2 rfl (fun hc => ?_) (fun hc => ?_)
  ·have h := ifT h hc
   refine sR <| y0 rfl (o_assign (d := .int .i64 0) rfl) <| y_nil <| pw_ret ?_
   obtain rfl := Option.some.inj h
   exact ⟨rfl, [_], ⟨rfl, trivial⟩, rfl, io⟩
  ·have h := ifF h hc
   refine pw_skip <| sR <| y0 rfl (o_assign (d := .int .i64 (-1)) rfl) <| y_nil <| pw_ret ?_
   obtain rfl := Option.some.inj h
   exact ⟨rfl, [_], ⟨rfl, trivial⟩, rfl, io⟩
 ·have h := ifF h hc
  refine pw_skip <| pw_seq <| sR <| y0 rfl (o_move (d := .bool v2) rfl) <| y_nil ?_
  refine pw_cond v2 rfl (fun hc => ?_) (fun hc => ?_)
  ·have h := ifT h hc
   refine sR <| y0 rfl (o_assign (d := .int .i64 1) rfl) <| y_nil <| pw_ret ?_
   obtain rfl := Option.some.inj h
   exact ⟨rfl, [_], ⟨rfl, trivial⟩, rfl, io⟩
  ·have h := ifF h hc
   refine pw_skip <| pw_seq <| sR <| y0 rfl (o_move (d := .int .i64 a0) rfl) <| y0 rfl (o_move (d := .int .i64 a1) rfl) <| y0 rfl (o_cmp rfl rfl rfl) <| y_nil ?_
   refine pw_cond (decide (a0 < a1)) rfl (fun hc => ?_) (fun hc => ?_)
   ·have h := ifT h hc
    refine sR <| y0 rfl (o_assign (d := .int .i64 (-1)) rfl) <| y_nil <| pw_ret ?_
    obtain rfl := Option.some.inj h
    exact ⟨rfl, [_], ⟨rfl, trivial⟩, rfl, io⟩
   ·have h := ifF h hc
    refine pw_skip <| pw_seq <| sR <| y0 rfl (o_move (d := .int .i64 a0) rfl) <| y0 rfl (o_move (d := .int .i64 a1) rfl) <| y0 rfl (o_cmp rfl rfl rfl) <| y_nil ?_
    refine pw_cond (decide (a0 > a1)) rfl (fun hc => ?_) (fun hc => ?_)
    ·have h := ifT h hc
     refine sR <| y0 rfl (o_assign (d := .int .i64 1) rfl) <| y_nil <| pw_ret ?_
     obtain rfl := Option.some.inj h
     exact ⟨rfl, [_], ⟨rfl, trivial⟩, rfl, io⟩
    ·have h := ifF h hc
     refine pw_skip <| sR <| y0 rfl (o_assign (d := .int .i64 0) rfl) <| y_nil <| pw_ret ?_
     obtain rfl := Option.some.inj h
     exact ⟨rfl, [_], ⟨rfl, trivial⟩, rfl, io⟩

theorem store_Live_1_ok {a0 : Int} {a1 : Int} {a2 : List (Int × Int)} {r : Int} (h : store_Live_1 a0 a1 a2 = some r) : PCalls Try.prog 73 [.int .i64 a0, .int .i64 a1, .rptr [.abs (ImMap (List.map (ent (PV.int .i64) (PV.int .i64)) a2))]] (.int .i64 r) := by
 unfold store_Live_1 at h
 refine pc_intro (N := 13) Try.func73 rfl rfl nl fun w0 imm0 => sR <| y0 rfl (o_assign (d := .int .i64 0) rfl) <| y_nil <| sR <| y0 rfl (o_loadRS rfl Ty.a98 rfl) <| y0 rfl (o_move (d := .int .i64 a0) rfl) <| y0 rfl (o_lkI (es := a2) (k := a0) (E := (PV.int .i64)) (EK := (PV.int .i64)) (d := .int .i64 ((mget a2 a0).getD (0 : Int))) rfl rfl Ty.mm98 (keyT_int Ty.u3) Ty.z3 rfl (lk1 _ _ _)) ?_
 refine y0 rfl (o_loadRS rfl Ty.a98 rfl) <| y0 rfl (o_move (d := .int .i64 a1) rfl) <| y0 rfl (o_lkI (es := a2) (k := a1) (E := (PV.int .i64)) (EK := (PV.int .i64)) (d := .int .i64 ((mget a2 a1).getD (0 : Int))) rfl rfl Ty.mm98 (keyT_int Ty.u3) Ty.z3 rfl (lk1 _ _ _)) ?_
 obtain ⟨v1, hv1, h⟩ := bindE h
 refine y0 rfl (o_call (ds := [.int .i64 ((mget a2 a0).getD (0 : Int)), .int .i64 ((mget a2 a1).getD (0 : Int))]) rfl Ty.k74 rfl (cmp_Compare_int_ok hv1)) <| y0 rfl (o_assign (d := .int .i64 v1) rfl) <| y_nil <| pw_ret ?_
 obtain rfl := Option.some.inj h
 exact ⟨rfl, [_], ⟨rfl, trivial⟩, rfl, io⟩

theorem store_Live_ok {a0 : store_Store} {r : List Int} (h : store_Live a0 = some r) : PCalls Try.prog 30 [store_Store.Pv a0] (.lst false (List.map (PV.int .i64) r)) := by
 unfold store_Live at h
 refine pc_intro (N := 39) Try.func30 rfl rfl nl fun w0 imm0 => sR <| y1 rfl (o_box (d := store_Store.Pv a0) (z := 3) (cl := true) rfl rfl rfl rfl rfl) rfl <| y0 rfl (o_assign (d := .lst true (List.map (PV.int .i64) [])) rfl) <| y_nil <| sR <| y0 rfl (o_assign (d := .lst true (List.map (PV.int .i64) [])) rfl) <| y_nil ?_
 refine sR <| y_mkM (KT := Int) (VT := Int) (EK := (PV.int .i64)) (E := (PV.int .i64)) 5000008 rfl rfl <| y1 rfl (o_alloc (d := .abs NilMap) (z := 1) rfl Ty.z98 rfl rfl rfl) rfl <| y_sto (x' := .mp 5000008) (cl' := false) rfl rfl (.inl rfl) Ty.s98 <| y_nil ?_
 obtain ⟨κ17, hκ11, h⟩ := jnE h
 refine pw_jn0 (κ := κ17) (r := r) (fun (q : (List (Int × Int)) × (List Int)) => St.of [(3, .sl 910003), (4, .ptr 4 0 0)] [(4, ⟨[.mp 5000008], 0, false, 1, false⟩), (5000008, ⟨[.mapc (List.map (ent (PV.int .i64) (PV.int .i64)) q.1)], 0, false, 0, false⟩), (910003, ⟨List.map (PV.int .i64) q.2, 0, true, 1, true⟩)]) (fun q20 h => ?_) ?_
 ·subst hκ11
  obtain ⟨j18, j19⟩ := q20
  refine sR <| y0 rfl (o_move (d := .sl 910003) rfl) <| y0 rfl (o_mkFunc rfl) <| y_wk (Wk.trans (wk_mfz0 5000008 nl rfl) (wk_mvC 4 0 5000008 rfl rfl rfl rfl)) ?_
  obtain ⟨v21, hv12, h⟩ := bindE h
  refine y_sort hv12 rfl rfl Ty.k72 sortAt rfl rfl rfl Ty.k73 rfl rfl rfl rfl rfl (fun p q r h => store_Live_1_ok h) <| y_nil <| sR <| y0 rfl (o_move (d := .sl 910003) rfl) <| y0 rfl (o_assign (d := .sl 910003) rfl) <| y_nil <| pw_ret ?_
  obtain rfl := Option.some.inj h
  exact ⟨rfl, [_], ⟨rfl, trivial⟩, rfl, io⟩
 ·skip
  refine sR <| y0 rfl (o_fieldAddrP (k := 0) rfl Ty.f26_0 rfl) <| y0 rfl (o_fieldAddrP (k := 0) rfl Ty.f24_0 rfl) <| y0 rfl (o_loadS rfl rfl rfl Ty.a22 rfl) <| y0 rfl (o_lnL (f := slab_Cell_store_Obj.Pv) rfl Ty.e22) <| y0 rfl (o_move (d := .int .i64 0) rfl) <| y_nil <| pw_block ?_
  obtain ⟨e22, hl13, hk14⟩ := bindE h
  refine pw_lp0 (fun (q : Int × (List (Int × Int)) × (List Int)) => St.of [(3, .sl 910003), (4, .ptr 4 0 0), (11, .lst false (List.map slab_Cell_store_Obj.Pv a0.S.Cells)), (12, .int .i64 (a0.S.Cells.length : Int)), (13, .int .i64 q.1)] [(4, ⟨[.mp 5000008], 0, false, 1, false⟩), (5000008, ⟨[.mapc (List.map (ent (PV.int .i64) (PV.int .i64)) q.2.1)], 0, false, 0, false⟩), (910003, ⟨List.map (PV.int .i64) q.2.2, 0, true, 1, true⟩)]) hl13 (Wk.trans (wk_nil (t := 3) (l := 920003) (z := 1) rfl rfl) (wk_stP (fun l => if l = 910003 then 920003 else l) _ _ ⟨rfl, rfl, rfl, rfl, rfl, rfl, rfl, rfl, rfl, rfl, rfl, rfl, rfl, rfl, rfl, trivial⟩ ⟨rowLe_open rfl rfl rfl (fun q => nomatch q) rfl rfl rfl rfl, rowLe_open rfl rfl rfl (fun q => nomatch q) rfl rfl rfl rfl, rN, trivial⟩ rfl)) (fun q27 x26 h hx15 => ?_)
  obtain ⟨s23, s24, s25⟩ := q27
  refine sR <| y0 rfl (o_cmp rfl rfl rfl) <| y_nil <| pw_seq ?_
  refine pw_cond (decide (s23 < (a0.S.Cells.length : Int))) rfl (fun hc => ?_) (fun hc => ?_)
  ·have h := ifT h hc
   refine pw_skip ?_
   obtain ⟨κ31, hκ19, h⟩ := jnE h
   refine pw_jn0 (κ := κ31) (r := x26) (fun (q : (List (Int × Int)) × (List Int)) => St.of [(3, .sl 33), (4, .ptr 4 0 0), (11, .lst false (List.map slab_Cell_store_Obj.Pv a0.S.Cells)), (12, .int .i64 (a0.S.Cells.length : Int)), (13, .int .i64 s23)] [(4, ⟨[.mp 5000008], 0, false, 1, false⟩), (5000008, ⟨[.mapc (List.map (ent (PV.int .i64) (PV.int .i64)) q.1)], 0, false, 0, false⟩), (33, ⟨List.map (PV.int .i64) q.2, 0, true, 1, true⟩)]) (fun q34 h => ?_) ?_
   ·subst hκ19
    obtain ⟨j32, j33⟩ := q34
    refine sr1 (by kernel_rfl) <| y0 rfl (o_ari rfl rfl rfl) <| y0 rfl (o_move (d := .int .i64 (w64 (s23 + 1))) rfl) <| y_nil ?_
    exact ⟨rfl, (w64 (s23 + 1), j32, j33), (Option.some.inj h).symm, (wk_stP (fun l => if l = 910003 then 33 else l) _ _ ⟨rfl, rfl, rfl, rfl, rfl, rfl, rfl, rfl, rfl, rfl, rfl, rfl, rfl, rfl, rfl, trivial⟩ ⟨rowLe_open rfl rfl rfl (fun q => nomatch q) rfl rfl rfl rfl, rowLe_open rfl rfl rfl (fun q => nomatch q) rfl rfl rfl rfl, rN, trivial⟩ rfl)⟩
   ·skip
    refine pw_block <| sR <| y0 rfl (o_move (d := .int .i64 s23) rfl) ?_
    obtain ⟨v35, hv20, h⟩ := bindE h
    refine y0 rfl (o_ixL (f := slab_Cell_store_Obj.Pv) (cs := slab_Cell_store_Obj.Pc v35) hv20 rfl rfl Ty.e22 Ty.s85 rfl rfl) <| y0 rfl (o_loadRA (cs := slab_Cell_store_Obj.Pc v35) rfl Ty.a85 Ty.s85 nl rfl) <| y1 rfl (o_alloc (d := .agg [.int .i64 0, .int .i64 0, .int .i64 0, .int .i64 0, .int .i64 0, .int .i64 0, .bool false, .lst true (List.map (PV.int .i64) [])]) (z := 8) rfl Ty.z85 rfl rfl rfl) rfl <| y0 rfl (o_assign (d := .int .i64 s23) rfl) <| y_sto (x' := slab_Cell_store_Obj.Pv v35) (cl' := true) rfl rfl (.inr rfl) Ty.s85 <| y_nil <| sR <| y0 rfl (o_fieldAddrP (k := 0) rfl Ty.f85_0 rfl) ?_
    refine y0 rfl (o_loadS rfl rfl rfl Ty.a3 rfl) <| y0 rfl (o_cmp rfl rfl rfl) <| y_nil ?_
    refine pw_cond (v35.State == 1) rfl (fun hc => ?_) (fun hc => ?_)
    ·have h := ifT h hc
     refine sR <| y0 rfl (o_move (d := .int .i64 s23) rfl) <| y0 rfl (o_fieldAddrP (k := 1) rfl Ty.f85_1 rfl) <| y0 rfl (o_loadS rfl rfl rfl Ty.a3 rfl) ?_
     obtain ⟨v36, hv21, h⟩ := bindE h
     refine y0 rfl (o_call (ds := [.int .i64 s23, .int .i64 v35.Gen]) rfl Ty.k71 rfl (handle_Pack_ok hv21)) <| y0 rfl (o_assign (d := .int .i64 v36) rfl) <| y_nil <| sR <| y0 rfl (o_loadS rfl rfl rfl Ty.a98 rfl) <| y0 rfl (o_move (d := .int .i64 v36) rfl) <| y0 rfl (o_fieldAddrP (k := 2) rfl Ty.f85_2 rfl) <| y0 rfl (o_fieldAddrP (k := 2) rfl Ty.f29_0 rfl) ?_
     refine y0 rfl (o_loadS rfl rfl rfl Ty.a3 rfl) <| y_setM (es := s24) (k := v36) (v := v35.Val.Serial) (E := (PV.int .i64)) (EK := (PV.int .i64)) (.inl rfl) rfl rfl rfl rfl rfl rfl Ty.mm98 (keyT_int Ty.u3) <| y_nil <| sr1 (by kernel_rfl) <| y0 rfl (o_move (d := .sl 910003) rfl) <| y0 rfl (o_move (d := .int .i64 v36) rfl) <| y0 rfl (o_bI (f := (PV.int .i64)) (l := [v36]) rfl Ty.e27 Ty.s3 Ty.z3 rfl rfl nl rfl rfl) ?_
     obtain ⟨v37, hv22, h⟩ := bindE h
     refine y_apO (f := (PV.int .i64)) (b := 8) [(4, .ptr 4 0 0), (11, .lst false (List.map slab_Cell_store_Obj.Pv a0.S.Cells)), (12, .int .i64 (a0.S.Cells.length : Int)), (13, .int .i64 s23), (14, .bool (decide (s23 < (a0.S.Cells.length : Int)))), (15, .int .i64 s23), (16, .rptr (slab_Cell_store_Obj.Pc v35)), (17, slab_Cell_store_Obj.Pv v35), (6, .ptr 6 0 0), (5, .int .i64 s23), (18, .ptr 6 0 0), (19, .int .i64 v35.State), (20, .bool (v35.State == 1)), (21, .int .i64 s23), (22, .ptr 6 0 1), (23, .int .i64 v35.Gen), (24, .int .i64 v36), (7, .int .i64 v36), (25, .mp 5000008), (26, .int .i64 v36), (27, .ptr 6 0 2), (28, .ptr 6 0 2), (29, .int .i64 v35.Val.Serial), (31, .int .i64 v36), (32, .lst true (List.map (PV.int .i64) [v36]))] [(6, ⟨[slab_Cell_store_Obj.Pv v35], 0, false, 8, true⟩), (5000008, ⟨[.mapc (List.map (ent (PV.int .i64) (PV.int .i64)) (mput s24 v36 v35.Val.Serial))], 0, false, 0, false⟩), (4, ⟨[.mp 5000008], 0, false, 1, false⟩)] rfl hv22 ⟨rfl, rfl, rfl, rfl, rfl, rfl, rfl, rfl, rfl, rfl, rfl, rfl, rfl, rfl, rfl, rfl, rfl, rfl, rfl, rfl, rfl, rfl, rfl, rfl, rfl, rfl, rfl, rfl, rfl, rfl, rfl, rfl, rfl, rfl, rfl, rfl, rfl, rfl, rfl, rfl, rfl, rfl, rfl, rfl, rfl, rfl, rfl, rfl, rfl, rfl, rfl, rfl, rfl, rfl, rfl, rfl, rfl, rfl, rfl, rfl, rfl, rfl, rfl, rfl, rfl, rfl, rfl, rfl, rfl, rfl, rfl, rfl, rfl, rfl, rfl, trivial⟩ ⟨rS, rowLe_open rfl rfl rfl (fun q => nomatch q) rfl rfl rfl rfl, rowLe_open rfl rfl rfl (fun q => nomatch q) rfl rfl rfl rfl, trivial⟩ rfl rfl rfl rfl (.inl ⟨_, rfl, rfl⟩) Ty.e27 Ty.s3 Ty.b3 Ty.z3 rfl (fun _ => rfl) <| y0 rfl (o_assign (d := .sl 33) rfl) <| y_nil ?_
     exact ⟨rfl, ((mput s24 v36 v35.Val.Serial), v37), h, (wk_st _ _ ⟨rfl, rfl, rfl, rfl, rfl, rfl, rfl, rfl, rfl, rfl, rfl, rfl, rfl, rfl, rfl, trivial⟩ ⟨rowLe_open rfl rfl rfl (fun q => nomatch q) rfl rfl rfl rfl, rowLe_open rfl rfl rfl (fun q => nomatch q) rfl rfl rfl rfl, rS, trivial⟩)⟩
    ·have h := ifF h hc
     refine pw_skip ?_
     exact ⟨rfl, (s24, s25), h, (wk_stP (fun l => if l = 33 then 910003 else l) _ _ ⟨rfl, rfl, rfl, rfl, rfl, rfl, rfl, rfl, rfl, rfl, rfl, rfl, rfl, rfl, rfl, trivial⟩ ⟨rowLe_open rfl rfl rfl (fun q => nomatch q) rfl rfl rfl rfl, rowLe_open rfl rfl rfl (fun q => nomatch q) rfl rfl rfl rfl, rN, trivial⟩ rfl)⟩
  ·have h := ifF h hc
   refine pw_exit <| thenQ_exit <| thenQ_exit <| blockQ_exit ?_
   have he := hx15 _ (Option.some.inj h).symm
   have h := hk14
   rw [← he] at h
   exact ⟨rfl, (s24, s25), h, (wk_st _ _ ⟨rfl, rfl, rfl, rfl, rfl, rfl, trivial⟩ ⟨rowLe_open rfl rfl rfl (fun q => nomatch q) rfl rfl rfl rfl, rowLe_open rfl rfl rfl (fun q => nomatch q) rfl rfl rfl rfl, rS, trivial⟩)⟩

theorem queue_New_int_ok {a0 : Int} {r : queue_Queue_int} (h : queue_New_int a0 = some r) : PCalls Try.prog 115 [.int .i64 a0] (queue_Queue_int.Pv r) := by
 unfold queue_New_int at h
 refine pc_intro (N := 5) Try.func115 rfl rfl nl fun w0 imm0 => sR <| y1 rfl (o_alloc (d := .agg [.lst true (List.map (PV.int .i64) []), .int .i64 0]) (z := 2) rfl Ty.z134 rfl rfl rfl) rfl <| y_nil <| sR <| y0 rfl (o_move (d := .int .i64 a0) rfl) <| y0 rfl (o_build (cs := [.lst true (List.map (PV.int .i64) []), .int .i64 a0]) rfl Ty.p134 Ty.z134 rfl rfl rfl) <| y_sto (x' := .agg [.lst true (List.map (PV.int .i64) []), .int .i64 a0]) (cl' := true) rfl rfl (.inl rfl) Ty.s134 ?_
 refine y_nil <| pw_ret ?_
 obtain rfl := Option.some.inj h
 exact ⟨rfl, [_], ⟨o_loadA rfl rfl rfl Ty.a134 Ty.s134 nl rfl, trivial⟩, rfl, io⟩

theorem reach_isLive_ok {a0 : store_Store} {a1 : Int} {r : Bool} (h : reach_isLive a0 a1 = some r) : PCalls Try.prog 96 [store_Store.Pv a0, .int .i64 a1] (.bool r) := by
 unfold reach_isLive at h
 refine pc_intro (N := 15) Try.func96 rfl rfl nl fun w0 imm0 => sR <| y1 rfl (o_box (d := store_Store.Pv a0) (z := 3) (cl := true) rfl rfl rfl rfl rfl) rfl <| y0 rfl (o_assign (d := .bool false) rfl) <| y_nil <| sR <| y0 rfl (o_loadA (cs := store_Store.Pc a0) rfl rfl rfl Ty.a26 Ty.s26 nl rfl) <| y0 rfl (o_move (d := .int .i64 a1) rfl) ?_
 obtain ⟨v1, hv1, h⟩ := bindE h
 refine yc rfl (o_callF (ls := []) (ds := [store_Store.Pv a0, .int .i64 a1]) rfl Ty.k24 rfl (store_Get_ok hv1)) <| y0 rfl (o_move (d := .tup [store_Obj.Pv v1.1, .int .i64 v1.2]) rfl) <| y0 rfl (o_extract rfl rfl) <| y0 rfl (o_extract rfl rfl) <| y1 rfl (o_alloc (d := .agg [.int .i64 0, .int .i64 0, .int .i64 0, .int .i64 0, .bool false, .lst true (List.map (PV.int .i64) [])]) (z := 6) rfl Ty.z29 rfl rfl rfl) rfl <| y_sto (x' := store_Obj.Pv v1.1) (cl' := true) rfl rfl (.inr rfl) Ty.s29 <| y0 rfl (o_assign (d := .int .i64 v1.2) rfl) <| y_nil ?_
 refine sR <| y0 rfl (o_move (d := .int .i64 v1.2) rfl) <| y0 rfl (o_cmp rfl rfl rfl) <| y0 rfl (o_assign (d := .bool (v1.2 == 0)) rfl) <| y_nil <| pw_ret ?_
 obtain rfl := Option.some.inj h
 exact ⟨rfl, [_], ⟨rfl, trivial⟩, rfl, io⟩

theorem queue_Len_int_ok {a0 : queue_Queue_int} {r : Int} (h : queue_Len_int a0 = some r) : PCalls Try.prog 118 [queue_Queue_int.Pv a0] (.int .i64 r) := by
 unfold queue_Len_int at h
 refine pc_intro (N := 6) Try.func118 rfl rfl nl fun w0 imm0 => sR <| y1 rfl (o_box (d := queue_Queue_int.Pv a0) (z := 2) (cl := true) rfl rfl rfl rfl rfl) rfl <| y0 rfl (o_assign (d := .int .i64 0) rfl) <| y_nil <| sR <| y0 rfl (o_fieldAddrP (k := 0) rfl Ty.f134_0 rfl) <| y0 rfl (o_loadS rfl rfl rfl Ty.a27 rfl) ?_
 refine y0 rfl (o_lnL (f := (PV.int .i64)) rfl Ty.e27) <| y0 rfl (o_assign (d := .int .i64 (a0.L.length : Int)) rfl) <| y_nil <| pw_ret ?_
 obtain rfl := Option.some.inj h
 exact ⟨rfl, [_], ⟨rfl, trivial⟩, rfl, io⟩

theorem queue_part_int_ok {a0 : List Int} {a1 : Int} {a2 : Int} {r : List Int} (h : queue_part_int a0 a1 a2 = some r) : PCalls Try.prog 138 [.lst false (List.map (PV.int .i64) a0), .int .i64 a1, .int .i64 a2] (.lst true (List.map (PV.int .i64) r)) := by
 unfold queue_part_int at h
 refine pc_intro (N := 12) Try.func138 rfl rfl nl fun w0 imm0 => sR <| y0 rfl (o_assign (d := .lst true (List.map (PV.int .i64) [])) rfl) <| y_nil <| sR <| y0 rfl (o_move (d := .lst false (List.map (PV.int .i64) a0)) rfl) <| y0 rfl (o_move (d := .int .i64 a1) rfl) <| y0 rfl (o_move (d := .int .i64 a2) rfl) ?_
 refine y0 rfl (o_move (d := .int .i64 a2) rfl) ?_
 obtain ⟨v1, hv1, h⟩ := bindE h
 refine y0 rfl (o_cutT (f := (PV.int .i64)) hv1 rfl ⟨_, rfl⟩ ⟨_, rfl⟩ ⟨_, rfl⟩ rfl rfl Ty.e27 Ty.s3 (fun _ => rfl)) <| y0 rfl (o_assign (d := .lst true (List.map (PV.int .i64) v1)) rfl) <| y_nil <| pw_ret ?_
 obtain rfl := Option.some.inj h
 exact ⟨rfl, [_], ⟨rfl, trivial⟩, rfl, io⟩

theorem queue_Push_int_ok {a0 : queue_Queue_int} {a1 : Int} {r : queue_Queue_int × Int} (h : queue_Push_int a0 a1 = some r) : PCalls Try.prog 117 [queue_Queue_int.Pv a0, .int .i64 a1] (.tup [queue_Queue_int.Pv r.1, .int .i64 r.2]) := by
 unfold queue_Push_int at h
 refine pc_intro (N := 22) Try.func117 rfl rfl nl fun w0 imm0 => sR <| y1 rfl (o_box (d := queue_Queue_int.Pv a0) (z := 2) (cl := true) rfl rfl rfl rfl rfl) rfl <| y1 rfl (o_alloc (d := .agg [.lst true (List.map (PV.int .i64) []), .int .i64 0]) (z := 2) rfl Ty.z134 rfl rfl rfl) rfl <| y0 rfl (o_assign (d := .int .i64 0) rfl) <| y_nil <| pw_seq <| dr [] Ty.mix (by kernel_rfl) (by kernel_rfl) ?_
 refine d0 rfl (o_loadA (cs := queue_Queue_int.Pc a0) rfl rfl rfl Ty.a134 Ty.s134 nl rfl) rfl ?_
 obtain ⟨v1, hv1, h⟩ := bindE h
 refine d2 rfl (o_call (ds := [queue_Queue_int.Pv a0]) rfl Ty.k118 rfl (queue_Len_int_ok hv1)) rfl <| d7 rfl (fun _ hN => o_fieldAddrP (k := 1) rfl Ty.f134_1 rfl) rfl <| d0 rfl (o_loadS rfl rfl rfl Ty.a3 rfl) rfl <| d7 rfl (fun _ hN => o_cmp rfl rfl rfl) rfl <| d_nil ?_
 refine pw_cond (decide (v1 ≥ a0.Cap)) rfl (fun hc => ?_) (fun hc => ?_)
 ·have h := ifT h hc
  refine sR <| y0 rfl (o_loadA (cs := queue_Queue_int.Pc a0) rfl rfl rfl Ty.a134 Ty.s134 nl rfl) <| y_sto (x' := queue_Queue_int.Pv a0) (cl' := true) rfl rfl (.inr rfl) Ty.s134 <| y0 rfl (o_assign (d := .int .i64 4) rfl) <| y_nil <| pw_ret ?_
  obtain rfl := Option.some.inj h
  exact ⟨rfl, [_, _], ⟨o_loadA rfl rfl rfl Ty.a134 Ty.s134 nl rfl, ⟨rfl, trivial⟩⟩, rfl, io⟩
 ·have h := ifF h hc
  refine pw_skip <| dr [] Ty.mix (by kernel_rfl) (by kernel_rfl) <| d7 rfl (fun _ hN => o_fieldAddrP (k := 0) rfl Ty.f134_0 rfl) rfl <| d0 rfl (o_loadS rfl rfl rfl Ty.a27 rfl) rfl <| d0 rfl (o_loadA (cs := queue_Queue_int.Pc a0) rfl rfl rfl Ty.a134 Ty.s134 nl rfl) rfl <| d2 rfl (o_call (ds := [queue_Queue_int.Pv a0]) rfl Ty.k118 rfl (queue_Len_int_ok hv1)) rfl ?_
  obtain ⟨v2, hv2, h⟩ := bindE h
  refine d2f rfl (o_callF (ls := []) (ds := [.lst false (List.map (PV.int .i64) a0.L), .int .i64 0, .int .i64 v1]) rfl Ty.k138 rfl (queue_part_int_ok hv2)) rfl <| d7 rfl (fun _ hN => o_move (d := .int .i64 a1) rfl) rfl <| d1n rfl (o_bI (f := (PV.int .i64)) (l := [a1]) rfl Ty.e27 Ty.s3 Ty.z3 rfl rfl nl rfl rfl) rfl ?_
  obtain ⟨v3, hv3, h⟩ := bindE h
  refine d3 rfl (o_apT (f := (PV.int .i64)) hv3 rfl rfl (.inl ⟨_, rfl, rfl⟩) Ty.e27 Ty.s3 Ty.b3 Ty.z3 rfl (fun _ => rfl)) rfl rfl rfl <| d7 rfl (fun _ hN => o_fieldAddrP (k := 0) rfl Ty.f134_0 rfl) rfl <| d_sto (x' := .agg [.sl 19, .int .i64 a0.Cap]) (cl' := false) rfl rfl (.inl rfl) Ty.s27 <| d_nil <| sR <| y0 rfl (o_loadA (cs := [.sl 19, .int .i64 a0.Cap]) rfl rfl rfl Ty.a134 Ty.s134 nl rfl) <| y_sto (x' := .agg [.sl 19, .int .i64 a0.Cap]) (cl' := false) rfl rfl (.inl rfl) Ty.s134 <| y0 rfl (o_assign (d := .int .i64 0) rfl) ?_
  refine y_nil <| pw_ret ?_
  obtain rfl := Option.some.inj h
  exact ⟨rfl, [_, _], ⟨o_loadA rfl rfl rfl Ty.a134 Ty.s134 nl rfl, ⟨rfl, trivial⟩⟩, rfl, io⟩

theorem queue_Drain_int_ok {a0 : queue_Queue_int} {a1 : Int} {r : queue_Queue_int × (List Int)} (h : queue_Drain_int a0 a1 = some r) : PCalls Try.prog 139 [queue_Queue_int.Pv a0, .int .i64 a1] (.tup [queue_Queue_int.Pv r.1, .lst false (List.map (PV.int .i64) r.2)]) := by
 unfold queue_Drain_int at h
 refine pc_intro (N := 25) Try.func139 rfl rfl nl fun w0 imm0 => sR <| y1 rfl (o_box (d := queue_Queue_int.Pv a0) (z := 2) (cl := true) rfl rfl rfl rfl rfl) rfl <| y1 rfl (o_alloc (d := .agg [.lst true (List.map (PV.int .i64) []), .int .i64 0]) (z := 2) rfl Ty.z134 rfl rfl rfl) rfl <| y0 rfl (o_assign (d := .lst true (List.map (PV.int .i64) [])) rfl) <| y_nil <| sR <| y0 rfl (o_move (d := .int .i64 a1) rfl) ?_
 refine y0 rfl (o_loadA (cs := queue_Queue_int.Pc a0) rfl rfl rfl Ty.a134 Ty.s134 nl rfl) ?_
 obtain ⟨v1, hv1, h⟩ := bindE h
 refine y0 rfl (o_call (ds := [queue_Queue_int.Pv a0]) rfl Ty.k118 rfl (queue_Len_int_ok hv1)) <| y0 rfl (o_min rfl rfl rfl) <| y0 rfl (o_max rfl rfl rfl) <| y0 rfl (o_assign (d := .int .i64 (if (if v1 < a1 then v1 else a1) > 0 then (if v1 < a1 then v1 else a1) else 0)) rfl) <| y_nil <| sR <| y0 rfl (o_fieldAddrP (k := 0) rfl Ty.f134_0 rfl) <| y0 rfl (o_loadS rfl rfl rfl Ty.a27 rfl) ?_
 refine y0 rfl (o_move (d := .int .i64 (if (if v1 < a1 then v1 else a1) > 0 then (if v1 < a1 then v1 else a1) else 0)) rfl) ?_
 obtain ⟨v2, hv2, h⟩ := bindE h
 refine yc rfl (o_callF (ls := []) (ds := [.lst false (List.map (PV.int .i64) a0.L), .int .i64 0, .int .i64 (if (if v1 < a1 then v1 else a1) > 0 then (if v1 < a1 then v1 else a1) else 0)]) rfl Ty.k138 rfl (queue_part_int_ok hv2)) <| y0 rfl (o_assign (d := .lst true (List.map (PV.int .i64) v2)) rfl) <| y_nil <| dr [] Ty.mix (by kernel_rfl) (by kernel_rfl) <| d7 rfl (fun _ hN => o_fieldAddrP (k := 0) rfl Ty.f134_0 rfl) rfl <| d0 rfl (o_loadS rfl rfl rfl Ty.a27 rfl) rfl <| d7 rfl (fun _ hN => o_move (d := .int .i64 (if (if v1 < a1 then v1 else a1) > 0 then (if v1 < a1 then v1 else a1) else 0)) rfl) rfl <| d0 rfl (o_loadA (cs := queue_Queue_int.Pc a0) rfl rfl rfl Ty.a134 Ty.s134 nl rfl) rfl ?_
 refine d2 rfl (o_call (ds := [queue_Queue_int.Pv a0]) rfl Ty.k118 rfl (queue_Len_int_ok hv1)) rfl ?_
 obtain ⟨v3, hv3, h⟩ := bindE h
 refine d2f rfl (o_callF (ls := []) (ds := [.lst false (List.map (PV.int .i64) a0.L), .int .i64 (if (if v1 < a1 then v1 else a1) > 0 then (if v1 < a1 then v1 else a1) else 0), .int .i64 v1]) rfl Ty.k138 rfl (queue_part_int_ok hv3)) rfl <| d7 rfl (fun _ hN => o_fieldAddrP (k := 0) rfl Ty.f134_0 rfl) rfl <| d_sto (x' := .agg [.lst false (List.map (PV.int .i64) v3), .int .i64 a0.Cap]) (cl' := true) rfl rfl (.inr rfl) Ty.s27 <| d_nil <| sR <| y0 rfl (o_loadA (cs := [.lst false (List.map (PV.int .i64) v3), .int .i64 a0.Cap]) rfl rfl rfl Ty.a134 Ty.s134 nl rfl) <| y0 rfl (o_move (d := .lst true (List.map (PV.int .i64) v2)) rfl) <| y_sto (x' := .agg [.lst false (List.map (PV.int .i64) v3), .int .i64 a0.Cap]) (cl' := true) rfl rfl (.inr rfl) Ty.s134 ?_
 refine y0 rfl (o_assign (d := .lst true (List.map (PV.int .i64) v2)) rfl) <| y_nil <| pw_ret ?_
 obtain rfl := Option.some.inj h
 exact ⟨rfl, [_, _], ⟨o_loadA rfl rfl rfl Ty.a134 Ty.s134 nl rfl, ⟨rfl, trivial⟩⟩, rfl, io⟩

theorem queue_Pop_int_ok {a0 : queue_Queue_int} {r : queue_Queue_int × Int × Int} (h : queue_Pop_int a0 = some r) : PCalls Try.prog 119 [queue_Queue_int.Pv a0] (.tup [queue_Queue_int.Pv r.1, .int .i64 r.2.1, .int .i64 r.2.2]) := by
 unfold queue_Pop_int at h
 refine pc_intro (N := 22) Try.func119 rfl rfl nl fun w0 imm0 => sR <| y1 rfl (o_box (d := queue_Queue_int.Pv a0) (z := 2) (cl := true) rfl rfl rfl rfl rfl) rfl <| y1 rfl (o_alloc (d := .agg [.lst true (List.map (PV.int .i64) []), .int .i64 0]) (z := 2) rfl Ty.z134 rfl rfl rfl) rfl <| y0 rfl (o_assign (d := .int .i64 0) rfl) <| y0 rfl (o_assign (d := .int .i64 0) rfl) <| y_nil <| sR ?_
 refine y0 rfl (o_loadA (cs := queue_Queue_int.Pc a0) rfl rfl rfl Ty.a134 Ty.s134 nl rfl) ?_
 obtain ⟨v1, hv1, h⟩ := bindE h
 refine yc rfl (o_callF (ls := []) (ds := [queue_Queue_int.Pv a0, .int .i64 1]) rfl Ty.k139 rfl (queue_Drain_int_ok hv1)) <| y0 rfl (o_move (d := .tup [queue_Queue_int.Pv v1.1, .lst false (List.map (PV.int .i64) v1.2)]) rfl) <| y0 rfl (o_extract rfl rfl) <| y0 rfl (o_extract rfl rfl) <| y1 rfl (o_alloc (d := .agg [.lst true (List.map (PV.int .i64) []), .int .i64 0]) (z := 2) rfl Ty.z134 rfl rfl rfl) rfl <| y_sto (x' := queue_Queue_int.Pv v1.1) (cl' := true) rfl rfl (.inr rfl) Ty.s134 <| y0 rfl (o_assign (d := .lst false (List.map (PV.int .i64) v1.2)) rfl) <| y_nil ?_
 refine pw_seq <| sR <| y0 rfl (o_move (d := .lst false (List.map (PV.int .i64) v1.2)) rfl) <| y0 rfl (o_lnL (f := (PV.int .i64)) rfl Ty.e27) <| y0 rfl (o_cmp rfl rfl rfl) <| y_nil ?_
 refine pw_cond ((v1.2.length : Int) == 0) rfl (fun hc => ?_) (fun hc => ?_)
 ·have h := ifT h hc
  refine sR <| y0 rfl (o_assign (d := .int .i64 0) rfl) <| y_nil <| sR <| y0 rfl (o_loadA (cs := queue_Queue_int.Pc a0) rfl rfl rfl Ty.a134 Ty.s134 nl rfl) <| y0 rfl (o_move (d := .int .i64 0) rfl) <| y_sto (x' := queue_Queue_int.Pv a0) (cl' := true) rfl rfl (.inr rfl) Ty.s134 <| y0 rfl (o_assign (d := .int .i64 0) rfl) ?_
  refine y0 rfl (o_assign (d := .int .i64 10) rfl) <| y_nil <| pw_ret ?_
  obtain rfl := Option.some.inj h
  exact ⟨rfl, [_, _, _], ⟨o_loadA rfl rfl rfl Ty.a134 Ty.s134 nl rfl, ⟨rfl, ⟨rfl, trivial⟩⟩⟩, rfl, io⟩
 ·have h := ifF h hc
  refine pw_skip <| dr [2, 3] Ty.mix (by kernel_rfl) (by kernel_rfl) <| d0 rfl (o_loadA (cs := queue_Queue_int.Pc v1.1) rfl rfl rfl Ty.a134 Ty.s134 nl rfl) rfl <| d7 rfl (fun _ hN => o_move (d := .lst false (List.map (PV.int .i64) v1.2)) rfl) rfl ?_
  obtain ⟨v2, hv2, h⟩ := bindE h
  refine d7 rfl (fun _ hN => o_ixL (f := (PV.int .i64)) (cs := [.int .i64 v2]) hv2 rfl rfl Ty.e27 Ty.s3 rfl rfl) rfl <| d7 rfl (fun _ hN => o_loadRS rfl Ty.a3 rfl) rfl <| d_sto (x' := queue_Queue_int.Pv v1.1) (cl' := true) rfl rfl (.inr rfl) Ty.s134 <| d7 rfl (fun _ hN => o_assign (d := .int .i64 v2) rfl) rfl <| d7 rfl (fun _ hN => o_assign (d := .int .i64 0) rfl) rfl <| d_nil <| pw_ret ?_
  obtain rfl := Option.some.inj h
  exact ⟨rfl, [_, _, _], ⟨o_loadA rfl rfl rfl Ty.a134 Ty.s134 nl rfl, ⟨rfl, ⟨rfl, trivial⟩⟩⟩, rfl, io⟩

theorem vec_named_ok {a0 : List Int} {r : List Int} (h : vec_named a0 = some r) : PCalls Try.prog 112 [.lst false (List.map (PV.int .i64) a0)] (.fn (.func 137) [.rptr [.lst false (List.map (PV.int .i64) r)]]) := by
 unfold vec_named at h
 refine pc_intro (N := 4) Try.func112 rfl rfl nl fun w0 imm0 => sR <| y1 rfl (o_box (d := .lst false (List.map (PV.int .i64) a0)) (z := 1) (cl := true) rfl rfl rfl rfl rfl) rfl <| y0 rfl (o_assign (d := .nilfn) rfl) <| y_nil <| sR <| y0 rfl (o_mkFunc rfl) <| y0 rfl (o_assign (d := .fn (.func 137) [.ptr 1 0 0]) rfl) ?_
 refine y_nil <| pw_ret ?_
 obtain rfl := Option.some.inj h
 exact ⟨rfl, [_], ⟨rfl, trivial⟩, rfl, io⟩

theorem vec_Names_ok {a0 : List Int} {r : List Int} (h : vec_Names a0 = some r) : PCalls Try.prog 80 [.lst false (List.map (PV.int .i64) a0)] (.lst false (List.map (PV.int .i64) r)) := by
 unfold vec_Names at h
 refine pc_intro (N := 13) Try.func80 rfl rfl nl fun w0 imm0 => sR <| y0 rfl (o_assign (d := .lst true (List.map (PV.int .i64) [])) rfl) <| y_nil <| sR <| y1 rfl (o_alloc (d := .lst true (List.map (PV.int .i64) [])) (z := 1) rfl Ty.z27 rfl rfl rfl) rfl <| y_nil ?_
 obtain ⟨κ9, hκ15, h⟩ := jnE h
 refine pw_jn0 (κ := κ9) (r := r) (fun (j10 : List Int) => St.of [(3, .ptr 2001 0 0)] [(2001, ⟨[.sl 912501], 0, false, 1, false⟩), (912501, ⟨List.map (PV.int .i64) j10, (List.map (PV.int .i64) j10).length, true, 1, true⟩)]) (fun j10 h => ?_) ?_
 ·subst hκ15
  refine sR <| y0 rfl (o_loadS rfl rfl rfl Ty.a27 rfl) <| y0 rfl (o_assign (d := .sl 912501) rfl) <| y_nil <| pw_ret ?_
  obtain rfl := Option.some.inj h
  exact ⟨rfl, [_], ⟨rfl, trivial⟩, rfl, io⟩
 ·skip
  refine sR <| y0 rfl (o_move (d := .lst false (List.map (PV.int .i64) a0)) rfl) ?_
  obtain ⟨v11, hv16, h⟩ := bindE h
  refine yc rfl (o_callF (ls := []) (ds := [.lst false (List.map (PV.int .i64) a0)]) rfl Ty.k112 rfl (vec_named_ok hv16)) <| y_nil <| pw_block <| pw_wk (wk_stP (fun l => if l = 2011 then 3 else l) [(3, .ptr 2011 0 0), (6, .fn (.func 137) [.rptr [.lst false (List.map (PV.int .i64) v11)]])] [(2011, ⟨[.lst true (List.map (PV.int .i64) [])], 0, false, 1, true⟩)] ⟨rfl, rfl, rfl, rfl, rfl, rfl, trivial⟩ ⟨rN, trivial⟩ rfl) ?_
  refine pw_range (fn := Try.f137) (N1 := 20) rfl Try.func137 rfl rfl nl rfl Ty.k137 rfl rfl (fun l17 e18 o19 hR20 => ?_)
  refine sR <| y0 rfl (o_loadRS rfl Ty.a27 rfl) <| y0 rfl (o_lnL (f := (PV.int .i64)) rfl Ty.e27) <| y0 rfl (o_move (d := .int .i64 0) rfl) <| y_nil <| pw_block ?_
  obtain ⟨e12, hl21, hk22⟩ := bindE h
  refine pw_lp0 (fun (q : Int × (List Int)) => St.of [(1000003, .ptr 2011 0 0), (1000006, .fn (.func 137) [.rptr [.lst false (List.map (PV.int .i64) v11)]]), (0, .fn (.yield l17) []), (5, .lst false (List.map (PV.int .i64) v11)), (6, .int .i64 (v11.length : Int)), (7, .int .i64 q.1)] [(2011, ⟨[.sl 912511], 0, false, 1, false⟩), (912511, ⟨List.map (PV.int .i64) q.2, (List.map (PV.int .i64) q.2).length, true, 1, true⟩)]) hl21 (Wk.trans (wk_nilC (l0 := 2011) (j := 0) (l := 922511) (z := 1) rfl rfl rfl rfl rfl) (wk_stP (fun l => if l = 912511 then 922511 else l) _ _ ⟨rfl, rfl, rfl, rfl, rfl, rfl, rfl, rfl, rfl, rfl, rfl, rfl, rfl, rfl, rfl, rfl, rfl, rfl, trivial⟩ ⟨rowLe_open rfl rfl rfl (fun q => nomatch q) rfl rfl rfl rfl, rN, trivial⟩ rfl)) (fun q16 x15 h hx23 => ?_)
  obtain ⟨s13, s14⟩ := q16
  refine sR <| y0 rfl (o_cmp rfl rfl rfl) <| y_nil <| pw_seq ?_
  refine pw_cond (decide (s13 < (v11.length : Int))) rfl (fun hc => ?_) (fun hc => ?_)
  ·have h := ifT h hc
   refine pw_skip <| pw_seq <| pw_block <| sR ?_
   obtain ⟨v17, hv24, h⟩ := bindE h
   refine y0 rfl (o_ixL (f := (PV.int .i64)) (cs := [.int .i64 v17]) hv24 rfl rfl Ty.e27 Ty.s3 rfl rfl) <| y0 rfl (o_loadRS rfl Ty.a3 rfl) <| y0 rfl (o_assign (d := .int .i64 v17) rfl) <| y_nil <| sR <| y0 rfl (o_move (d := .int .i64 v17) rfl) <| y0 rfl (o_cmp rfl rfl rfl) <| y0 rfl (o_move (d := .bool (v17 != 0)) rfl) ?_
   refine y_if (g := ((v17 != 0) == true)) rfl (fun hg => o_move (d := .fn (.yield l17) []) rfl) <| y_if (g := ((v17 != 0) == true)) rfl (fun hg => o_move (d := .int .i64 v17) rfl) ?_
   rcases Bool.eq_false_or_eq_true ((v17 != 0) == true) with hg25 | hg25
   ·have h := ifT h hg25
    refine y_wk (wk_stP (fun l => if l = 2019 then 912511 else l) [(1000003, .ptr 2011 0 0), (1000006, .fn (.func 137) [.rptr [.lst false (List.map (PV.int .i64) v11)]]), (0, .fn (.yield l17) []), (5, .lst false (List.map (PV.int .i64) v11)), (6, .int .i64 (v11.length : Int)), (7, .int .i64 s13), (13, .bool (v17 != 0)), (14, .fn (.yield l17) []), (15, .int .i64 v17)] [(2011, ⟨[.sl 2019], 0, false, 1, false⟩), (2019, ⟨List.map (PV.int .i64) s14, (List.map (PV.int .i64) s14).length, true, 1, true⟩)] ⟨rfl, rfl, rfl, rfl, rfl, rfl, rfl, rfl, rfl, rfl, rfl, rfl, rfl, rfl, rfl, rfl, rfl, rfl, rfl, rfl, rfl, (ct hg25), rfl, rfl, (ct hg25), rfl, rfl, trivial⟩ ⟨rowLe_open rfl rfl rfl (fun q => nomatch q) rfl rfl rfl rfl, rN, trivial⟩ rfl) ?_
    refine y_yield hR20 (congrArg some hg25) rfl rfl rfl rfl rfl (fun e26 o27 o28 => ?_)
    refine sr1 (by kernel_rfl) <| y0 rfl (o_assign (d := .int .i64 v17) rfl) <| y_nil ?_
    refine ⟨rfl, ?_⟩
    refine pw_block <| sr1 (by kernel_rfl) <| y0 rfl (o_loadS rfl rfl rfl Ty.a27 rfl) <| y0 rfl (o_move (d := .int .i64 v17) rfl) <| y0 rfl (o_bI (f := (PV.int .i64)) (l := [v17]) rfl Ty.e27 Ty.s3 Ty.z3 rfl rfl nl rfl rfl) ?_
    obtain ⟨v18, hv29, h⟩ := bindE h
    refine y_app rfl (o_apR (f := (PV.int .i64)) hv29 rfl rfl rfl rfl rfl rfl (.inl ⟨_, rfl, rfl⟩) Ty.e27 Ty.s3 Ty.b3 Ty.z3 rfl (fun _ => rfl)) rfl rfl rfl <| y_sto (x' := .sl 11) (cl' := false) rfl rfl (.inl rfl) Ty.s27 <| y_nil ?_
    refine ⟨rfl, ?_⟩
    refine y_wk (wk_stP (fun l => if l = 2020 then 11 else l) [(1000003, .ptr 2011 0 0), (1000006, .fn (.func 137) [.rptr [.lst false (List.map (PV.int .i64) v11)]]), (0, .fn (.yield l17) []), (5, .lst false (List.map (PV.int .i64) v11)), (6, .int .i64 (v11.length : Int)), (7, .int .i64 s13), (13, .bool (v17 != 0)), (16, .bool true)] [(2011, ⟨[.sl 2020], 0, false, 1, false⟩), (2020, ⟨List.map (PV.int .i64) v18, s14.length, true, 1, true⟩)] ⟨rfl, rfl, rfl, rfl, rfl, rfl, rfl, rfl, rfl, rfl, rfl, rfl, rfl, rfl, rfl, rfl, rfl, rfl, rfl, rfl, rfl, rfl, rfl, rfl, trivial⟩ ⟨rowLe_open rfl rfl rfl (fun q => nomatch q) rfl rfl rfl rfl, rN, trivial⟩ rfl) <| y0 (congrArg some hg25) (o_not rfl rfl) <| y0 rfl (pk_andT rfl rfl hg25) <| y_nil ?_
    refine pw_cond false rfl (fun q => nomatch q) (fun _ => ?_)
    refine pw_skip <| sr1 (by kernel_rfl) <| y0 rfl (o_ari rfl rfl rfl) <| y0 rfl (o_move (d := .int .i64 (w64 (s13 + 1))) rfl) <| y_nil ?_
    exact ⟨rfl, (w64 (s13 + 1), v18), (Option.some.inj h).symm, (Wk.trans (wk_frz _ [2020]) (wk_stP (fun l => if l = 912511 then 2020 else l) _ _ ⟨rfl, rfl, rfl, rfl, rfl, rfl, rfl, rfl, rfl, rfl, rfl, rfl, rfl, rfl, rfl, rfl, rfl, rfl, trivial⟩ ⟨rowLe_open rfl rfl rfl (fun q => nomatch q) rfl rfl rfl rfl, rN, trivial⟩ rfl))⟩
   ·have h := ifF h hg25
    refine y_skip (congrArg some hg25) <| y_skip (congrArg some hg25) <| y0 rfl (pk_andF rfl rfl hg25) <| y_nil ?_
    refine pw_cond false rfl (fun q => nomatch q) (fun _ => ?_)
    refine pw_skip <| sr1 (by kernel_rfl) <| y0 rfl (o_ari rfl rfl rfl) <| y0 rfl (o_move (d := .int .i64 (w64 (s13 + 1))) rfl) <| y_nil ?_
    exact ⟨rfl, (w64 (s13 + 1), s14), (Option.some.inj h).symm, (Wk.trans (wk_frz _ [912511]) (wk_st _ _ ⟨rfl, rfl, rfl, rfl, rfl, rfl, rfl, rfl, rfl, rfl, rfl, rfl, rfl, rfl, rfl, rfl, rfl, rfl, trivial⟩ ⟨rowLe_open rfl rfl rfl (fun q => nomatch q) rfl rfl rfl rfl, rS, trivial⟩))⟩
  ·have h := ifF h hc
   refine pw_exit <| thenQ_exit <| thenQ_exit <| blockQ_exit ?_
   refine .inl ⟨rfl, ?_⟩
   have he := hx23 _ (Option.some.inj h).symm
   have h := hk22
   rw [← he] at h
   exact ⟨rfl, s14, h, (Wk.trans (wk_frz _ [912511]) (wk_stP (fun l => if l = 2001 then 2011 else if l = 912501 then 912511 else l) _ _ ⟨rfl, rfl, rfl, trivial⟩ ⟨rowLe_open rfl rfl rfl (fun q => nomatch q) rfl rfl rfl rfl, rN, trivial⟩ rfl))⟩

theorem refs_Out_ok {a0 : store_Store} {a1 : Int} {r : List Int} (h : refs_Out a0 a1 = some r) : PCalls Try.prog 36 [store_Store.Pv a0, .int .i64 a1] (.lst false (List.map (PV.int .i64) r)) := by
 unfold refs_Out at h
 refine pc_intro (N := 16) Try.func36 rfl rfl nl fun w0 imm0 => sR <| y1 rfl (o_box (d := store_Store.Pv a0) (z := 3) (cl := true) rfl rfl rfl rfl rfl) rfl <| y0 rfl (o_assign (d := .lst true (List.map (PV.int .i64) [])) rfl) <| y_nil <| sR <| y0 rfl (o_loadA (cs := store_Store.Pc a0) rfl rfl rfl Ty.a26 Ty.s26 nl rfl) <| y0 rfl (o_move (d := .int .i64 a1) rfl) ?_
 obtain ⟨v1, hv1, h⟩ := bindE h
 refine yc rfl (o_callF (ls := []) (ds := [store_Store.Pv a0, .int .i64 a1]) rfl Ty.k24 rfl (store_Get_ok hv1)) <| y0 rfl (o_move (d := .tup [store_Obj.Pv v1.1, .int .i64 v1.2]) rfl) <| y0 rfl (o_extract rfl rfl) <| y0 rfl (o_extract rfl rfl) <| y1 rfl (o_alloc (d := .agg [.int .i64 0, .int .i64 0, .int .i64 0, .int .i64 0, .bool false, .lst true (List.map (PV.int .i64) [])]) (z := 6) rfl Ty.z29 rfl rfl rfl) rfl <| y_sto (x' := store_Obj.Pv v1.1) (cl' := true) rfl rfl (.inr rfl) Ty.s29 <| y0 rfl (o_assign (d := .int .i64 v1.2) rfl) <| y_nil ?_
 refine sR <| y0 rfl (o_fieldAddrP (k := 5) rfl Ty.f29_5 rfl) <| y0 rfl (o_loadS rfl rfl rfl Ty.a27 rfl) ?_
 obtain ⟨v2, hv2, h⟩ := bindE h
 refine yc rfl (o_callF (ls := []) (ds := [.lst false (List.map (PV.int .i64) v1.1.Fields)]) rfl Ty.k80 rfl (vec_Names_ok hv2)) <| y0 rfl (o_assign (d := .lst false (List.map (PV.int .i64) v2)) rfl) <| y_nil <| pw_ret ?_
 obtain rfl := Option.some.inj h
 exact ⟨rfl, [_], ⟨rfl, trivial⟩, rfl, io⟩

theorem reach_spread_ok {a0 : store_Store} {a1 : List Int} {r : List (Int × Bool)} (h : reach_spread a0 a1 = some r) : PCalls Try.prog 89 [store_Store.Pv a0, .lst false (List.map (PV.int .i64) a1)] (.abs (ImMap (List.map (ent (PV.int .i64) PV.bool) r))) := by
 unfold reach_spread at h
 refine pc_intro (N := 33) Try.func89 rfl rfl nl fun w0 imm0 => sR <| y1 rfl (o_box (d := store_Store.Pv a0) (z := 3) (cl := true) rfl rfl rfl rfl rfl) rfl <| y0 rfl (o_assign (d := .abs NilMap) rfl) <| y_nil <| sR <| y_mkM (KT := Int) (VT := Bool) (EK := (PV.int .i64)) (E := PV.bool) 5000009 rfl rfl <| y1 rfl (o_alloc (d := .abs NilMap) (z := 1) rfl Ty.z112 rfl rfl rfl) rfl ?_
 refine y_sto (x' := .mp 5000009) (cl' := false) rfl rfl (.inl rfl) Ty.s112 <| y_nil <| sR <| y0 rfl (o_loadA (cs := store_Store.Pc a0) rfl rfl rfl Ty.a26 Ty.s26 nl rfl) ?_
 obtain ⟨v1, hv1, h⟩ := bindE h
 refine yc rfl (o_callF (ls := []) (ds := [store_Store.Pv a0]) rfl Ty.k30 rfl (store_Live_ok hv1)) <| y0 rfl (o_lnL (f := (PV.int .i64)) rfl Ty.e27) ?_
 obtain ⟨v2, hv2, h⟩ := bindE h
 refine yc rfl (o_callF (ls := []) (ds := [.int .i64 (v1.length : Int)]) rfl Ty.k115 rfl (queue_New_int_ok hv2)) <| y1 rfl (o_alloc (d := .agg [.lst true (List.map (PV.int .i64) []), .int .i64 0]) (z := 2) rfl Ty.z134 rfl rfl rfl) rfl <| y_sto (x' := queue_Queue_int.Pv v2) (cl' := true) rfl rfl (.inr rfl) Ty.s134 <| y_nil <| sR <| y0 rfl (o_mkFunc rfl) <| y0 rfl (o_assign (d := .fn (.func 116) [.ptr 2 0 0, .ptr 5 0 0, .ptr 6 0 0]) rfl) <| y_nil ?_
 refine sR <| y0 rfl (o_move (d := .fn (.func 116) [.ptr 2 0 0, .ptr 5 0 0, .ptr 6 0 0]) rfl) <| y0 rfl (o_move (d := .lst false (List.map (PV.int .i64) a1)) rfl) <| y_wk (wk_stP (fun l => if l = 2001 then 6 else if l = 2002 then 5 else if l = 2003 then 2 else if l = 5002004 then 5000009 else l) [(2, .ptr 2003 0 0), (5, .ptr 2002 0 0), (6, .ptr 2001 0 0), (7, .fn (.func 116) [.ptr 2003 0 0, .ptr 2002 0 0, .ptr 2001 0 0]), (15, .fn (.func 116) [.ptr 2003 0 0, .ptr 2002 0 0, .ptr 2001 0 0]), (16, .lst false (List.map (PV.int .i64) a1))] [(2001, ⟨[queue_Queue_int.Pv v2], 0, false, 2, true⟩), (2002, ⟨[.mp 5002004], 0, false, 1, false⟩), (5002004, ⟨[.mapc (List.map (ent (PV.int .i64) PV.bool) [])], 0, false, 0, false⟩), (2003, ⟨[store_Store.Pv a0], 0, false, 3, true⟩)] ⟨rfl, rfl, rfl, rfl, rfl, rfl, rfl, rfl, rfl, rfl, rfl, rfl, rfl, rfl, rfl, rfl, rfl, rfl, trivial⟩ ⟨rN, rowLe_open rfl rfl rfl (fun q => nomatch q) rfl rfl rfl rfl, rowLe_open rfl rfl rfl (fun q => nomatch q) rfl rfl rfl rfl, rN, trivial⟩ rfl) ?_
 refine y_inl (fn := Try.f116) (N1 := 31) rfl rfl Try.func116 rfl Ty.k116 rfl rfl nl (fun e3 o4 => ?_)
 obtain ⟨κ19, hκ17, h⟩ := jnE h
 refine pw_jnR (κ := κ19) (r := r) (fun (q : queue_Queue_int × (List (Int × Bool))) => St.of [(1000002, .ptr 2003 0 0), (1000005, .ptr 2002 0 0), (1000006, .ptr 2001 0 0), (1000007, .fn (.func 116) [.ptr 2003 0 0, .ptr 2002 0 0, .ptr 2001 0 0]), (1000015, .fn (.func 116) [.ptr 2003 0 0, .ptr 2002 0 0, .ptr 2001 0 0]), (1000016, .lst false (List.map (PV.int .i64) a1))] [(2001, ⟨[queue_Queue_int.Pv q.1], 0, false, 2, true⟩), (2002, ⟨[.mp 5002004], 0, false, 1, false⟩), (5002004, ⟨[.mapc (List.map (ent (PV.int .i64) PV.bool) q.2)], 0, false, 0, false⟩), (2003, ⟨[store_Store.Pv a0], 0, false, 3, true⟩)]) (fun q22 h => dup ?_) ?_
 ·subst hκ17
  obtain ⟨j20, j21⟩ := q22
  refine ⟨rfl, [], trivial, ?_⟩
  refine y_wk (wk_st [(2, .ptr 2003 0 0), (5, .ptr 2002 0 0), (6, .ptr 2001 0 0), (7, .fn (.func 116) [.ptr 2003 0 0, .ptr 2002 0 0, .ptr 2001 0 0])] [(2001, ⟨[queue_Queue_int.Pv j20], 0, false, 2, true⟩), (2002, ⟨[.mp 5002004], 0, false, 1, false⟩), (5002004, ⟨[.mapc (List.map (ent (PV.int .i64) PV.bool) j21)], 0, false, 0, false⟩), (2003, ⟨[store_Store.Pv a0], 0, false, 3, true⟩)] ⟨rfl, rfl, rfl, rfl, rfl, rfl, rfl, rfl, rfl, rfl, rfl, rfl, trivial⟩ ⟨rS, rowLe_open rfl rfl rfl (fun q => nomatch q) rfl rfl rfl rfl, rowLe_open rfl rfl rfl (fun q => nomatch q) rfl rfl rfl rfl, rS, trivial⟩) <| y_nil ?_
  obtain ⟨κ67, hκ51, h⟩ := jnE h
  refine pw_jn0 (κ := κ67) (r := r) (fun (j68 : List (Int × Bool)) => St.of [(5, .ptr 2002 0 0)] [(2002, ⟨[.mp 5002004], 0, false, 1, false⟩), (5002004, ⟨[.mapc (List.map (ent (PV.int .i64) PV.bool) j68)], 0, false, 0, false⟩)]) (fun j68 h => ?_) ?_
  ·subst hκ51
   refine sR <| y0 rfl (o_loadS rfl rfl rfl Ty.a112 rfl) <| y0 rfl (o_assign (d := .mp 5002004) rfl) <| y_nil <| pw_wk (wk_mfz 4 5002004 rfl rfl) <| pw_ret ?_
   obtain rfl := Option.some.inj h
   exact ⟨rfl, [_], ⟨rfl, trivial⟩, rfl, io⟩
  ·skip
   refine pw_block ?_
   obtain ⟨e69, hl52, hk53⟩ := bindE h
   refine pw_lp0 (fun (q : queue_Queue_int × (List (Int × Bool))) => St.of [(2, .ptr 2003 0 0), (5, .ptr 2002 0 0), (6, .ptr 2001 0 0), (7, .fn (.func 116) [.ptr 2003 0 0, .ptr 2002 0 0, .ptr 2001 0 0])] [(2001, ⟨[queue_Queue_int.Pv q.1], 0, false, 2, true⟩), (2002, ⟨[.mp 5002004], 0, false, 1, false⟩), (5002004, ⟨[.mapc (List.map (ent (PV.int .i64) PV.bool) q.2)], 0, false, 0, false⟩), (2003, ⟨[store_Store.Pv a0], 0, false, 3, true⟩)]) hl52 (wk_st _ _ ⟨rfl, rfl, rfl, rfl, rfl, rfl, rfl, rfl, rfl, rfl, rfl, rfl, trivial⟩ ⟨rS, rowLe_open rfl rfl rfl (fun q => nomatch q) rfl rfl rfl rfl, rowLe_open rfl rfl rfl (fun q => nomatch q) rfl rfl rfl rfl, rS, trivial⟩) (fun q73 x72 h hx54 => ?_)
   obtain ⟨s70, s71⟩ := q73
   refine pw_seq <| sR <| y0 rfl (o_loadA (cs := queue_Queue_int.Pc s70) rfl rfl rfl Ty.a134 Ty.s134 nl rfl) ?_
   obtain ⟨v74, hv55, h⟩ := bindE h
   refine y0 rfl (o_call (ds := [queue_Queue_int.Pv s70]) rfl Ty.k118 rfl (queue_Len_int_ok hv55)) <| y0 rfl (o_cmp rfl rfl rfl) <| y_nil ?_
   refine pw_cond (decide (v74 > 0)) rfl (fun hc => ?_) (fun hc => ?_)
   ·have h := ifT h hc
    refine pw_skip <| pw_block <| sR <| y0 rfl (o_assign (d := .int .i64 0) rfl) <| y_nil <| sR <| y0 rfl (o_loadA (cs := queue_Queue_int.Pc s70) rfl rfl rfl Ty.a134 Ty.s134 nl rfl) ?_
    obtain ⟨v75, hv56, h⟩ := bindE h
    refine yc rfl (o_callF (ls := []) (ds := [queue_Queue_int.Pv s70]) rfl Ty.k119 rfl (queue_Pop_int_ok hv56)) <| y0 rfl (o_move (d := .tup [queue_Queue_int.Pv v75.1, .int .i64 v75.2.1, .int .i64 v75.2.2]) rfl) <| y0 rfl (o_extract rfl rfl) <| y0 rfl (o_extract rfl rfl) <| y0 rfl (o_extract rfl rfl) <| y_sto (x' := queue_Queue_int.Pv v75.1) (cl' := true) rfl rfl (.inr rfl) Ty.s134 <| y0 rfl (o_assign (d := .int .i64 v75.2.1) rfl) <| y_nil ?_
    refine sr1 (by kernel_rfl) <| y0 rfl (o_move (d := .fn (.func 116) [.ptr 2003 0 0, .ptr 2002 0 0, .ptr 2001 0 0]) rfl) <| y0 rfl (o_loadA (cs := store_Store.Pc a0) rfl rfl rfl Ty.a26 Ty.s26 nl rfl) <| y0 rfl (o_move (d := .int .i64 v75.2.1) rfl) ?_
    obtain ⟨v76, hv57, h⟩ := bindE h
    refine yc rfl (o_callF (ls := []) (ds := [store_Store.Pv a0, .int .i64 v75.2.1]) rfl Ty.k36 rfl (refs_Out_ok hv57)) <| y_wk (wk_st [(2, .ptr 2003 0 0), (5, .ptr 2002 0 0), (6, .ptr 2001 0 0), (7, .fn (.func 116) [.ptr 2003 0 0, .ptr 2002 0 0, .ptr 2001 0 0]), (27, .fn (.func 116) [.ptr 2003 0 0, .ptr 2002 0 0, .ptr 2001 0 0]), (30, .lst false (List.map (PV.int .i64) v76))] [(2001, ⟨[queue_Queue_int.Pv v75.1], 0, false, 2, true⟩), (2002, ⟨[.mp 5002004], 0, false, 1, false⟩), (5002004, ⟨[.mapc (List.map (ent (PV.int .i64) PV.bool) s71)], 0, false, 0, false⟩), (2003, ⟨[store_Store.Pv a0], 0, false, 3, true⟩)] ⟨rfl, rfl, rfl, rfl, rfl, rfl, rfl, rfl, rfl, rfl, rfl, rfl, rfl, rfl, rfl, rfl, rfl, rfl, trivial⟩ ⟨rS, rowLe_open rfl rfl rfl (fun q => nomatch q) rfl rfl rfl rfl, rowLe_open rfl rfl rfl (fun q => nomatch q) rfl rfl rfl rfl, rS, trivial⟩) ?_
    refine y_inl (fn := Try.f116) (N1 := 31) rfl rfl Try.func116 rfl Ty.k116 rfl rfl nl (fun e58 o59 => ?_)
    obtain ⟨κ93, hκ72, h⟩ := jnE h
    refine pw_jnR (κ := κ93) (r := x72) (fun (q : queue_Queue_int × (List (Int × Bool))) => St.of [(1000002, .ptr 2003 0 0), (1000005, .ptr 2002 0 0), (1000006, .ptr 2001 0 0), (1000007, .fn (.func 116) [.ptr 2003 0 0, .ptr 2002 0 0, .ptr 2001 0 0]), (1000027, .fn (.func 116) [.ptr 2003 0 0, .ptr 2002 0 0, .ptr 2001 0 0]), (1000030, .lst false (List.map (PV.int .i64) v76))] [(2001, ⟨[queue_Queue_int.Pv q.1], 0, false, 2, true⟩), (2002, ⟨[.mp 5002004], 0, false, 1, false⟩), (5002004, ⟨[.mapc (List.map (ent (PV.int .i64) PV.bool) q.2)], 0, false, 0, false⟩), (2003, ⟨[store_Store.Pv a0], 0, false, 3, true⟩)]) (fun q96 h => dup ?_) ?_
    ·subst hκ72
     obtain ⟨j94, j95⟩ := q96
     refine ⟨rfl, [], trivial, ?_⟩
     refine y_wk (wk_st [(2, .ptr 2003 0 0), (5, .ptr 2002 0 0), (6, .ptr 2001 0 0), (7, .fn (.func 116) [.ptr 2003 0 0, .ptr 2002 0 0, .ptr 2001 0 0])] [(2001, ⟨[queue_Queue_int.Pv j94], 0, false, 2, true⟩), (2002, ⟨[.mp 5002004], 0, false, 1, false⟩), (5002004, ⟨[.mapc (List.map (ent (PV.int .i64) PV.bool) j95)], 0, false, 0, false⟩), (2003, ⟨[store_Store.Pv a0], 0, false, 3, true⟩)] ⟨rfl, rfl, rfl, rfl, rfl, rfl, rfl, rfl, rfl, rfl, rfl, rfl, trivial⟩ ⟨rS, rowLe_open rfl rfl rfl (fun q => nomatch q) rfl rfl rfl rfl, rowLe_open rfl rfl rfl (fun q => nomatch q) rfl rfl rfl rfl, rS, trivial⟩) <| y_nil ?_
     exact ⟨rfl, (j94, j95), (Option.some.inj h).symm, (wk_st _ _ ⟨rfl, rfl, rfl, rfl, rfl, rfl, rfl, rfl, rfl, rfl, rfl, rfl, trivial⟩ ⟨rS, rowLe_open rfl rfl rfl (fun q => nomatch q) rfl rfl rfl rfl, rowLe_open rfl rfl rfl (fun q => nomatch q) rfl rfl rfl rfl, rS, trivial⟩)⟩
    ·skip
     refine sR <| y0 rfl (o_move (d := .lst false (List.map (PV.int .i64) v76)) rfl) <| y0 rfl (o_lnL (f := (PV.int .i64)) rfl Ty.e27) <| y0 rfl (o_move (d := .int .i64 0) rfl) <| y_nil <| pw_block ?_
     obtain ⟨e97, hl73, hk74⟩ := bindE h
     refine pw_lp0 (fun (q : Int × queue_Queue_int × (List (Int × Bool))) => St.of [(1000002, .ptr 2003 0 0), (1000005, .ptr 2002 0 0), (1000006, .ptr 2001 0 0), (1000007, .fn (.func 116) [.ptr 2003 0 0, .ptr 2002 0 0, .ptr 2001 0 0]), (1000027, .fn (.func 116) [.ptr 2003 0 0, .ptr 2002 0 0, .ptr 2001 0 0]), (1000030, .lst false (List.map (PV.int .i64) v76)), (1, .ptr 2003 0 0), (2, .ptr 2002 0 0), (3, .ptr 2001 0 0), (7, .lst false (List.map (PV.int .i64) v76)), (8, .int .i64 (v76.length : Int)), (9, .int .i64 q.1)] [(2001, ⟨[queue_Queue_int.Pv q.2.1], 0, false, 2, true⟩), (2002, ⟨[.mp 5002004], 0, false, 1, false⟩), (5002004, ⟨[.mapc (List.map (ent (PV.int .i64) PV.bool) q.2.2)], 0, false, 0, false⟩), (2003, ⟨[store_Store.Pv a0], 0, false, 3, true⟩)]) hl73 (wk_st _ _ ⟨rfl, rfl, rfl, rfl, rfl, rfl, rfl, rfl, rfl, rfl, rfl, rfl, rfl, rfl, rfl, rfl, rfl, rfl, rfl, rfl, rfl, rfl, rfl, rfl, rfl, rfl, rfl, rfl, rfl, rfl, rfl, rfl, rfl, rfl, rfl, rfl, trivial⟩ ⟨rS, rowLe_open rfl rfl rfl (fun q => nomatch q) rfl rfl rfl rfl, rowLe_open rfl rfl rfl (fun q => nomatch q) rfl rfl rfl rfl, rS, trivial⟩) (fun q102 x101 h hx75 => ?_)
     obtain ⟨s98, s99, s100⟩ := q102
     refine sR <| y0 rfl (o_cmp rfl rfl rfl) <| y_nil <| pw_seq ?_
     refine pw_cond (decide (s98 < (v76.length : Int))) rfl (fun hc => ?_) (fun hc => ?_)
     ·have h := ifT h hc
      refine pw_skip ?_
      obtain ⟨κ106, hκ80, h⟩ := jnE h
      refine pw_jn0 (κ := κ106) (r := x101) (fun (q : queue_Queue_int × (List (Int × Bool))) => St.of [(1000002, .ptr 2003 0 0), (1000005, .ptr 2002 0 0), (1000006, .ptr 2001 0 0), (1000007, .fn (.func 116) [.ptr 2003 0 0, .ptr 2002 0 0, .ptr 2001 0 0]), (1000027, .fn (.func 116) [.ptr 2003 0 0, .ptr 2002 0 0, .ptr 2001 0 0]), (1000030, .lst false (List.map (PV.int .i64) v76)), (1, .ptr 2003 0 0), (2, .ptr 2002 0 0), (3, .ptr 2001 0 0), (7, .lst false (List.map (PV.int .i64) v76)), (8, .int .i64 (v76.length : Int)), (9, .int .i64 s98)] [(2001, ⟨[queue_Queue_int.Pv q.1], 0, false, 2, true⟩), (2002, ⟨[.mp 5002004], 0, false, 1, false⟩), (5002004, ⟨[.mapc (List.map (ent (PV.int .i64) PV.bool) q.2)], 0, false, 0, false⟩), (2003, ⟨[store_Store.Pv a0], 0, false, 3, true⟩)]) (fun q109 h => ?_) ?_
      ·subst hκ80
       obtain ⟨j107, j108⟩ := q109
       refine sr1 (by kernel_rfl) <| y0 rfl (o_ari rfl rfl rfl) <| y0 rfl (o_move (d := .int .i64 (w64 (s98 + 1))) rfl) <| y_nil ?_
       exact ⟨rfl, (w64 (s98 + 1), j107, j108), (Option.some.inj h).symm, (wk_st _ _ ⟨rfl, rfl, rfl, rfl, rfl, rfl, rfl, rfl, rfl, rfl, rfl, rfl, rfl, rfl, rfl, rfl, rfl, rfl, rfl, rfl, rfl, rfl, rfl, rfl, rfl, rfl, rfl, rfl, rfl, rfl, rfl, rfl, rfl, rfl, rfl, rfl, trivial⟩ ⟨rS, rowLe_open rfl rfl rfl (fun q => nomatch q) rfl rfl rfl rfl, rowLe_open rfl rfl rfl (fun q => nomatch q) rfl rfl rfl rfl, rS, trivial⟩)⟩
      ·skip
       refine pw_block <| sR ?_
       obtain ⟨v110, hv81, h⟩ := bindE h
       refine y0 rfl (o_ixL (f := (PV.int .i64)) (cs := [.int .i64 v110]) hv81 rfl rfl Ty.e27 Ty.s3 rfl rfl) <| y0 rfl (o_loadRS rfl Ty.a3 rfl) <| y0 rfl (o_assign (d := .int .i64 v110) rfl) <| y_nil <| sR <| y0 rfl (o_loadA (cs := store_Store.Pc a0) rfl rfl rfl Ty.a26 Ty.s26 nl rfl) <| y0 rfl (o_move (d := .int .i64 v110) rfl) ?_
       obtain ⟨v111, hv82, h⟩ := bindE h
       refine y0 rfl (o_call (ds := [store_Store.Pv a0, .int .i64 v110]) rfl Ty.k96 rfl (reach_isLive_ok hv82)) <| y0 rfl (o_move (d := .bool v111) rfl) <| y_if (g := (v111 == true)) rfl (fun hg => o_loadS rfl rfl rfl Ty.a112 rfl) <| y_if (g := (v111 == true)) rfl (fun hg => o_move (d := .int .i64 v110) rfl) ?_
       rcases Bool.eq_false_or_eq_true (v111 == true) with hg83 | hg83
       ·have h := ifT h hg83
        refine y_lkM (es := s100) (k := v110) (E := PV.bool) (EK := (PV.int .i64)) (d := .bool ((mget s100 v110).getD (false : Bool))) (congrArg some hg83) (ct hg83) rfl (ct hg83) Ty.mm112 (keyT_int Ty.u3) Ty.z4 rfl (lk1 _ _ _) <| y0 (congrArg some hg83) (o_not rfl rfl) <| y0 rfl (pk_andT rfl rfl hg83) <| y_nil ?_
        refine pw_cond (!((mget s100 v110).getD (false : Bool))) rfl (fun hc => ?_) (fun hc => ?_)
        ·have h := ifT h hc
         refine sR <| y0 rfl (o_loadS rfl rfl rfl Ty.a112 rfl) <| y0 rfl (o_move (d := .int .i64 v110) rfl) <| y_setM (es := s100) (k := v110) (v := true) (E := PV.bool) (EK := (PV.int .i64)) (.inl rfl) rfl rfl rfl rfl rfl rfl Ty.mm112 (keyT_int Ty.u3) <| y_nil <| sr1 (by kernel_rfl) <| y0 rfl (o_loadA (cs := queue_Queue_int.Pc s99) rfl rfl rfl Ty.a134 Ty.s134 nl rfl) <| y0 rfl (o_move (d := .int .i64 v110) rfl) ?_
         obtain ⟨v112, hv84, h⟩ := bindE h
         refine yc rfl (o_callF (ls := []) (ds := [queue_Queue_int.Pv s99, .int .i64 v110]) rfl Ty.k117 rfl (queue_Push_int_ok hv84)) <| y0 rfl (o_move (d := .tup [queue_Queue_int.Pv v112.1, .int .i64 v112.2]) rfl) <| y0 rfl (o_extract rfl rfl) <| y0 rfl (o_extract rfl rfl) <| y_sto (x' := queue_Queue_int.Pv v112.1) (cl' := true) rfl rfl (.inr rfl) Ty.s134 <| y_nil ?_
         exact ⟨rfl, (v112.1, (mput s100 v110 true)), h, (wk_st _ _ ⟨rfl, rfl, rfl, rfl, rfl, rfl, rfl, rfl, rfl, rfl, rfl, rfl, rfl, rfl, rfl, rfl, rfl, rfl, rfl, rfl, rfl, rfl, rfl, rfl, rfl, rfl, rfl, rfl, rfl, rfl, rfl, rfl, rfl, rfl, rfl, rfl, trivial⟩ ⟨rS, rowLe_open rfl rfl rfl (fun q => nomatch q) rfl rfl rfl rfl, rowLe_open rfl rfl rfl (fun q => nomatch q) rfl rfl rfl rfl, rS, trivial⟩)⟩
        ·have h := ifF h hc
         refine pw_skip ?_
         exact ⟨rfl, (s99, s100), h, (wk_st _ _ ⟨rfl, rfl, rfl, rfl, rfl, rfl, rfl, rfl, rfl, rfl, rfl, rfl, rfl, rfl, rfl, rfl, rfl, rfl, rfl, rfl, rfl, rfl, rfl, rfl, rfl, rfl, rfl, rfl, rfl, rfl, rfl, rfl, rfl, rfl, rfl, rfl, trivial⟩ ⟨rS, rowLe_open rfl rfl rfl (fun q => nomatch q) rfl rfl rfl rfl, rowLe_open rfl rfl rfl (fun q => nomatch q) rfl rfl rfl rfl, rS, trivial⟩)⟩
       ·have h := ifF h hg83
        refine y_skip (congrArg some hg83) <| y_skip (congrArg some hg83) <| y0 rfl (pk_andF rfl rfl hg83) <| y_nil ?_
        refine pw_cond false rfl (fun q => nomatch q) (fun _ => ?_)
        refine pw_skip ?_
        exact ⟨rfl, (s99, s100), h, (wk_st _ _ ⟨rfl, rfl, rfl, rfl, rfl, rfl, rfl, rfl, rfl, rfl, rfl, rfl, rfl, rfl, rfl, rfl, rfl, rfl, rfl, rfl, rfl, rfl, rfl, rfl, rfl, rfl, rfl, rfl, rfl, rfl, rfl, rfl, rfl, rfl, rfl, rfl, trivial⟩ ⟨rS, rowLe_open rfl rfl rfl (fun q => nomatch q) rfl rfl rfl rfl, rowLe_open rfl rfl rfl (fun q => nomatch q) rfl rfl rfl rfl, rS, trivial⟩)⟩
     ·have h := ifF h hc
      refine pw_exit <| thenQ_exit <| thenQ_exit <| blockQ_exit ?_
      have he := hx75 _ (Option.some.inj h).symm
      have h := hk74
      rw [← he] at h
      exact ⟨rfl, (s99, s100), h, (wk_st _ _ ⟨rfl, rfl, rfl, rfl, rfl, rfl, rfl, rfl, rfl, rfl, rfl, rfl, rfl, rfl, rfl, rfl, rfl, rfl, trivial⟩ ⟨rS, rowLe_open rfl rfl rfl (fun q => nomatch q) rfl rfl rfl rfl, rowLe_open rfl rfl rfl (fun q => nomatch q) rfl rfl rfl rfl, rS, trivial⟩)⟩
   ·have h := ifF h hc
    refine pw_exit <| thenQ_exit <| thenQ_exit <| blockQ_exit ?_
    have he := hx54 _ (Option.some.inj h).symm
    have h := hk53
    rw [← he] at h
    exact ⟨rfl, s71, h, (wk_st _ _ ⟨rfl, rfl, rfl, trivial⟩ ⟨rowLe_open rfl rfl rfl (fun q => nomatch q) rfl rfl rfl rfl, rowLe_open rfl rfl rfl (fun q => nomatch q) rfl rfl rfl rfl, trivial⟩)⟩
 ·skip
  refine sR <| y0 rfl (o_move (d := .lst false (List.map (PV.int .i64) a1)) rfl) <| y0 rfl (o_lnL (f := (PV.int .i64)) rfl Ty.e27) <| y0 rfl (o_move (d := .int .i64 0) rfl) <| y_nil <| pw_block ?_
  obtain ⟨e113, hl85, hk86⟩ := bindE h
  refine pw_lp0 (fun (q : Int × queue_Queue_int × (List (Int × Bool))) => St.of [(1000002, .ptr 2003 0 0), (1000005, .ptr 2002 0 0), (1000006, .ptr 2001 0 0), (1000007, .fn (.func 116) [.ptr 2003 0 0, .ptr 2002 0 0, .ptr 2001 0 0]), (1000015, .fn (.func 116) [.ptr 2003 0 0, .ptr 2002 0 0, .ptr 2001 0 0]), (1000016, .lst false (List.map (PV.int .i64) a1)), (1, .ptr 2003 0 0), (2, .ptr 2002 0 0), (3, .ptr 2001 0 0), (7, .lst false (List.map (PV.int .i64) a1)), (8, .int .i64 (a1.length : Int)), (9, .int .i64 q.1)] [(2001, ⟨[queue_Queue_int.Pv q.2.1], 0, false, 2, true⟩), (2002, ⟨[.mp 5002004], 0, false, 1, false⟩), (5002004, ⟨[.mapc (List.map (ent (PV.int .i64) PV.bool) q.2.2)], 0, false, 0, false⟩), (2003, ⟨[store_Store.Pv a0], 0, false, 3, true⟩)]) hl85 (wk_st _ _ ⟨rfl, rfl, rfl, rfl, rfl, rfl, rfl, rfl, rfl, rfl, rfl, rfl, rfl, rfl, rfl, rfl, rfl, rfl, rfl, rfl, rfl, rfl, rfl, rfl, rfl, rfl, rfl, rfl, rfl, rfl, rfl, rfl, rfl, rfl, rfl, rfl, trivial⟩ ⟨rS, rowLe_open rfl rfl rfl (fun q => nomatch q) rfl rfl rfl rfl, rowLe_open rfl rfl rfl (fun q => nomatch q) rfl rfl rfl rfl, rS, trivial⟩) (fun q118 x117 h hx87 => ?_)
  obtain ⟨s114, s115, s116⟩ := q118
  refine sR <| y0 rfl (o_cmp rfl rfl rfl) <| y_nil <| pw_seq ?_
  refine pw_cond (decide (s114 < (a1.length : Int))) rfl (fun hc => ?_) (fun hc => ?_)
  ·have h := ifT h hc
   refine pw_skip ?_
   obtain ⟨κ122, hκ92, h⟩ := jnE h
   refine pw_jn0 (κ := κ122) (r := x117) (fun (q : queue_Queue_int × (List (Int × Bool))) => St.of [(1000002, .ptr 2003 0 0), (1000005, .ptr 2002 0 0), (1000006, .ptr 2001 0 0), (1000007, .fn (.func 116) [.ptr 2003 0 0, .ptr 2002 0 0, .ptr 2001 0 0]), (1000015, .fn (.func 116) [.ptr 2003 0 0, .ptr 2002 0 0, .ptr 2001 0 0]), (1000016, .lst false (List.map (PV.int .i64) a1)), (1, .ptr 2003 0 0), (2, .ptr 2002 0 0), (3, .ptr 2001 0 0), (7, .lst false (List.map (PV.int .i64) a1)), (8, .int .i64 (a1.length : Int)), (9, .int .i64 s114)] [(2001, ⟨[queue_Queue_int.Pv q.1], 0, false, 2, true⟩), (2002, ⟨[.mp 5002004], 0, false, 1, false⟩), (5002004, ⟨[.mapc (List.map (ent (PV.int .i64) PV.bool) q.2)], 0, false, 0, false⟩), (2003, ⟨[store_Store.Pv a0], 0, false, 3, true⟩)]) (fun q125 h => ?_) ?_
   ·subst hκ92
    obtain ⟨j123, j124⟩ := q125
    refine sr1 (by kernel_rfl) <| y0 rfl (o_ari rfl rfl rfl) <| y0 rfl (o_move (d := .int .i64 (w64 (s114 + 1))) rfl) <| y_nil ?_
    exact ⟨rfl, (w64 (s114 + 1), j123, j124), (Option.some.inj h).symm, (wk_st _ _ ⟨rfl, rfl, rfl, rfl, rfl, rfl, rfl, rfl, rfl, rfl, rfl, rfl, rfl, rfl, rfl, rfl, rfl, rfl, rfl, rfl, rfl, rfl, rfl, rfl, rfl, rfl, rfl, rfl, rfl, rfl, rfl, rfl, rfl, rfl, rfl, rfl, trivial⟩ ⟨rS, rowLe_open rfl rfl rfl (fun q => nomatch q) rfl rfl rfl rfl, rowLe_open rfl rfl rfl (fun q => nomatch q) rfl rfl rfl rfl, rS, trivial⟩)⟩
   ·skip
    refine pw_block <| sR ?_
    obtain ⟨v126, hv93, h⟩ := bindE h
    refine y0 rfl (o_ixL (f := (PV.int .i64)) (cs := [.int .i64 v126]) hv93 rfl rfl Ty.e27 Ty.s3 rfl rfl) <| y0 rfl (o_loadRS rfl Ty.a3 rfl) <| y0 rfl (o_assign (d := .int .i64 v126) rfl) <| y_nil <| sR <| y0 rfl (o_loadA (cs := store_Store.Pc a0) rfl rfl rfl Ty.a26 Ty.s26 nl rfl) <| y0 rfl (o_move (d := .int .i64 v126) rfl) ?_
    obtain ⟨v127, hv94, h⟩ := bindE h
    refine y0 rfl (o_call (ds := [store_Store.Pv a0, .int .i64 v126]) rfl Ty.k96 rfl (reach_isLive_ok hv94)) <| y0 rfl (o_move (d := .bool v127) rfl) <| y_if (g := (v127 == true)) rfl (fun hg => o_loadS rfl rfl rfl Ty.a112 rfl) <| y_if (g := (v127 == true)) rfl (fun hg => o_move (d := .int .i64 v126) rfl) ?_
    rcases Bool.eq_false_or_eq_true (v127 == true) with hg95 | hg95
    ·have h := ifT h hg95
     refine y_lkM (es := s116) (k := v126) (E := PV.bool) (EK := (PV.int .i64)) (d := .bool ((mget s116 v126).getD (false : Bool))) (congrArg some hg95) (ct hg95) rfl (ct hg95) Ty.mm112 (keyT_int Ty.u3) Ty.z4 rfl (lk1 _ _ _) <| y0 (congrArg some hg95) (o_not rfl rfl) <| y0 rfl (pk_andT rfl rfl hg95) <| y_nil ?_
     refine pw_cond (!((mget s116 v126).getD (false : Bool))) rfl (fun hc => ?_) (fun hc => ?_)
     ·have h := ifT h hc
      refine sR <| y0 rfl (o_loadS rfl rfl rfl Ty.a112 rfl) <| y0 rfl (o_move (d := .int .i64 v126) rfl) <| y_setM (es := s116) (k := v126) (v := true) (E := PV.bool) (EK := (PV.int .i64)) (.inl rfl) rfl rfl rfl rfl rfl rfl Ty.mm112 (keyT_int Ty.u3) <| y_nil <| sr1 (by kernel_rfl) <| y0 rfl (o_loadA (cs := queue_Queue_int.Pc s115) rfl rfl rfl Ty.a134 Ty.s134 nl rfl) <| y0 rfl (o_move (d := .int .i64 v126) rfl) ?_
      obtain ⟨v128, hv96, h⟩ := bindE h
      refine yc rfl (o_callF (ls := []) (ds := [queue_Queue_int.Pv s115, .int .i64 v126]) rfl Ty.k117 rfl (queue_Push_int_ok hv96)) <| y0 rfl (o_move (d := .tup [queue_Queue_int.Pv v128.1, .int .i64 v128.2]) rfl) <| y0 rfl (o_extract rfl rfl) <| y0 rfl (o_extract rfl rfl) <| y_sto (x' := queue_Queue_int.Pv v128.1) (cl' := true) rfl rfl (.inr rfl) Ty.s134 <| y_nil ?_
      exact ⟨rfl, (v128.1, (mput s116 v126 true)), h, (wk_st _ _ ⟨rfl, rfl, rfl, rfl, rfl, rfl, rfl, rfl, rfl, rfl, rfl, rfl, rfl, rfl, rfl, rfl, rfl, rfl, rfl, rfl, rfl, rfl, rfl, rfl, rfl, rfl, rfl, rfl, rfl, rfl, rfl, rfl, rfl, rfl, rfl, rfl, trivial⟩ ⟨rS, rowLe_open rfl rfl rfl (fun q => nomatch q) rfl rfl rfl rfl, rowLe_open rfl rfl rfl (fun q => nomatch q) rfl rfl rfl rfl, rS, trivial⟩)⟩
     ·have h := ifF h hc
      refine pw_skip ?_
      exact ⟨rfl, (s115, s116), h, (wk_st _ _ ⟨rfl, rfl, rfl, rfl, rfl, rfl, rfl, rfl, rfl, rfl, rfl, rfl, rfl, rfl, rfl, rfl, rfl, rfl, rfl, rfl, rfl, rfl, rfl, rfl, rfl, rfl, rfl, rfl, rfl, rfl, rfl, rfl, rfl, rfl, rfl, rfl, trivial⟩ ⟨rS, rowLe_open rfl rfl rfl (fun q => nomatch q) rfl rfl rfl rfl, rowLe_open rfl rfl rfl (fun q => nomatch q) rfl rfl rfl rfl, rS, trivial⟩)⟩
    ·have h := ifF h hg95
     refine y_skip (congrArg some hg95) <| y_skip (congrArg some hg95) <| y0 rfl (pk_andF rfl rfl hg95) <| y_nil ?_
     refine pw_cond false rfl (fun q => nomatch q) (fun _ => ?_)
     refine pw_skip ?_
     exact ⟨rfl, (s115, s116), h, (wk_st _ _ ⟨rfl, rfl, rfl, rfl, rfl, rfl, rfl, rfl, rfl, rfl, rfl, rfl, rfl, rfl, rfl, rfl, rfl, rfl, rfl, rfl, rfl, rfl, rfl, rfl, rfl, rfl, rfl, rfl, rfl, rfl, rfl, rfl, rfl, rfl, rfl, rfl, trivial⟩ ⟨rS, rowLe_open rfl rfl rfl (fun q => nomatch q) rfl rfl rfl rfl, rowLe_open rfl rfl rfl (fun q => nomatch q) rfl rfl rfl rfl, rS, trivial⟩)⟩
  ·have h := ifF h hc
   refine pw_exit <| thenQ_exit <| thenQ_exit <| blockQ_exit ?_
   have he := hx87 _ (Option.some.inj h).symm
   have h := hk86
   rw [← he] at h
   exact ⟨rfl, (s115, s116), h, (wk_st _ _ ⟨rfl, rfl, rfl, rfl, rfl, rfl, rfl, rfl, rfl, rfl, rfl, rfl, rfl, rfl, rfl, rfl, rfl, rfl, trivial⟩ ⟨rS, rowLe_open rfl rfl rfl (fun q => nomatch q) rfl rfl rfl rfl, rowLe_open rfl rfl rfl (fun q => nomatch q) rfl rfl rfl rfl, rS, trivial⟩)⟩

theorem reach_From_1_ok {a0 : Int} {a1 : List (Int × Bool)} {r : Bool} (h : reach_From_1 a0 a1 = some r) : PCalls Try.prog 91 [.int .i64 a0, .rptr [.abs (ImMap (List.map (ent (PV.int .i64) PV.bool) a1))]] (.bool r) := by
 unfold reach_From_1 at h
 refine pc_intro (N := 7) Try.func91 rfl rfl nl fun w0 imm0 => sR <| y0 rfl (o_assign (d := .bool false) rfl) <| y_nil <| sR <| y0 rfl (o_loadRS rfl Ty.a112 rfl) <| y0 rfl (o_move (d := .int .i64 a0) rfl) <| y0 rfl (o_lkI (es := a1) (k := a0) (E := PV.bool) (EK := (PV.int .i64)) (d := .bool ((mget a1 a0).getD (false : Bool))) rfl rfl Ty.mm112 (keyT_int Ty.u3) Ty.z4 rfl (lk1 _ _ _)) ?_
 refine y0 rfl (o_assign (d := .bool ((mget a1 a0).getD (false : Bool))) rfl) <| y_nil <| pw_ret ?_
 obtain rfl := Option.some.inj h
 exact ⟨rfl, [_], ⟨rfl, trivial⟩, rfl, io⟩

theorem reach_live__reach_From_1_ok {a0 : store_Store} {a1 : List (Int × Bool)} {r : List Int} (h : reach_live__reach_From_1 a0 a1 = some r) : PCalls Try.prog 90 [store_Store.Pv a0, .fn (.func 91) [.rptr [.abs (ImMap (List.map (ent (PV.int .i64) PV.bool) a1))]]] (.lst false (List.map (PV.int .i64) r)) := by
 unfold reach_live__reach_From_1 at h
 refine pc_intro (N := 24) Try.func90 rfl rfl nl fun w0 imm0 => sR <| y1 rfl (o_box (d := store_Store.Pv a0) (z := 3) (cl := true) rfl rfl rfl rfl rfl) rfl <| y0 rfl (o_assign (d := .lst true (List.map (PV.int .i64) [])) rfl) <| y_nil <| sR <| y0 rfl (o_assign (d := .lst true (List.map (PV.int .i64) [])) rfl) <| y_nil ?_
 obtain ⟨κ15, hκ12, h⟩ := jnE h
 refine pw_jn0 (κ := κ15) (r := r) (fun (j16 : List Int) => St.of [(5, .sl 910005)] [(910005, ⟨List.map (PV.int .i64) j16, (List.map (PV.int .i64) j16).length, true, 1, true⟩)]) (fun j16 h => ?_) ?_
 ·subst hκ12
  refine sR <| y0 rfl (o_move (d := .sl 910005) rfl) <| y0 rfl (o_assign (d := .sl 910005) rfl) <| y_nil <| pw_ret ?_
  obtain rfl := Option.some.inj h
  exact ⟨rfl, [_], ⟨rfl, trivial⟩, rfl, io⟩
 ·skip
  refine sR <| y0 rfl (o_loadA (cs := store_Store.Pc a0) rfl rfl rfl Ty.a26 Ty.s26 nl rfl) ?_
  obtain ⟨v17, hv13, h⟩ := bindE h
  refine yc rfl (o_callF (ls := []) (ds := [store_Store.Pv a0]) rfl Ty.k30 rfl (store_Live_ok hv13)) <| y0 rfl (o_lnL (f := (PV.int .i64)) rfl Ty.e27) <| y0 rfl (o_move (d := .int .i64 0) rfl) <| y_nil <| pw_block ?_
  obtain ⟨e18, hl14, hk15⟩ := bindE h
  refine pw_lp0 (fun (q : Int × (List Int)) => St.of [(1, .fn (.func 91) [.rptr [.abs (ImMap (List.map (ent (PV.int .i64) PV.bool) a1))]]), (5, .sl 910005), (9, .lst false (List.map (PV.int .i64) v17)), (10, .int .i64 (v17.length : Int)), (11, .int .i64 q.1)] [(910005, ⟨List.map (PV.int .i64) q.2, (List.map (PV.int .i64) q.2).length, true, 1, true⟩)]) hl14 (Wk.trans (wk_nil (t := 5) (l := 920005) (z := 1) rfl rfl) (wk_stP (fun l => if l = 910005 then 920005 else l) _ _ ⟨rfl, rfl, rfl, rfl, rfl, rfl, rfl, rfl, rfl, rfl, rfl, rfl, rfl, rfl, rfl, trivial⟩ ⟨rN, trivial⟩ rfl)) (fun q22 x21 h hx16 => ?_)
  obtain ⟨s19, s20⟩ := q22
  refine sR <| y0 rfl (o_cmp rfl rfl rfl) <| y_nil <| pw_seq ?_
  refine pw_cond (decide (s19 < (v17.length : Int))) rfl (fun hc => ?_) (fun hc => ?_)
  ·have h := ifT h hc
   refine pw_skip ?_
   obtain ⟨κ26, hκ20, h⟩ := jnE h
   refine pw_jn0 (κ := κ26) (r := x21) (fun (j27 : List Int) => St.of [(1, .fn (.func 91) [.rptr [.abs (ImMap (List.map (ent (PV.int .i64) PV.bool) a1))]]), (5, .sl 21), (9, .lst false (List.map (PV.int .i64) v17)), (10, .int .i64 (v17.length : Int)), (11, .int .i64 s19)] [(21, ⟨List.map (PV.int .i64) j27, (List.map (PV.int .i64) j27).length, true, 1, true⟩)]) (fun j27 h => ?_) ?_
   ·subst hκ20
    refine sr1 (by kernel_rfl) <| y0 rfl (o_ari rfl rfl rfl) <| y0 rfl (o_move (d := .int .i64 (w64 (s19 + 1))) rfl) <| y_nil ?_
    exact ⟨rfl, (w64 (s19 + 1), j27), (Option.some.inj h).symm, (Wk.trans (wk_frz _ [21]) (wk_stP (fun l => if l = 910005 then 21 else l) _ _ ⟨rfl, rfl, rfl, rfl, rfl, rfl, rfl, rfl, rfl, rfl, rfl, rfl, rfl, rfl, rfl, trivial⟩ ⟨rN, trivial⟩ rfl))⟩
   ·skip
    refine pw_block <| sR ?_
    obtain ⟨v28, hv21, h⟩ := bindE h
    refine y0 rfl (o_ixL (f := (PV.int .i64)) (cs := [.int .i64 v28]) hv21 rfl rfl Ty.e27 Ty.s3 rfl rfl) <| y0 rfl (o_loadRS rfl Ty.a3 rfl) <| y0 rfl (o_assign (d := .int .i64 v28) rfl) <| y_nil <| sR <| y0 rfl (o_move (d := .fn (.func 91) [.rptr [.abs (ImMap (List.map (ent (PV.int .i64) PV.bool) a1))]]) rfl) <| y0 rfl (o_move (d := .int .i64 v28) rfl) ?_
    obtain ⟨v29, hv22, h⟩ := bindE h
    refine y0 rfl (o_call (ds := [.int .i64 v28, .rptr [.abs (ImMap (List.map (ent (PV.int .i64) PV.bool) a1))]]) rfl Ty.k91 rfl (reach_From_1_ok hv22)) <| y_nil ?_
    refine pw_cond v29 rfl (fun hc => ?_) (fun hc => ?_)
    ·have h := ifT h hc
     refine sr1 (by kernel_rfl) <| y0 rfl (o_move (d := .sl 910005) rfl) <| y0 rfl (o_move (d := .int .i64 v28) rfl) <| y0 rfl (o_bI (f := (PV.int .i64)) (l := [v28]) rfl Ty.e27 Ty.s3 Ty.z3 rfl rfl nl rfl rfl) ?_
     obtain ⟨v30, hv23, h⟩ := bindE h
     refine y_app rfl (o_apR (f := (PV.int .i64)) hv23 rfl rfl rfl rfl rfl rfl (.inl ⟨_, rfl, rfl⟩) Ty.e27 Ty.s3 Ty.b3 Ty.z3 rfl (fun _ => rfl)) rfl rfl rfl <| y0 rfl (o_assign (d := .sl 21) rfl) <| y_nil ?_
     exact ⟨rfl, v30, h, (Wk.trans (wk_frz _ [21]) (wk_st _ _ ⟨rfl, rfl, rfl, rfl, rfl, rfl, rfl, rfl, rfl, rfl, rfl, rfl, rfl, rfl, rfl, trivial⟩ ⟨rS, trivial⟩))⟩
    ·have h := ifF h hc
     refine pw_skip ?_
     exact ⟨rfl, s20, h, (Wk.trans (wk_frz _ [910005]) (wk_stP (fun l => if l = 21 then 910005 else l) _ _ ⟨rfl, rfl, rfl, rfl, rfl, rfl, rfl, rfl, rfl, rfl, rfl, rfl, rfl, rfl, rfl, trivial⟩ ⟨rN, trivial⟩ rfl))⟩
  ·have h := ifF h hc
   refine pw_exit <| thenQ_exit <| thenQ_exit <| blockQ_exit ?_
   have he := hx16 _ (Option.some.inj h).symm
   have h := hk15
   rw [← he] at h
   exact ⟨rfl, s20, h, (Wk.trans (wk_frz _ [910005]) (wk_st _ _ ⟨rfl, rfl, rfl, trivial⟩ ⟨rS, trivial⟩))⟩

theorem reach_From_ok {a0 : store_Store} {a1 : List Int} {r : List Int} (h : reach_From a0 a1 = some r) : PCalls Try.prog 50 [store_Store.Pv a0, .lst false (List.map (PV.int .i64) a1)] (.lst false (List.map (PV.int .i64) r)) := by
 unfold reach_From at h
 refine pc_intro (N := 12) Try.func50 rfl rfl nl fun w0 imm0 => sR <| y1 rfl (o_box (d := store_Store.Pv a0) (z := 3) (cl := true) rfl rfl rfl rfl rfl) rfl <| y0 rfl (o_assign (d := .lst true (List.map (PV.int .i64) [])) rfl) <| y_nil <| sR <| y0 rfl (o_loadA (cs := store_Store.Pc a0) rfl rfl rfl Ty.a26 Ty.s26 nl rfl) <| y0 rfl (o_move (d := .lst false (List.map (PV.int .i64) a1)) rfl) ?_
 obtain ⟨v1, hv1, h⟩ := bindE h
 refine yc rfl (o_callF (ls := []) (ds := [store_Store.Pv a0, .lst false (List.map (PV.int .i64) a1)]) rfl Ty.k89 rfl (reach_spread_ok hv1)) <| y1 rfl (o_alloc (d := .abs NilMap) (z := 1) rfl Ty.z112 rfl rfl rfl) rfl <| y_sto (x' := .abs (ImMap (List.map (ent (PV.int .i64) PV.bool) v1))) (cl' := true) rfl rfl (.inl rfl) Ty.s112 <| y_nil <| sR <| y0 rfl (o_loadA (cs := store_Store.Pc a0) rfl rfl rfl Ty.a26 Ty.s26 nl rfl) <| y0 rfl (o_mkFunc rfl) ?_
 obtain ⟨v2, hv2, h⟩ := bindE h
 refine ycL rfl (o_callF (ls := [5]) (ds := [store_Store.Pv a0, .fn (.func 91) [.ptr 5 0 0]]) rfl Ty.k90 rfl (reach_live__reach_From_1_ok hv2)) rfl <| y0 rfl (o_assign (d := .lst false (List.map (PV.int .i64) v2)) rfl) <| y_nil <| pw_ret ?_
 obtain rfl := Option.some.inj h
 exact ⟨rfl, [_], ⟨rfl, trivial⟩, rfl, io⟩

theorem reach_Lost_1_ok {a0 : Int} {a1 : List (Int × Bool)} {r : Bool} (h : reach_Lost_1 a0 a1 = some r) : PCalls Try.prog 93 [.int .i64 a0, .rptr [.abs (ImMap (List.map (ent (PV.int .i64) PV.bool) a1))]] (.bool r) := by
 unfold reach_Lost_1 at h
 refine pc_intro (N := 8) Try.func93 rfl rfl nl fun w0 imm0 => sR <| y0 rfl (o_assign (d := .bool false) rfl) <| y_nil <| sR <| y0 rfl (o_loadRS rfl Ty.a112 rfl) <| y0 rfl (o_move (d := .int .i64 a0) rfl) <| y0 rfl (o_lkI (es := a1) (k := a0) (E := PV.bool) (EK := (PV.int .i64)) (d := .bool ((mget a1 a0).getD (false : Bool))) rfl rfl Ty.mm112 (keyT_int Ty.u3) Ty.z4 rfl (lk1 _ _ _)) ?_
 refine y0 rfl (o_not rfl rfl) <| y0 rfl (o_assign (d := .bool (!((mget a1 a0).getD (false : Bool)))) rfl) <| y_nil <| pw_ret ?_
 obtain rfl := Option.some.inj h
 exact ⟨rfl, [_], ⟨rfl, trivial⟩, rfl, io⟩

theorem reach_live__reach_Lost_1_ok {a0 : store_Store} {a1 : List (Int × Bool)} {r : List Int} (h : reach_live__reach_Lost_1 a0 a1 = some r) : PCalls Try.prog 90 [store_Store.Pv a0, .fn (.func 93) [.rptr [.abs (ImMap (List.map (ent (PV.int .i64) PV.bool) a1))]]] (.lst false (List.map (PV.int .i64) r)) := by
 unfold reach_live__reach_Lost_1 at h
 refine pc_intro (N := 24) Try.func90 rfl rfl nl fun w0 imm0 => sR <| y1 rfl (o_box (d := store_Store.Pv a0) (z := 3) (cl := true) rfl rfl rfl rfl rfl) rfl <| y0 rfl (o_assign (d := .lst true (List.map (PV.int .i64) [])) rfl) <| y_nil <| sR <| y0 rfl (o_assign (d := .lst true (List.map (PV.int .i64) [])) rfl) <| y_nil ?_
 obtain ⟨κ15, hκ12, h⟩ := jnE h
 refine pw_jn0 (κ := κ15) (r := r) (fun (j16 : List Int) => St.of [(5, .sl 910005)] [(910005, ⟨List.map (PV.int .i64) j16, (List.map (PV.int .i64) j16).length, true, 1, true⟩)]) (fun j16 h => ?_) ?_
 ·subst hκ12
  refine sR <| y0 rfl (o_move (d := .sl 910005) rfl) <| y0 rfl (o_assign (d := .sl 910005) rfl) <| y_nil <| pw_ret ?_
  obtain rfl := Option.some.inj h
  exact ⟨rfl, [_], ⟨rfl, trivial⟩, rfl, io⟩
 ·skip
  refine sR <| y0 rfl (o_loadA (cs := store_Store.Pc a0) rfl rfl rfl Ty.a26 Ty.s26 nl rfl) ?_
  obtain ⟨v17, hv13, h⟩ := bindE h
  refine yc rfl (o_callF (ls := []) (ds := [store_Store.Pv a0]) rfl Ty.k30 rfl (store_Live_ok hv13)) <| y0 rfl (o_lnL (f := (PV.int .i64)) rfl Ty.e27) <| y0 rfl (o_move (d := .int .i64 0) rfl) <| y_nil <| pw_block ?_
  obtain ⟨e18, hl14, hk15⟩ := bindE h
  refine pw_lp0 (fun (q : Int × (List Int)) => St.of [(1, .fn (.func 93) [.rptr [.abs (ImMap (List.map (ent (PV.int .i64) PV.bool) a1))]]), (5, .sl 910005), (9, .lst false (List.map (PV.int .i64) v17)), (10, .int .i64 (v17.length : Int)), (11, .int .i64 q.1)] [(910005, ⟨List.map (PV.int .i64) q.2, (List.map (PV.int .i64) q.2).length, true, 1, true⟩)]) hl14 (Wk.trans (wk_nil (t := 5) (l := 920005) (z := 1) rfl rfl) (wk_stP (fun l => if l = 910005 then 920005 else l) _ _ ⟨rfl, rfl, rfl, rfl, rfl, rfl, rfl, rfl, rfl, rfl, rfl, rfl, rfl, rfl, rfl, trivial⟩ ⟨rN, trivial⟩ rfl)) (fun q22 x21 h hx16 => ?_)
  obtain ⟨s19, s20⟩ := q22
  refine sR <| y0 rfl (o_cmp rfl rfl rfl) <| y_nil <| pw_seq ?_
  refine pw_cond (decide (s19 < (v17.length : Int))) rfl (fun hc => ?_) (fun hc => ?_)
  ·have h := ifT h hc
   refine pw_skip ?_
   obtain ⟨κ26, hκ20, h⟩ := jnE h
   refine pw_jn0 (κ := κ26) (r := x21) (fun (j27 : List Int) => St.of [(1, .fn (.func 93) [.rptr [.abs (ImMap (List.map (ent (PV.int .i64) PV.bool) a1))]]), (5, .sl 21), (9, .lst false (List.map (PV.int .i64) v17)), (10, .int .i64 (v17.length : Int)), (11, .int .i64 s19)] [(21, ⟨List.map (PV.int .i64) j27, (List.map (PV.int .i64) j27).length, true, 1, true⟩)]) (fun j27 h => ?_) ?_
   ·subst hκ20
    refine sr1 (by kernel_rfl) <| y0 rfl (o_ari rfl rfl rfl) <| y0 rfl (o_move (d := .int .i64 (w64 (s19 + 1))) rfl) <| y_nil ?_
    exact ⟨rfl, (w64 (s19 + 1), j27), (Option.some.inj h).symm, (Wk.trans (wk_frz _ [21]) (wk_stP (fun l => if l = 910005 then 21 else l) _ _ ⟨rfl, rfl, rfl, rfl, rfl, rfl, rfl, rfl, rfl, rfl, rfl, rfl, rfl, rfl, rfl, trivial⟩ ⟨rN, trivial⟩ rfl))⟩
   ·skip
    refine pw_block <| sR ?_
    obtain ⟨v28, hv21, h⟩ := bindE h
    refine y0 rfl (o_ixL (f := (PV.int .i64)) (cs := [.int .i64 v28]) hv21 rfl rfl Ty.e27 Ty.s3 rfl rfl) <| y0 rfl (o_loadRS rfl Ty.a3 rfl) <| y0 rfl (o_assign (d := .int .i64 v28) rfl) <| y_nil <| sR <| y0 rfl (o_move (d := .fn (.func 93) [.rptr [.abs (ImMap (List.map (ent (PV.int .i64) PV.bool) a1))]]) rfl) <| y0 rfl (o_move (d := .int .i64 v28) rfl) ?_
    obtain ⟨v29, hv22, h⟩ := bindE h
    refine y0 rfl (o_call (ds := [.int .i64 v28, .rptr [.abs (ImMap (List.map (ent (PV.int .i64) PV.bool) a1))]]) rfl Ty.k93 rfl (reach_Lost_1_ok hv22)) <| y_nil ?_
    refine pw_cond v29 rfl (fun hc => ?_) (fun hc => ?_)
    ·have h := ifT h hc
     refine sr1 (by kernel_rfl) <| y0 rfl (o_move (d := .sl 910005) rfl) <| y0 rfl (o_move (d := .int .i64 v28) rfl) <| y0 rfl (o_bI (f := (PV.int .i64)) (l := [v28]) rfl Ty.e27 Ty.s3 Ty.z3 rfl rfl nl rfl rfl) ?_
     obtain ⟨v30, hv23, h⟩ := bindE h
     refine y_app rfl (o_apR (f := (PV.int .i64)) hv23 rfl rfl rfl rfl rfl rfl (.inl ⟨_, rfl, rfl⟩) Ty.e27 Ty.s3 Ty.b3 Ty.z3 rfl (fun _ => rfl)) rfl rfl rfl <| y0 rfl (o_assign (d := .sl 21) rfl) <| y_nil ?_
     exact ⟨rfl, v30, h, (Wk.trans (wk_frz _ [21]) (wk_st _ _ ⟨rfl, rfl, rfl, rfl, rfl, rfl, rfl, rfl, rfl, rfl, rfl, rfl, rfl, rfl, rfl, trivial⟩ ⟨rS, trivial⟩))⟩
    ·have h := ifF h hc
     refine pw_skip ?_
     exact ⟨rfl, s20, h, (Wk.trans (wk_frz _ [910005]) (wk_stP (fun l => if l = 21 then 910005 else l) _ _ ⟨rfl, rfl, rfl, rfl, rfl, rfl, rfl, rfl, rfl, rfl, rfl, rfl, rfl, rfl, rfl, trivial⟩ ⟨rN, trivial⟩ rfl))⟩
  ·have h := ifF h hc
   refine pw_exit <| thenQ_exit <| thenQ_exit <| blockQ_exit ?_
   have he := hx16 _ (Option.some.inj h).symm
   have h := hk15
   rw [← he] at h
   exact ⟨rfl, s20, h, (Wk.trans (wk_frz _ [910005]) (wk_st _ _ ⟨rfl, rfl, rfl, trivial⟩ ⟨rS, trivial⟩))⟩

theorem reach_Lost_ok {a0 : store_Store} {a1 : List Int} {r : List Int} (h : reach_Lost a0 a1 = some r) : PCalls Try.prog 52 [store_Store.Pv a0, .lst false (List.map (PV.int .i64) a1)] (.lst false (List.map (PV.int .i64) r)) := by
 unfold reach_Lost at h
 refine pc_intro (N := 12) Try.func52 rfl rfl nl fun w0 imm0 => sR <| y1 rfl (o_box (d := store_Store.Pv a0) (z := 3) (cl := true) rfl rfl rfl rfl rfl) rfl <| y0 rfl (o_assign (d := .lst true (List.map (PV.int .i64) [])) rfl) <| y_nil <| sR <| y0 rfl (o_loadA (cs := store_Store.Pc a0) rfl rfl rfl Ty.a26 Ty.s26 nl rfl) <| y0 rfl (o_move (d := .lst false (List.map (PV.int .i64) a1)) rfl) ?_
 obtain ⟨v1, hv1, h⟩ := bindE h
 refine yc rfl (o_callF (ls := []) (ds := [store_Store.Pv a0, .lst false (List.map (PV.int .i64) a1)]) rfl Ty.k89 rfl (reach_spread_ok hv1)) <| y1 rfl (o_alloc (d := .abs NilMap) (z := 1) rfl Ty.z112 rfl rfl rfl) rfl <| y_sto (x' := .abs (ImMap (List.map (ent (PV.int .i64) PV.bool) v1))) (cl' := true) rfl rfl (.inl rfl) Ty.s112 <| y_nil <| sR <| y0 rfl (o_loadA (cs := store_Store.Pc a0) rfl rfl rfl Ty.a26 Ty.s26 nl rfl) <| y0 rfl (o_mkFunc rfl) ?_
 obtain ⟨v2, hv2, h⟩ := bindE h
 refine ycL rfl (o_callF (ls := [5]) (ds := [store_Store.Pv a0, .fn (.func 93) [.ptr 5 0 0]]) rfl Ty.k90 rfl (reach_live__reach_Lost_1_ok hv2)) rfl <| y0 rfl (o_assign (d := .lst false (List.map (PV.int .i64) v2)) rfl) <| y_nil <| pw_ret ?_
 obtain rfl := Option.some.inj h
 exact ⟨rfl, [_], ⟨rfl, trivial⟩, rfl, io⟩

theorem slices_Index_int_int_ok {a0 : List Int} {a1 : Int} {r : Int} (h : slices_Index_int_int a0 a1 = some r) : PCalls Try.prog 120 [.lst false (List.map (PV.int .i64) a0), .int .i64 a1] (.int .i64 r) := by
 unfold slices_Index_int_int at h
 refine pc_intro (N := 19) Try.func120 rfl rfl nl fun w0 imm0 => sR <| y0 rfl (o_assign (d := .int .i64 0) rfl) <| y_nil ?_
 obtain ⟨κ5, hκ5, h⟩ := jnE h
 refine pw_jn0 (κ := κ5) (r := r) (fun (_ : Unit) => St.of [] []) (fun q6 h => ?_) ?_
 ·subst hκ5
  refine sR <| y0 rfl (o_assign (d := .int .i64 (-1)) rfl) <| y_nil <| pw_ret ?_
  obtain rfl := Option.some.inj h
  exact ⟨rfl, [_], ⟨rfl, trivial⟩, rfl, io⟩
 ·skip
  refine sR <| y0 rfl (o_move (d := .lst false (List.map (PV.int .i64) a0)) rfl) <| y0 rfl (o_lnL (f := (PV.int .i64)) rfl Ty.e27) <| y0 rfl (o_move (d := .int .i64 0) rfl) <| y_nil <| pw_block ?_
  obtain ⟨e7, hl6, hk7⟩ := bindE h
  refine pw_lp0 (fun (s8 : Int) => St.of [(0, .lst false (List.map (PV.int .i64) a0)), (1, .int .i64 a1), (7, .int .i64 (a0.length : Int)), (8, .int .i64 s8)] []) hl6 (wk_st _ _ ⟨rfl, rfl, rfl, rfl, rfl, rfl, rfl, rfl, rfl, rfl, rfl, rfl, trivial⟩ trivial) (fun s8 x9 h hx8 => ?_)
  refine sR <| y0 rfl (o_cmp rfl rfl rfl) <| y_nil <| pw_seq ?_
  refine pw_cond (decide (s8 < (a0.length : Int))) rfl (fun hc => ?_) (fun hc => ?_)
  ·have h := ifT h hc
   refine pw_skip <| pw_seq <| pw_block <| sR <| y0 rfl (o_move (d := .int .i64 s8) rfl) <| y0 rfl (o_assign (d := .int .i64 s8) rfl) <| y_nil <| sR ?_
   refine y0 rfl (o_move (d := .int .i64 a1) rfl) <| y0 rfl (o_move (d := .lst false (List.map (PV.int .i64) a0)) rfl) <| y0 rfl (o_move (d := .int .i64 s8) rfl) ?_
   obtain ⟨v10, hv9, h⟩ := bindE h
   refine y0 rfl (o_ixL (f := (PV.int .i64)) (cs := [.int .i64 v10]) hv9 rfl rfl Ty.e27 Ty.s3 rfl rfl) <| y0 rfl (o_loadRS rfl Ty.a3 rfl) <| y0 rfl (o_cmp rfl rfl rfl) <| y_nil ?_
   refine pw_cond (a1 == v10) rfl (fun hc => ?_) (fun hc => ?_)
   ·have h := ifT h hc
    refine sR <| y0 rfl (o_move (d := .int .i64 s8) rfl) <| y0 rfl (o_assign (d := .int .i64 s8) rfl) <| y_nil <| pw_ret ?_
    have he := hx8 _ (Option.some.inj h).symm
    have h := hk7
    rw [← he] at h
    obtain rfl := Option.some.inj h
    exact ⟨rfl, [_], ⟨rfl, trivial⟩, rfl, io⟩
   ·have h := ifF h hc
    refine pw_skip <| sr1 (by kernel_rfl) <| y0 rfl (o_ari rfl rfl rfl) <| y0 rfl (o_move (d := .int .i64 (w64 (s8 + 1))) rfl) <| y_nil ?_
    exact ⟨rfl, w64 (s8 + 1), (Option.some.inj h).symm, (wk_st _ _ ⟨rfl, rfl, rfl, rfl, rfl, rfl, rfl, rfl, rfl, rfl, rfl, rfl, trivial⟩ trivial)⟩
  ·have h := ifF h hc
   refine pw_exit <| thenQ_exit <| thenQ_exit <| blockQ_exit ?_
   have he := hx8 _ (Option.some.inj h).symm
   have h := hk7
   rw [← he] at h
   exact ⟨rfl, (), h, (wk_st _ _ trivial trivial)⟩

theorem slices_Contains_int_int_ok {a0 : List Int} {a1 : Int} {r : Bool} (h : slices_Contains_int_int a0 a1 = some r) : PCalls Try.prog 94 [.lst false (List.map (PV.int .i64) a0), .int .i64 a1] (.bool r) := by
 unfold slices_Contains_int_int at h
 refine pc_intro (N := 9) Try.func94 rfl rfl nl fun w0 imm0 => sR <| y0 rfl (o_assign (d := .bool false) rfl) <| y_nil <| sR <| y0 rfl (o_move (d := .lst false (List.map (PV.int .i64) a0)) rfl) <| y0 rfl (o_move (d := .int .i64 a1) rfl) ?_
 obtain ⟨v1, hv1, h⟩ := bindE h
 refine y0 rfl (o_call (ds := [.lst false (List.map (PV.int .i64) a0), .int .i64 a1]) rfl Ty.k120 rfl (slices_Index_int_int_ok hv1)) <| y0 rfl (o_cmp rfl rfl rfl) <| y0 rfl (o_assign (d := .bool (decide (v1 ≥ 0))) rfl) <| y_nil <| pw_ret ?_
 obtain rfl := Option.some.inj h
 exact ⟨rfl, [_], ⟨rfl, trivial⟩, rfl, io⟩

theorem reach_Is_ok {a0 : store_Store} {a1 : Int} {a2 : Int} {r : Bool} (h : reach_Is a0 a1 a2 = some r) : PCalls Try.prog 54 [store_Store.Pv a0, .int .i64 a1, .int .i64 a2] (.bool r) := by
 unfold reach_Is at h
 refine pc_intro (N := 13) Try.func54 rfl rfl nl fun w0 imm0 => sR <| y1 rfl (o_box (d := store_Store.Pv a0) (z := 3) (cl := true) rfl rfl rfl rfl rfl) rfl <| y0 rfl (o_assign (d := .bool false) rfl) <| y_nil <| sR <| y0 rfl (o_loadA (cs := store_Store.Pc a0) rfl rfl rfl Ty.a26 Ty.s26 nl rfl) <| y0 rfl (o_move (d := .int .i64 a1) rfl) ?_
 refine y0 rfl (o_bI (f := (PV.int .i64)) (l := [a1]) rfl Ty.e27 Ty.s3 Ty.z3 rfl rfl nl rfl rfl) ?_
 obtain ⟨v1, hv1, h⟩ := bindE h
 refine yc rfl (o_callF (ls := []) (ds := [store_Store.Pv a0, .lst true (List.map (PV.int .i64) [a1])]) rfl Ty.k50 rfl (reach_From_ok hv1)) <| y0 rfl (o_move (d := .int .i64 a2) rfl) ?_
 obtain ⟨v2, hv2, h⟩ := bindE h
 refine y0 rfl (o_call (ds := [.lst false (List.map (PV.int .i64) v1), .int .i64 a2]) rfl Ty.k94 rfl (slices_Contains_int_int_ok hv2)) <| y0 rfl (o_assign (d := .bool v2) rfl) <| y_nil <| pw_ret ?_
 obtain rfl := Option.some.inj h
 exact ⟨rfl, [_], ⟨rfl, trivial⟩, rfl, io⟩

theorem reach_Closed_ok {a0 : store_Store} {a1 : List Int} {r : Bool} (h : reach_Closed a0 a1 = some r) : PCalls Try.prog 56 [store_Store.Pv a0, .lst false (List.map (PV.int .i64) a1)] (.bool r) := by
 unfold reach_Closed at h
 refine pc_intro (N := 47) Try.func56 rfl rfl nl fun w0 imm0 => sR <| y1 rfl (o_box (d := store_Store.Pv a0) (z := 3) (cl := true) rfl rfl rfl rfl rfl) rfl <| y0 rfl (o_assign (d := .bool false) rfl) <| y_nil <| sR <| y_mkM (KT := Int) (VT := Bool) (EK := (PV.int .i64)) (E := PV.bool) 5000012 rfl rfl <| y0 rfl (o_assign (d := .mp 5000012) rfl) ?_
 refine y_nil ?_
 obtain ⟨κ7, hκ5, h⟩ := jnE h
 refine pw_jn0 (κ := κ7) (r := r) (fun (j8 : List (Int × Bool)) => St.of [(1, .lst false (List.map (PV.int .i64) a1)), (2, .ptr 2 0 0), (5, .mp 5000012)] [(5000012, ⟨[.mapc (List.map (ent (PV.int .i64) PV.bool) j8)], 0, false, 0, false⟩), (2, ⟨[store_Store.Pv a0], 0, false, 3, true⟩)]) (fun j8 h => ?_) ?_
 ·subst hκ5
  obtain ⟨κ28, hκ26, h⟩ := jnE h
  refine pw_jn0 (κ := κ28) (r := r) (fun (_ : Unit) => St.of [] []) (fun q29 h => ?_) ?_
  ·subst hκ26
   refine sR <| y0 rfl (o_assign (d := .bool true) rfl) <| y_nil <| pw_ret ?_
   obtain rfl := Option.some.inj h
   exact ⟨rfl, [_], ⟨rfl, trivial⟩, rfl, io⟩
  ·skip
   refine sR <| y0 rfl (o_move (d := .lst false (List.map (PV.int .i64) a1)) rfl) <| y0 rfl (o_lnL (f := (PV.int .i64)) rfl Ty.e27) <| y0 rfl (o_move (d := .int .i64 0) rfl) <| y_nil <| pw_block ?_
   obtain ⟨e30, hl27, hk28⟩ := bindE h
   refine pw_lp0 (fun (s31 : Int) => St.of [(2, .ptr 2 0 0), (5, .mp 5000012), (22, .lst false (List.map (PV.int .i64) a1)), (23, .int .i64 (a1.length : Int)), (24, .int .i64 s31)] [(5000012, ⟨[.mapc (List.map (ent (PV.int .i64) PV.bool) j8)], 0, false, 0, false⟩), (2, ⟨[store_Store.Pv a0], 0, false, 3, true⟩)]) hl27 (wk_st _ _ ⟨rfl, rfl, rfl, rfl, rfl, rfl, rfl, rfl, rfl, rfl, rfl, rfl, rfl, rfl, rfl, trivial⟩ ⟨rowLe_open rfl rfl rfl (fun q => nomatch q) rfl rfl rfl rfl, rS, trivial⟩) (fun s31 x32 h hx29 => ?_)
   refine sR <| y0 rfl (o_cmp rfl rfl rfl) <| y_nil <| pw_seq ?_
   refine pw_cond (decide (s31 < (a1.length : Int))) rfl (fun hc => ?_) (fun hc => ?_)
   ·have h := ifT h hc
    refine pw_skip ?_
    obtain ⟨κ40, hκ38, h⟩ := jnE h
    refine pw_jn0 (κ := κ40) (r := x32) (fun (_ : Unit) => St.of [(2, .ptr 2 0 0), (5, .mp 5000012), (22, .lst false (List.map (PV.int .i64) a1)), (23, .int .i64 (a1.length : Int)), (24, .int .i64 s31)] [(5000012, ⟨[.mapc (List.map (ent (PV.int .i64) PV.bool) j8)], 0, false, 0, false⟩), (2, ⟨[store_Store.Pv a0], 0, false, 3, true⟩)]) (fun q41 h => ?_) ?_
    ·subst hκ38
     refine sr1 (by kernel_rfl) <| y0 rfl (o_ari rfl rfl rfl) <| y0 rfl (o_move (d := .int .i64 (w64 (s31 + 1))) rfl) <| y_nil ?_
     exact ⟨rfl, w64 (s31 + 1), (Option.some.inj h).symm, (wk_st _ _ ⟨rfl, rfl, rfl, rfl, rfl, rfl, rfl, rfl, rfl, rfl, rfl, rfl, rfl, rfl, rfl, trivial⟩ ⟨rowLe_open rfl rfl rfl (fun q => nomatch q) rfl rfl rfl rfl, rS, trivial⟩)⟩
    ·skip
     refine pw_block <| sR ?_
     obtain ⟨v42, hv39, h⟩ := bindE h
     refine y0 rfl (o_ixL (f := (PV.int .i64)) (cs := [.int .i64 v42]) hv39 rfl rfl Ty.e27 Ty.s3 rfl rfl) <| y0 rfl (o_loadRS rfl Ty.a3 rfl) <| y0 rfl (o_assign (d := .int .i64 v42) rfl) <| y_nil <| sR <| y0 rfl (o_loadA (cs := store_Store.Pc a0) rfl rfl rfl Ty.a26 Ty.s26 nl rfl) <| y0 rfl (o_move (d := .int .i64 v42) rfl) ?_
     obtain ⟨v43, hv40, h⟩ := bindE h
     refine yc rfl (o_callF (ls := []) (ds := [store_Store.Pv a0, .int .i64 v42]) rfl Ty.k36 rfl (refs_Out_ok hv40)) <| y0 rfl (o_lnL (f := (PV.int .i64)) rfl Ty.e27) <| y0 rfl (o_move (d := .int .i64 0) rfl) <| y_nil <| pw_block ?_
     obtain ⟨e44, hl41, hk42⟩ := bindE h
     refine pw_lp0 (fun (s45 : Int) => St.of [(2, .ptr 2 0 0), (5, .mp 5000012), (22, .lst false (List.map (PV.int .i64) a1)), (23, .int .i64 (a1.length : Int)), (24, .int .i64 s31), (30, .lst false (List.map (PV.int .i64) v43)), (31, .int .i64 (v43.length : Int)), (32, .int .i64 s45)] [(5000012, ⟨[.mapc (List.map (ent (PV.int .i64) PV.bool) j8)], 0, false, 0, false⟩), (2, ⟨[store_Store.Pv a0], 0, false, 3, true⟩)]) hl41 (wk_st _ _ ⟨rfl, rfl, rfl, rfl, rfl, rfl, rfl, rfl, rfl, rfl, rfl, rfl, rfl, rfl, rfl, rfl, rfl, rfl, rfl, rfl, rfl, rfl, rfl, rfl, trivial⟩ ⟨rowLe_open rfl rfl rfl (fun q => nomatch q) rfl rfl rfl rfl, rS, trivial⟩) (fun s45 x46 h hx43 => ?_)
     refine sR <| y0 rfl (o_cmp rfl rfl rfl) <| y_nil <| pw_seq ?_
     refine pw_cond (decide (s45 < (v43.length : Int))) rfl (fun hc => ?_) (fun hc => ?_)
     ·have h := ifT h hc
      refine pw_skip <| pw_seq <| pw_block <| sR ?_
      obtain ⟨v47, hv44, h⟩ := bindE h
      refine y0 rfl (o_ixL (f := (PV.int .i64)) (cs := [.int .i64 v47]) hv44 rfl rfl Ty.e27 Ty.s3 rfl rfl) <| y0 rfl (o_loadRS rfl Ty.a3 rfl) <| y0 rfl (o_assign (d := .int .i64 v47) rfl) <| y_nil <| sR <| y0 rfl (o_loadA (cs := store_Store.Pc a0) rfl rfl rfl Ty.a26 Ty.s26 nl rfl) <| y0 rfl (o_move (d := .int .i64 v47) rfl) ?_
      obtain ⟨v48, hv45, h⟩ := bindE h
      refine y0 rfl (o_call (ds := [store_Store.Pv a0, .int .i64 v47]) rfl Ty.k96 rfl (reach_isLive_ok hv45)) <| y0 rfl (o_move (d := .bool v48) rfl) <| y_if (g := (v48 == true)) rfl (fun hg => o_move (d := .mp 5000012) rfl) <| y_if (g := (v48 == true)) rfl (fun hg => o_move (d := .int .i64 v47) rfl) ?_
      rcases Bool.eq_false_or_eq_true (v48 == true) with hg46 | hg46
      ·have h := ifT h hg46
       refine y_lkM (es := j8) (k := v47) (E := PV.bool) (EK := (PV.int .i64)) (d := .bool ((mget j8 v47).getD (false : Bool))) (congrArg some hg46) (ct hg46) rfl (ct hg46) Ty.mm112 (keyT_int Ty.u3) Ty.z4 rfl (lk1 _ _ _) <| y0 (congrArg some hg46) (o_not rfl rfl) <| y0 rfl (pk_andT rfl rfl hg46) <| y_nil ?_
       refine pw_cond (!((mget j8 v47).getD (false : Bool))) rfl (fun hc => ?_) (fun hc => ?_)
       ·have h := ifT h hc
        refine sR <| y0 rfl (o_assign (d := .bool false) rfl) <| y_nil <| pw_ret ?_
        have he := hx43 _ (Option.some.inj h).symm
        have h := hk42
        rw [← he] at h
        have he := hx29 _ (Option.some.inj h).symm
        have h := hk28
        rw [← he] at h
        obtain rfl := Option.some.inj h
        exact ⟨rfl, [_], ⟨rfl, trivial⟩, rfl, io⟩
       ·have h := ifF h hc
        refine pw_skip <| sr1 (by kernel_rfl) <| y0 rfl (o_ari rfl rfl rfl) <| y0 rfl (o_move (d := .int .i64 (w64 (s45 + 1))) rfl) <| y_nil ?_
        exact ⟨rfl, w64 (s45 + 1), (Option.some.inj h).symm, (wk_st _ _ ⟨rfl, rfl, rfl, rfl, rfl, rfl, rfl, rfl, rfl, rfl, rfl, rfl, rfl, rfl, rfl, rfl, rfl, rfl, rfl, rfl, rfl, rfl, rfl, rfl, trivial⟩ ⟨rowLe_open rfl rfl rfl (fun q => nomatch q) rfl rfl rfl rfl, rS, trivial⟩)⟩
      ·have h := ifF h hg46
       refine y_skip (congrArg some hg46) <| y_skip (congrArg some hg46) <| y0 rfl (pk_andF rfl rfl hg46) <| y_nil ?_
       refine pw_cond false rfl (fun q => nomatch q) (fun _ => ?_)
       refine pw_skip <| sr1 (by kernel_rfl) <| y0 rfl (o_ari rfl rfl rfl) <| y0 rfl (o_move (d := .int .i64 (w64 (s45 + 1))) rfl) <| y_nil ?_
       exact ⟨rfl, w64 (s45 + 1), (Option.some.inj h).symm, (wk_st _ _ ⟨rfl, rfl, rfl, rfl, rfl, rfl, rfl, rfl, rfl, rfl, rfl, rfl, rfl, rfl, rfl, rfl, rfl, rfl, rfl, rfl, rfl, rfl, rfl, rfl, trivial⟩ ⟨rowLe_open rfl rfl rfl (fun q => nomatch q) rfl rfl rfl rfl, rS, trivial⟩)⟩
     ·have h := ifF h hc
      refine pw_exit <| thenQ_exit <| thenQ_exit <| blockQ_exit ?_
      have he := hx43 _ (Option.some.inj h).symm
      have h := hk42
      rw [← he] at h
      exact ⟨rfl, (), h, (wk_st _ _ ⟨rfl, rfl, rfl, rfl, rfl, rfl, rfl, rfl, rfl, rfl, rfl, rfl, rfl, rfl, rfl, trivial⟩ ⟨rowLe_open rfl rfl rfl (fun q => nomatch q) rfl rfl rfl rfl, rS, trivial⟩)⟩
   ·have h := ifF h hc
    refine pw_exit <| thenQ_exit <| thenQ_exit <| blockQ_exit ?_
    have he := hx29 _ (Option.some.inj h).symm
    have h := hk28
    rw [← he] at h
    exact ⟨rfl, (), h, (wk_st _ _ trivial trivial)⟩
 ·skip
  refine sR <| y0 rfl (o_move (d := .lst false (List.map (PV.int .i64) a1)) rfl) <| y0 rfl (o_lnL (f := (PV.int .i64)) rfl Ty.e27) <| y0 rfl (o_move (d := .int .i64 0) rfl) <| y_nil <| pw_block ?_
  obtain ⟨e49, hl47, hk48⟩ := bindE h
  refine pw_lp0 (fun (q : Int × (List (Int × Bool))) => St.of [(1, .lst false (List.map (PV.int .i64) a1)), (2, .ptr 2 0 0), (5, .mp 5000012), (13, .lst false (List.map (PV.int .i64) a1)), (14, .int .i64 (a1.length : Int)), (15, .int .i64 q.1)] [(5000012, ⟨[.mapc (List.map (ent (PV.int .i64) PV.bool) q.2)], 0, false, 0, false⟩), (2, ⟨[store_Store.Pv a0], 0, false, 3, true⟩)]) hl47 (wk_st _ _ ⟨rfl, rfl, rfl, rfl, rfl, rfl, rfl, rfl, rfl, rfl, rfl, rfl, rfl, rfl, rfl, rfl, rfl, rfl, trivial⟩ ⟨rowLe_open rfl rfl rfl (fun q => nomatch q) rfl rfl rfl rfl, rS, trivial⟩) (fun q53 x52 h hx49 => ?_)
  obtain ⟨s50, s51⟩ := q53
  refine sR <| y0 rfl (o_cmp rfl rfl rfl) <| y_nil <| pw_seq ?_
  refine pw_cond (decide (s50 < (a1.length : Int))) rfl (fun hc => ?_) (fun hc => ?_)
  ·have h := ifT h hc
   refine pw_skip <| pw_seq <| pw_block <| sR ?_
   obtain ⟨v54, hv50, h⟩ := bindE h
   refine y0 rfl (o_ixL (f := (PV.int .i64)) (cs := [.int .i64 v54]) hv50 rfl rfl Ty.e27 Ty.s3 rfl rfl) <| y0 rfl (o_loadRS rfl Ty.a3 rfl) <| y0 rfl (o_assign (d := .int .i64 v54) rfl) <| y_nil <| sr1 (by kernel_rfl) <| y0 rfl (o_move (d := .mp 5000012) rfl) <| y0 rfl (o_move (d := .int .i64 v54) rfl) <| y_setM (es := s51) (k := v54) (v := true) (E := PV.bool) (EK := (PV.int .i64)) (.inl rfl) rfl rfl rfl rfl rfl rfl Ty.mm112 (keyT_int Ty.u3) ?_
   refine y_nil <| sr1 (by kernel_rfl) <| y0 rfl (o_ari rfl rfl rfl) <| y0 rfl (o_move (d := .int .i64 (w64 (s50 + 1))) rfl) <| y_nil ?_
   exact ⟨rfl, (w64 (s50 + 1), (mput s51 v54 true)), (Option.some.inj h).symm, (wk_st _ _ ⟨rfl, rfl, rfl, rfl, rfl, rfl, rfl, rfl, rfl, rfl, rfl, rfl, rfl, rfl, rfl, rfl, rfl, rfl, trivial⟩ ⟨rowLe_open rfl rfl rfl (fun q => nomatch q) rfl rfl rfl rfl, rS, trivial⟩)⟩
  ·have h := ifF h hc
   refine pw_exit <| thenQ_exit <| thenQ_exit <| blockQ_exit ?_
   have he := hx49 _ (Option.some.inj h).symm
   have h := hk48
   rw [← he] at h
   exact ⟨rfl, s51, h, (wk_st _ _ ⟨rfl, rfl, rfl, rfl, rfl, rfl, rfl, rfl, rfl, trivial⟩ ⟨rowLe_open rfl rfl rfl (fun q => nomatch q) rfl rfl rfl rfl, rS, trivial⟩)⟩

theorem w08_shown_ok  {r : Bool} (h : w08_shown = some r) : PCalls Try.prog 48 [] (.bool r) := by
 unfold w08_shown at h
 refine pc_intro (N := 108) Try.func48 rfl rfl nl fun w0 imm0 => sR <| y0 rfl (o_assign (d := .bool false) rfl) <| y_nil <| sR ?_
 obtain ⟨v1, hv1, h⟩ := bindE h
 refine yc rfl (o_callF (ls := []) (ds := [.int .i64 4, .int .i64 3]) rfl Ty.k27 rfl (store_New_ok hv1)) ?_
 obtain ⟨v2, hv2, h⟩ := bindE h
 refine yc rfl (o_callF (ls := []) (ds := [store_Store.Pv v1, .int .i64 1, .int .i64 (-1)]) rfl Ty.k31 rfl (store_Make_ok hv2)) <| y0 rfl (o_move (d := .tup [store_Store.Pv v2.1, .int .i64 v2.2.1, .int .i64 v2.2.2]) rfl) <| y0 rfl (o_extract rfl rfl) <| y0 rfl (o_extract rfl rfl) <| y0 rfl (o_extract rfl rfl) <| y1 rfl (o_alloc (d := .agg [.lst true (List.map slab_Cell_store_Obj.Pv []), .int .i64 0, .int .i64 0]) (z := 3) rfl Ty.z26 rfl rfl rfl) rfl <| y_sto (x' := store_Store.Pv v2.1) (cl' := true) rfl rfl (.inr rfl) Ty.s26 <| y0 rfl (o_assign (d := .int .i64 v2.2.1) rfl) ?_
 refine y0 rfl (o_assign (d := .int .i64 v2.2.2) rfl) <| y_nil <| sR <| y0 rfl (o_loadA (cs := store_Store.Pc v2.1) rfl rfl rfl Ty.a26 Ty.s26 nl rfl) ?_
 obtain ⟨v3, hv3, h⟩ := bindE h
 refine yc rfl (o_callF (ls := []) (ds := [store_Store.Pv v2.1, .int .i64 1, .int .i64 (-1)]) rfl Ty.k31 rfl (store_Make_ok hv3)) <| y0 rfl (o_move (d := .tup [store_Store.Pv v3.1, .int .i64 v3.2.1, .int .i64 v3.2.2]) rfl) <| y0 rfl (o_extract rfl rfl) <| y0 rfl (o_extract rfl rfl) <| y0 rfl (o_extract rfl rfl) <| y_sto (x' := store_Store.Pv v3.1) (cl' := true) rfl rfl (.inr rfl) Ty.s26 <| y0 rfl (o_assign (d := .int .i64 v3.2.1) rfl) <| y0 rfl (o_assign (d := .int .i64 v3.2.2) rfl) ?_
 refine y_nil <| sR <| y0 rfl (o_loadA (cs := store_Store.Pc v3.1) rfl rfl rfl Ty.a26 Ty.s26 nl rfl) ?_
 obtain ⟨v4, hv4, h⟩ := bindE h
 refine yc rfl (o_callF (ls := []) (ds := [store_Store.Pv v3.1, .int .i64 0, .int .i64 (-1)]) rfl Ty.k31 rfl (store_Make_ok hv4)) <| y0 rfl (o_move (d := .tup [store_Store.Pv v4.1, .int .i64 v4.2.1, .int .i64 v4.2.2]) rfl) <| y0 rfl (o_extract rfl rfl) <| y0 rfl (o_extract rfl rfl) <| y0 rfl (o_extract rfl rfl) <| y_sto (x' := store_Store.Pv v4.1) (cl' := true) rfl rfl (.inr rfl) Ty.s26 <| y0 rfl (o_assign (d := .int .i64 v4.2.1) rfl) <| y0 rfl (o_assign (d := .int .i64 v4.2.2) rfl) ?_
 refine y_nil <| sR <| y0 rfl (o_loadA (cs := store_Store.Pc v4.1) rfl rfl rfl Ty.a26 Ty.s26 nl rfl) <| y0 rfl (o_move (d := .int .i64 v2.2.1) rfl) <| y0 rfl (o_move (d := .int .i64 v3.2.1) rfl) ?_
 obtain ⟨v5, hv5, h⟩ := bindE h
 refine yc rfl (o_callF (ls := []) (ds := [store_Store.Pv v4.1, .int .i64 v2.2.1, .int .i64 0, .int .i64 v3.2.1]) rfl Ty.k58 rfl (store_Put_ok hv5)) <| y0 rfl (o_move (d := .tup [store_Store.Pv v5.1, .int .i64 v5.2]) rfl) <| y0 rfl (o_extract rfl rfl) <| y0 rfl (o_extract rfl rfl) <| y_sto (x' := store_Store.Pv v5.1) (cl' := true) rfl rfl (.inr rfl) Ty.s26 <| y_nil <| sR <| y0 rfl (o_loadA (cs := store_Store.Pc v5.1) rfl rfl rfl Ty.a26 Ty.s26 nl rfl) ?_
 refine y0 rfl (o_move (d := .int .i64 v3.2.1) rfl) <| y0 rfl (o_move (d := .int .i64 v2.2.1) rfl) ?_
 obtain ⟨v6, hv6, h⟩ := bindE h
 refine yc rfl (o_callF (ls := []) (ds := [store_Store.Pv v5.1, .int .i64 v3.2.1, .int .i64 0, .int .i64 v2.2.1]) rfl Ty.k58 rfl (store_Put_ok hv6)) <| y0 rfl (o_move (d := .tup [store_Store.Pv v6.1, .int .i64 v6.2]) rfl) <| y0 rfl (o_extract rfl rfl) <| y0 rfl (o_extract rfl rfl) <| y_sto (x' := store_Store.Pv v6.1) (cl' := true) rfl rfl (.inr rfl) Ty.s26 <| y_nil <| sR <| y0 rfl (o_loadA (cs := store_Store.Pc v6.1) rfl rfl rfl Ty.a26 Ty.s26 nl rfl) ?_
 refine y0 rfl (o_move (d := .int .i64 v3.2.1) rfl) <| y0 rfl (o_bI (f := (PV.int .i64)) (l := [v3.2.1, 99]) rfl Ty.e27 Ty.s3 Ty.z3 rfl rfl nl rfl rfl) ?_
 obtain ⟨v7, hv7, h⟩ := bindE h
 refine yc rfl (o_callF (ls := []) (ds := [store_Store.Pv v6.1, .lst true (List.map (PV.int .i64) [v3.2.1, 99])]) rfl Ty.k50 rfl (reach_From_ok hv7)) <| y0 rfl (o_assign (d := .lst false (List.map (PV.int .i64) v7)) rfl) <| y_nil <| sR <| y0 rfl (o_loadA (cs := store_Store.Pc v6.1) rfl rfl rfl Ty.a26 Ty.s26 nl rfl) <| y0 rfl (o_move (d := .int .i64 v3.2.1) rfl) <| y0 rfl (o_bI (f := (PV.int .i64)) (l := [v3.2.1]) rfl Ty.e27 Ty.s3 Ty.z3 rfl rfl nl rfl rfl) ?_
 obtain ⟨v8, hv8, h⟩ := bindE h
 refine yc rfl (o_callF (ls := []) (ds := [store_Store.Pv v6.1, .lst true (List.map (PV.int .i64) [v3.2.1])]) rfl Ty.k52 rfl (reach_Lost_ok hv8)) <| y0 rfl (o_assign (d := .lst false (List.map (PV.int .i64) v8)) rfl) <| y_nil <| sR <| y0 rfl (o_move (d := .lst false (List.map (PV.int .i64) v7)) rfl) <| y0 rfl (o_lnL (f := (PV.int .i64)) rfl Ty.e27) <| y0 rfl (o_cmp rfl rfl rfl) <| y0 rfl (o_move (d := .bool ((v7.length : Int) == 2)) rfl) ?_
 refine y_if (g := (((v7.length : Int) == 2) == true)) rfl (fun hg => o_move (d := .lst false (List.map (PV.int .i64) v7)) rfl) ?_
 obtain ⟨v9, hv9, h⟩ := bindE h
 refine y_if (g := (((v7.length : Int) == 2) == true)) rfl (fun hg => o_ixL (f := (PV.int .i64)) (cs := [.int .i64 v9]) (onlyE hv9 hg) (ct hg) rfl Ty.e27 Ty.s3 rfl rfl) <| y_if (g := (((v7.length : Int) == 2) == true)) rfl (fun hg => o_loadRS (ct hg) Ty.a3 rfl) <| y_if (g := (((v7.length : Int) == 2) == true)) rfl (fun hg => o_move (d := .int .i64 v2.2.1) rfl) <| y_if (g := (((v7.length : Int) == 2) == true)) rfl (fun hg => o_cmp (ct hg) (ct hg) rfl) <| y0 rfl (pk_and rfl rfl rfl (fun q => eqT q)) <| y0 rfl (o_move (d := .bool (((v7.length : Int) == 2) && (v9 == v2.2.1))) rfl) <| y_if (g := ((((v7.length : Int) == 2) && (v9 == v2.2.1)) == true)) rfl (fun hg => o_move (d := .lst false (List.map (PV.int .i64) v7)) rfl) ?_
 obtain ⟨v10, hv10, h⟩ := bindE h
 refine y_if (g := ((((v7.length : Int) == 2) && (v9 == v2.2.1)) == true)) rfl (fun hg => o_ixL (f := (PV.int .i64)) (cs := [.int .i64 v10]) (onlyE hv10 hg) (ct hg) rfl Ty.e27 Ty.s3 rfl rfl) <| y_if (g := ((((v7.length : Int) == 2) && (v9 == v2.2.1)) == true)) rfl (fun hg => o_loadRS (ct hg) Ty.a3 rfl) <| y_if (g := ((((v7.length : Int) == 2) && (v9 == v2.2.1)) == true)) rfl (fun hg => o_move (d := .int .i64 v3.2.1) rfl) <| y_if (g := ((((v7.length : Int) == 2) && (v9 == v2.2.1)) == true)) rfl (fun hg => o_cmp (ct hg) (ct hg) rfl) <| y0 rfl (pk_and rfl rfl rfl (fun q => eqT q)) <| y0 rfl (o_move (d := .bool ((((v7.length : Int) == 2) && (v9 == v2.2.1)) && (v10 == v3.2.1))) rfl) <| y_if (g := (((((v7.length : Int) == 2) && (v9 == v2.2.1)) && (v10 == v3.2.1)) == true)) rfl (fun hg => o_move (d := .lst false (List.map (PV.int .i64) v8)) rfl) <| y_if (g := (((((v7.length : Int) == 2) && (v9 == v2.2.1)) && (v10 == v3.2.1)) == true)) rfl (fun hg => o_lnL (f := (PV.int .i64)) (ct hg) Ty.e27) ?_
 refine y_if (g := (((((v7.length : Int) == 2) && (v9 == v2.2.1)) && (v10 == v3.2.1)) == true)) rfl (fun hg => o_cmp (ct hg) rfl rfl) <| y0 rfl (pk_and rfl rfl rfl (fun q => eqT q)) <| y0 rfl (o_move (d := .bool (((((v7.length : Int) == 2) && (v9 == v2.2.1)) && (v10 == v3.2.1)) && ((v8.length : Int) == 1))) rfl) <| y_if (g := ((((((v7.length : Int) == 2) && (v9 == v2.2.1)) && (v10 == v3.2.1)) && ((v8.length : Int) == 1)) == true)) rfl (fun hg => o_move (d := .lst false (List.map (PV.int .i64) v8)) rfl) ?_
 obtain ⟨v11, hv11, h⟩ := bindE h
 refine y_if (g := ((((((v7.length : Int) == 2) && (v9 == v2.2.1)) && (v10 == v3.2.1)) && ((v8.length : Int) == 1)) == true)) rfl (fun hg => o_ixL (f := (PV.int .i64)) (cs := [.int .i64 v11]) (onlyE hv11 hg) (ct hg) rfl Ty.e27 Ty.s3 rfl rfl) <| y_if (g := ((((((v7.length : Int) == 2) && (v9 == v2.2.1)) && (v10 == v3.2.1)) && ((v8.length : Int) == 1)) == true)) rfl (fun hg => o_loadRS (ct hg) Ty.a3 rfl) <| y_if (g := ((((((v7.length : Int) == 2) && (v9 == v2.2.1)) && (v10 == v3.2.1)) && ((v8.length : Int) == 1)) == true)) rfl (fun hg => o_move (d := .int .i64 v4.2.1) rfl) <| y_if (g := ((((((v7.length : Int) == 2) && (v9 == v2.2.1)) && (v10 == v3.2.1)) && ((v8.length : Int) == 1)) == true)) rfl (fun hg => o_cmp (ct hg) (ct hg) rfl) <| y0 rfl (pk_and rfl rfl rfl (fun q => eqT q)) <| y0 rfl (o_move (d := .bool ((((((v7.length : Int) == 2) && (v9 == v2.2.1)) && (v10 == v3.2.1)) && ((v8.length : Int) == 1)) && (v11 == v4.2.1))) rfl) <| y_if (g := (((((((v7.length : Int) == 2) && (v9 == v2.2.1)) && (v10 == v3.2.1)) && ((v8.length : Int) == 1)) && (v11 == v4.2.1)) == true)) rfl (fun hg => o_loadA (cs := store_Store.Pc v6.1) rfl rfl rfl Ty.a26 Ty.s26 nl rfl) <| y_if (g := (((((((v7.length : Int) == 2) && (v9 == v2.2.1)) && (v10 == v3.2.1)) && ((v8.length : Int) == 1)) && (v11 == v4.2.1)) == true)) rfl (fun hg => o_move (d := .int .i64 v2.2.1) rfl) ?_
 refine y_if (g := (((((((v7.length : Int) == 2) && (v9 == v2.2.1)) && (v10 == v3.2.1)) && ((v8.length : Int) == 1)) && (v11 == v4.2.1)) == true)) rfl (fun hg => o_move (d := .int .i64 v3.2.1) rfl) ?_
 obtain ⟨v12, hv12, h⟩ := bindE h
 refine y_if (g := (((((((v7.length : Int) == 2) && (v9 == v2.2.1)) && (v10 == v3.2.1)) && ((v8.length : Int) == 1)) && (v11 == v4.2.1)) == true)) rfl (fun hg => o_call (ds := [store_Store.Pv v6.1, .int .i64 v2.2.1, .int .i64 v3.2.1]) rfl Ty.k54 (consE (ct hg) (consE (ct hg) (consE (ct hg) rfl))) (reach_Is_ok (onlyE hv12 hg))) <| y0 rfl (pk_and rfl rfl rfl (fun q => eqT q)) <| y0 rfl (o_move (d := .bool (((((((v7.length : Int) == 2) && (v9 == v2.2.1)) && (v10 == v3.2.1)) && ((v8.length : Int) == 1)) && (v11 == v4.2.1)) && v12)) rfl) <| y_if (g := ((((((((v7.length : Int) == 2) && (v9 == v2.2.1)) && (v10 == v3.2.1)) && ((v8.length : Int) == 1)) && (v11 == v4.2.1)) && v12) == true)) rfl (fun hg => o_loadA (cs := store_Store.Pc v6.1) rfl rfl rfl Ty.a26 Ty.s26 nl rfl) <| y_if (g := ((((((((v7.length : Int) == 2) && (v9 == v2.2.1)) && (v10 == v3.2.1)) && ((v8.length : Int) == 1)) && (v11 == v4.2.1)) && v12) == true)) rfl (fun hg => o_move (d := .int .i64 v2.2.1) rfl) <| y_if (g := ((((((((v7.length : Int) == 2) && (v9 == v2.2.1)) && (v10 == v3.2.1)) && ((v8.length : Int) == 1)) && (v11 == v4.2.1)) && v12) == true)) rfl (fun hg => o_move (d := .int .i64 v4.2.1) rfl) ?_
 obtain ⟨v13, hv13, h⟩ := bindE h
 refine y_if (g := ((((((((v7.length : Int) == 2) && (v9 == v2.2.1)) && (v10 == v3.2.1)) && ((v8.length : Int) == 1)) && (v11 == v4.2.1)) && v12) == true)) rfl (fun hg => o_call (ds := [store_Store.Pv v6.1, .int .i64 v2.2.1, .int .i64 v4.2.1]) rfl Ty.k54 (consE (ct hg) (consE (ct hg) (consE (ct hg) rfl))) (reach_Is_ok (onlyE hv13 hg))) <| y_if (g := ((((((((v7.length : Int) == 2) && (v9 == v2.2.1)) && (v10 == v3.2.1)) && ((v8.length : Int) == 1)) && (v11 == v4.2.1)) && v12) == true)) rfl (fun hg => o_not (ct hg) rfl) <| y0 rfl (pk_and rfl rfl rfl (fun q => eqT q)) <| y0 rfl (o_move (d := .bool ((((((((v7.length : Int) == 2) && (v9 == v2.2.1)) && (v10 == v3.2.1)) && ((v8.length : Int) == 1)) && (v11 == v4.2.1)) && v12) && (!v13))) rfl) <| y_if (g := (((((((((v7.length : Int) == 2) && (v9 == v2.2.1)) && (v10 == v3.2.1)) && ((v8.length : Int) == 1)) && (v11 == v4.2.1)) && v12) && (!v13)) == true)) rfl (fun hg => o_loadA (cs := store_Store.Pc v6.1) rfl rfl rfl Ty.a26 Ty.s26 nl rfl) <| y_if (g := (((((((((v7.length : Int) == 2) && (v9 == v2.2.1)) && (v10 == v3.2.1)) && ((v8.length : Int) == 1)) && (v11 == v4.2.1)) && v12) && (!v13)) == true)) rfl (fun hg => o_move (d := .lst false (List.map (PV.int .i64) v7)) rfl) ?_
 obtain ⟨v14, hv14, h⟩ := bindE h
 refine y_if (g := (((((((((v7.length : Int) == 2) && (v9 == v2.2.1)) && (v10 == v3.2.1)) && ((v8.length : Int) == 1)) && (v11 == v4.2.1)) && v12) && (!v13)) == true)) rfl (fun hg => o_call (ds := [store_Store.Pv v6.1, .lst false (List.map (PV.int .i64) v7)]) rfl Ty.k56 (consE (ct hg) (consE (ct hg) rfl)) (reach_Closed_ok (onlyE hv14 hg))) <| y0 rfl (pk_and rfl rfl rfl (fun q => eqT q)) <| y0 rfl (o_move (d := .bool (((((((((v7.length : Int) == 2) && (v9 == v2.2.1)) && (v10 == v3.2.1)) && ((v8.length : Int) == 1)) && (v11 == v4.2.1)) && v12) && (!v13)) && v14)) rfl) <| y_if (g := ((((((((((v7.length : Int) == 2) && (v9 == v2.2.1)) && (v10 == v3.2.1)) && ((v8.length : Int) == 1)) && (v11 == v4.2.1)) && v12) && (!v13)) && v14) == true)) rfl (fun hg => o_loadA (cs := store_Store.Pc v6.1) rfl rfl rfl Ty.a26 Ty.s26 nl rfl) <| y_if (g := ((((((((((v7.length : Int) == 2) && (v9 == v2.2.1)) && (v10 == v3.2.1)) && ((v8.length : Int) == 1)) && (v11 == v4.2.1)) && v12) && (!v13)) && v14) == true)) rfl (fun hg => o_move (d := .int .i64 v2.2.1) rfl) <| y_if (g := ((((((((((v7.length : Int) == 2) && (v9 == v2.2.1)) && (v10 == v3.2.1)) && ((v8.length : Int) == 1)) && (v11 == v4.2.1)) && v12) && (!v13)) && v14) == true)) rfl (fun hg => o_bI (f := (PV.int .i64)) (l := [v2.2.1]) (consE (partE (ct hg)) rfl) Ty.e27 Ty.s3 Ty.z3 rfl rfl nl rfl rfl) ?_
 obtain ⟨v15, hv15, h⟩ := bindE h
 refine y_if (g := ((((((((((v7.length : Int) == 2) && (v9 == v2.2.1)) && (v10 == v3.2.1)) && ((v8.length : Int) == 1)) && (v11 == v4.2.1)) && v12) && (!v13)) && v14) == true)) rfl (fun hg => o_call (ds := [store_Store.Pv v6.1, .lst true (List.map (PV.int .i64) [v2.2.1])]) rfl Ty.k56 (consE (ct hg) (consE (ct hg) rfl)) (reach_Closed_ok (onlyE hv15 hg))) <| y_if (g := ((((((((((v7.length : Int) == 2) && (v9 == v2.2.1)) && (v10 == v3.2.1)) && ((v8.length : Int) == 1)) && (v11 == v4.2.1)) && v12) && (!v13)) && v14) == true)) rfl (fun hg => o_not (ct hg) rfl) <| y0 rfl (pk_and rfl rfl rfl (fun q => eqT q)) <| y0 rfl (o_move (d := .bool ((((((((((v7.length : Int) == 2) && (v9 == v2.2.1)) && (v10 == v3.2.1)) && ((v8.length : Int) == 1)) && (v11 == v4.2.1)) && v12) && (!v13)) && v14) && (!v15))) rfl) <| y_if (g := (((((((((((v7.length : Int) == 2) && (v9 == v2.2.1)) && (v10 == v3.2.1)) && ((v8.length : Int) == 1)) && (v11 == v4.2.1)) && v12) && (!v13)) && v14) && (!v15)) == true)) rfl (fun hg => o_loadA (cs := store_Store.Pc v6.1) rfl rfl rfl Ty.a26 Ty.s26 nl rfl) ?_
 obtain ⟨v16, hv16, h⟩ := bindE h
 refine y_if (g := (((((((((((v7.length : Int) == 2) && (v9 == v2.2.1)) && (v10 == v3.2.1)) && ((v8.length : Int) == 1)) && (v11 == v4.2.1)) && v12) && (!v13)) && v14) && (!v15)) == true)) rfl (fun hg => o_call (ds := [store_Store.Pv v6.1, .lst true (List.map (PV.int .i64) [])]) rfl Ty.k56 (consE (ct hg) (consE rfl rfl)) (reach_Closed_ok (onlyE hv16 hg))) <| y0 rfl (pk_and rfl rfl rfl (fun q => eqT q)) <| y0 rfl (o_assign (d := .bool (((((((((((v7.length : Int) == 2) && (v9 == v2.2.1)) && (v10 == v3.2.1)) && ((v8.length : Int) == 1)) && (v11 == v4.2.1)) && v12) && (!v13)) && v14) && (!v15)) && v16)) rfl) <| y_nil <| pw_ret ?_
 obtain rfl := Option.some.inj h
 exact ⟨rfl, [_], ⟨rfl, trivial⟩, rfl, io⟩

theorem r01_Pack_ok {a0 : Int} {a1 : Int} {r : Int} (h : r01_Pack a0 a1 = some r) : PCalls Try.prog 85 [.int .i64 a0, .int .i64 a1] (.int .i64 r) := by
 unfold r01_Pack at h
 refine pc_intro (N := 24) Try.func85 rfl rfl nl fun w0 imm0 => sR <| y0 rfl (o_assign (d := .int .i64 0) rfl) <| y_nil <| pw_seq <| sR <| y0 rfl (o_move (d := .int .i64 a0) rfl) <| y0 rfl (o_cmp rfl rfl rfl) ?_
 refine y0 rfl (o_move (d := .bool (decide (a0 < 0))) rfl) <| y_if (g := ((decide (a0 < 0)) == false)) rfl (fun hg => o_move (d := .int .i64 a0) rfl) <| y_if (g := ((decide (a0 < 0)) == false)) rfl (fun hg => o_cmp (ct hg) rfl rfl) <| y0 rfl (pk_or rfl rfl rfl (fun q => eqF q)) <| y0 rfl (o_move (d := .bool ((decide (a0 < 0)) || (decide (a0 > 23)))) rfl) <| y_if (g := (((decide (a0 < 0)) || (decide (a0 > 23))) == false)) rfl (fun hg => o_move (d := .int .i64 a1) rfl) <| y_if (g := (((decide (a0 < 0)) || (decide (a0 > 23))) == false)) rfl (fun hg => o_cmp (ct hg) rfl rfl) <| y0 rfl (pk_or rfl rfl rfl (fun q => eqF q)) ?_
 refine y0 rfl (o_move (d := .bool (((decide (a0 < 0)) || (decide (a0 > 23))) || (decide (a1 < 0)))) rfl) <| y_if (g := ((((decide (a0 < 0)) || (decide (a0 > 23))) || (decide (a1 < 0))) == false)) rfl (fun hg => o_move (d := .int .i64 a1) rfl) <| y_if (g := ((((decide (a0 < 0)) || (decide (a0 > 23))) || (decide (a1 < 0))) == false)) rfl (fun hg => o_cmp (ct hg) rfl rfl) <| y0 rfl (pk_or rfl rfl rfl (fun q => eqF q)) <| y_nil ?_
 refine pw_cond ((((decide (a0 < 0)) || (decide (a0 > 23))) || (decide (a1 < 0))) || (decide (a1 > 9))) rfl (fun hc => ?_) (fun hc => ?_)
 ·have h := ifT h hc
  refine sR <| y0 rfl (o_assign (d := .int .i64 0) rfl) <| y_nil <| pw_ret ?_
  obtain rfl := Option.some.inj h
  exact ⟨rfl, [_], ⟨rfl, trivial⟩, rfl, io⟩
 ·have h := ifF h hc
  refine pw_skip <| sR <| y0 rfl (o_move (d := .int .i64 a0) rfl) <| y0 rfl (o_ari rfl rfl rfl) <| y0 rfl (o_move (d := .int .i64 a1) rfl) <| y0 rfl (o_ari rfl rfl rfl) <| y0 rfl (o_ari rfl rfl rfl) <| y0 rfl (o_assign (d := .int .i64 (w64 ((w64 (1 + a0)) + (w64 (32 * a1))))) rfl) ?_
  refine y_nil <| pw_ret ?_
  obtain rfl := Option.some.inj h
  exact ⟨rfl, [_], ⟨rfl, trivial⟩, rfl, io⟩

theorem r01_Valid_ok {a0 : Int} {r : Bool} (h : r01_Valid a0 = some r) : PCalls Try.prog 125 [.int .i64 a0] (.bool r) := by
 unfold r01_Valid at h
 refine pc_intro (N := 18) Try.func125 rfl rfl nl fun w0 imm0 => sR <| y0 rfl (o_assign (d := .bool false) rfl) <| y_nil <| pw_seq <| sR <| y0 rfl (o_move (d := .int .i64 a0) rfl) <| y0 rfl (o_cmp rfl rfl rfl) ?_
 refine y0 rfl (o_move (d := .bool (decide (a0 < 1))) rfl) <| y_if (g := ((decide (a0 < 1)) == false)) rfl (fun hg => o_move (d := .int .i64 a0) rfl) <| y_if (g := ((decide (a0 < 1)) == false)) rfl (fun hg => o_cmp (ct hg) rfl rfl) <| y0 rfl (pk_or rfl rfl rfl (fun q => eqF q)) <| y_nil ?_
 refine pw_cond ((decide (a0 < 1)) || (decide (a0 > 400))) rfl (fun hc => ?_) (fun hc => ?_)
 ·have h := ifT h hc
  refine sR <| y0 rfl (o_assign (d := .bool false) rfl) <| y_nil <| pw_ret ?_
  obtain rfl := Option.some.inj h
  exact ⟨rfl, [_], ⟨rfl, trivial⟩, rfl, io⟩
 ·have h := ifF h hc
  refine pw_skip <| sR <| y0 rfl (o_move (d := .int .i64 a0) rfl) <| y0 rfl (o_ari rfl rfl rfl) ?_
  obtain ⟨v1, hv1, h⟩ := bindE h
  refine y0 rfl (o_ari rfl rfl hv1) <| y0 rfl (o_move (d := .int .i64 a0) rfl) <| y0 rfl (o_ari rfl rfl rfl) ?_
  obtain ⟨v2, hv2, h⟩ := bindE h
  refine y0 rfl (o_ari rfl rfl hv2) ?_
  obtain ⟨v3, hv3, h⟩ := bindE h
  refine y0 rfl (o_call (ds := [.int .i64 v1, .int .i64 v2]) rfl Ty.k85 rfl (r01_Pack_ok hv3)) <| y0 rfl (o_move (d := .int .i64 a0) rfl) <| y0 rfl (o_cmp rfl rfl rfl) <| y0 rfl (o_assign (d := .bool (v3 == a0)) rfl) <| y_nil <| pw_ret ?_
  obtain rfl := Option.some.inj h
  exact ⟨rfl, [_], ⟨rfl, trivial⟩, rfl, io⟩

theorem r01_Slot_ok {a0 : Int} {r : Int} (h : r01_Slot a0 = some r) : PCalls Try.prog 101 [.int .i64 a0] (.int .i64 r) := by
 unfold r01_Slot at h
 refine pc_intro (N := 9) Try.func101 rfl rfl nl fun w0 imm0 => sR <| y0 rfl (o_assign (d := .int .i64 0) rfl) <| y_nil <| pw_seq <| sR <| y0 rfl (o_move (d := .int .i64 a0) rfl) ?_
 obtain ⟨v1, hv1, h⟩ := bindE h
 refine y0 rfl (o_call (ds := [.int .i64 a0]) rfl Ty.k125 rfl (r01_Valid_ok hv1)) <| y0 rfl (o_not rfl rfl) <| y_nil ?_
 refine pw_cond (!v1) rfl (fun hc => ?_) (fun hc => ?_)
 ·have h := ifT h hc
  refine sR <| y0 rfl (o_assign (d := .int .i64 (-1)) rfl) <| y_nil <| pw_ret ?_
  obtain rfl := Option.some.inj h
  exact ⟨rfl, [_], ⟨rfl, trivial⟩, rfl, io⟩
 ·have h := ifF h hc
  refine pw_skip <| sR <| y0 rfl (o_move (d := .int .i64 a0) rfl) <| y0 rfl (o_ari rfl rfl rfl) ?_
  obtain ⟨v2, hv2, h⟩ := bindE h
  refine y0 rfl (o_ari rfl rfl hv2) <| y0 rfl (o_assign (d := .int .i64 v2) rfl) <| y_nil <| pw_ret ?_
  obtain rfl := Option.some.inj h
  exact ⟨rfl, [_], ⟨rfl, trivial⟩, rfl, io⟩

theorem r01_Gen_ok {a0 : Int} {r : Int} (h : r01_Gen a0 = some r) : PCalls Try.prog 102 [.int .i64 a0] (.int .i64 r) := by
 unfold r01_Gen at h
 refine pc_intro (N := 9) Try.func102 rfl rfl nl fun w0 imm0 => sR <| y0 rfl (o_assign (d := .int .i64 0) rfl) <| y_nil <| pw_seq <| sR <| y0 rfl (o_move (d := .int .i64 a0) rfl) ?_
 obtain ⟨v1, hv1, h⟩ := bindE h
 refine y0 rfl (o_call (ds := [.int .i64 a0]) rfl Ty.k125 rfl (r01_Valid_ok hv1)) <| y0 rfl (o_not rfl rfl) <| y_nil ?_
 refine pw_cond (!v1) rfl (fun hc => ?_) (fun hc => ?_)
 ·have h := ifT h hc
  refine sR <| y0 rfl (o_assign (d := .int .i64 (-1)) rfl) <| y_nil <| pw_ret ?_
  obtain rfl := Option.some.inj h
  exact ⟨rfl, [_], ⟨rfl, trivial⟩, rfl, io⟩
 ·have h := ifF h hc
  refine pw_skip <| sR <| y0 rfl (o_move (d := .int .i64 a0) rfl) <| y0 rfl (o_ari rfl rfl rfl) ?_
  obtain ⟨v2, hv2, h⟩ := bindE h
  refine y0 rfl (o_ari rfl rfl hv2) <| y0 rfl (o_assign (d := .int .i64 v2) rfl) <| y_nil <| pw_ret ?_
  obtain rfl := Option.some.inj h
  exact ⟨rfl, [_], ⟨rfl, trivial⟩, rfl, io⟩

theorem r03_Find_ok {a0 : r03_Slab} {a1 : Int} {r : Int × Int} (h : r03_Find a0 a1 = some r) : PCalls Try.prog 61 [r03_Slab.Pv a0, .int .i64 a1] (.tup [.int .i64 r.1, .int .i64 r.2]) := by
 unfold r03_Find at h
 refine pc_intro (N := 42) Try.func61 rfl rfl nl fun w0 imm0 => sR <| y1 rfl (o_box (d := r03_Slab.Pv a0) (z := 2) (cl := true) rfl rfl rfl rfl rfl) rfl <| y0 rfl (o_assign (d := .int .i64 0) rfl) <| y0 rfl (o_assign (d := .int .i64 0) rfl) <| y_nil <| pw_seq <| sR ?_
 refine y0 rfl (o_move (d := .int .i64 a1) rfl) <| y0 rfl (o_cmp rfl rfl rfl) <| y_nil ?_
 refine pw_cond (a1 == 0) rfl (fun hc => ?_) (fun hc => ?_)
 ·have h := ifT h hc
  refine sR <| y0 rfl (o_assign (d := .int .i64 (-1)) rfl) <| y0 rfl (o_assign (d := .int .i64 2) rfl) <| y_nil <| pw_ret ?_
  obtain rfl := Option.some.inj h
  exact ⟨rfl, [_, _], ⟨rfl, ⟨rfl, trivial⟩⟩, rfl, io⟩
 ·have h := ifF h hc
  refine pw_skip <| sR <| y0 rfl (o_move (d := .int .i64 a1) rfl) ?_
  obtain ⟨v1, hv1, h⟩ := bindE h
  refine y0 rfl (o_call (ds := [.int .i64 a1]) rfl Ty.k101 rfl (r01_Slot_ok hv1)) <| y0 rfl (o_assign (d := .int .i64 v1) rfl) <| y_nil <| pw_seq <| sR <| y0 rfl (o_move (d := .int .i64 v1) rfl) <| y0 rfl (o_cmp rfl rfl rfl) <| y0 rfl (o_move (d := .bool (decide (v1 < 0))) rfl) ?_
  refine y_if (g := ((decide (v1 < 0)) == false)) rfl (fun hg => o_move (d := .int .i64 v1) rfl) <| y_if (g := ((decide (v1 < 0)) == false)) rfl (fun hg => o_fieldAddrP (k := 0) rfl Ty.f81_0 rfl) <| y_if (g := ((decide (v1 < 0)) == false)) rfl (fun hg => o_loadS (ct hg) rfl rfl Ty.a79 rfl) <| y_if (g := ((decide (v1 < 0)) == false)) rfl (fun hg => o_lnL (f := r03_Cell.Pv) (ct hg) Ty.e79) <| y_if (g := ((decide (v1 < 0)) == false)) rfl (fun hg => o_cmp (ct hg) (ct hg) rfl) <| y0 rfl (pk_or rfl rfl rfl (fun q => eqF q)) <| y_nil ?_
  refine pw_cond ((decide (v1 < 0)) || (decide (v1 ≥ (a0.Cells.length : Int)))) rfl (fun hc => ?_) (fun hc => ?_)
  ·have h := ifT h hc
   refine sR <| y0 rfl (o_assign (d := .int .i64 (-1)) rfl) <| y0 rfl (o_assign (d := .int .i64 3) rfl) <| y_nil <| pw_ret ?_
   obtain rfl := Option.some.inj h
   exact ⟨rfl, [_, _], ⟨rfl, ⟨rfl, trivial⟩⟩, rfl, io⟩
  ·have h := ifF h hc
   refine pw_skip <| sR <| y0 rfl (o_fieldAddrP (k := 0) rfl Ty.f81_0 rfl) <| y0 rfl (o_loadS rfl rfl rfl Ty.a79 rfl) <| y0 rfl (o_move (d := .int .i64 v1) rfl) ?_
   obtain ⟨v2, hv2, h⟩ := bindE h
   refine y0 rfl (o_ixL (f := r03_Cell.Pv) (cs := r03_Cell.Pc v2) hv2 rfl rfl Ty.e79 Ty.s123 rfl rfl) <| y0 rfl (o_loadRA (cs := r03_Cell.Pc v2) rfl Ty.a123 Ty.s123 nl rfl) <| y1 rfl (o_alloc (d := .agg [.int .i64 0, .int .i64 0, .int .i64 0]) (z := 3) rfl Ty.z123 rfl rfl rfl) rfl <| y_sto (x' := r03_Cell.Pv v2) (cl' := true) rfl rfl (.inl rfl) Ty.s123 <| y_nil <| pw_seq <| dr [] Ty.mix (by kernel_rfl) (by kernel_rfl) <| d7 rfl (fun _ hN => o_fieldAddrP (k := 1) rfl Ty.f123_1 rfl) rfl ?_
   refine d0 rfl (o_loadS rfl rfl rfl Ty.a3 rfl) rfl <| d7 rfl (fun _ hN => o_move (d := .int .i64 a1) rfl) rfl ?_
   obtain ⟨v3, hv3, h⟩ := bindE h
   refine d2 rfl (o_call (ds := [.int .i64 a1]) rfl Ty.k102 rfl (r01_Gen_ok hv3)) rfl <| d7 rfl (fun _ hN => o_cmp rfl rfl rfl) rfl <| d7 rfl (fun _ hN => o_move (d := .bool (v2.Gen != v3)) rfl) rfl <| d_if7 (g := ((v2.Gen != v3) == false)) rfl (fun hg _ hN => o_fieldAddrP (k := 0) rfl Ty.f123_0 rfl) rfl <| d_if0 (g := ((v2.Gen != v3) == false)) rfl (fun hg => o_loadS (ct hg) rfl rfl Ty.a3 rfl) rfl <| d_if7 (g := ((v2.Gen != v3) == false)) rfl (fun hg _ hN => o_cmp (ct hg) rfl rfl) rfl <| d_if7 (g := ((v2.Gen != v3) == false)) rfl (fun hg _ hN => o_move (d := .bool (v2.State != 1)) (ct hg)) rfl <| d_if7 (g := (((v2.Gen != v3) == false) && ((v2.State != 1) == true))) (want2 rfl rfl rfl) (fun hg _ hN => o_fieldAddrP (k := 0) rfl Ty.f123_0 rfl) rfl ?_
   refine d_if0 (g := (((v2.Gen != v3) == false) && ((v2.State != 1) == true))) (want2 rfl rfl rfl) (fun hg => o_loadS (ct hg) rfl rfl Ty.a3 rfl) rfl <| d_if7 (g := (((v2.Gen != v3) == false) && ((v2.State != 1) == true))) (want2 rfl rfl rfl) (fun hg _ hN => o_cmp (ct hg) rfl rfl) rfl <| d_if7 (g := ((v2.Gen != v3) == false)) rfl (fun hg _ hN => pk_and (ct hg) rfl rfl (fun q => andI hg (eqT q))) rfl <| d7 rfl (fun _ hN => pk_or rfl rfl rfl (fun q => eqF q)) rfl <| d_nil ?_
   refine pw_cond ((v2.Gen != v3) || ((v2.State != 1) && (v2.State != 2))) rfl (fun hc => ?_) (fun hc => ?_)
   ·have h := ifT h hc
    refine sR <| y0 rfl (o_assign (d := .int .i64 (-1)) rfl) <| y0 rfl (o_assign (d := .int .i64 3) rfl) <| y_nil <| pw_ret ?_
    obtain rfl := Option.some.inj h
    exact ⟨rfl, [_, _], ⟨rfl, ⟨rfl, trivial⟩⟩, rfl, io⟩
   ·have h := ifF h hc
    refine pw_skip <| sR <| y0 rfl (o_move (d := .int .i64 v1) rfl) <| y0 rfl (o_assign (d := .int .i64 v1) rfl) <| y0 rfl (o_assign (d := .int .i64 0) rfl) <| y_nil <| pw_ret ?_
    obtain rfl := Option.some.inj h
    exact ⟨rfl, [_, _], ⟨rfl, ⟨rfl, trivial⟩⟩, rfl, io⟩

end Go.Proofs.Ytpnajadblhkomaa.Ok
