/-
  Lines tell what an engine does: an object is made, saved by its program, and dropped again.
  Conditions: none beyond that the arguments are values of their Go types; the library's tables hold what the program's text lays (the card ties them to it).
-/
import Derived.Test.YtppgkaeodaaidaaGreatDoorRows
import Derived.Test.YtppgkaeodaaidaaGreatDoorCards
import Derived.Test.YtppgkaeodaaidaaGreatDoorTie
import Derived.OpenShut
import Derived.Lib.Hide
import Derived.WalkKit
import Derived.ProofKit
import Derived.ShutString
import Derived.ChangeOld
import Derived.Below
import Derived.Deep.DeepHandedRow
import Derived.Deep.DeepWitnessRowRef
import Derived.Lib.LaidIn
import Derived.Shelf.Vars
import Derived.Stop.LaidErr
import Derived.SevenTiedAt
import Derived.Test.YtppgkaeodaaidaaGreatDoorU3tOk2
import Derived.Test.YtppgkaeodaaidaaGreatDoorU3tRd
import Derived.Test.YtppgkaeodaaidaaGreatDoorU3tT
namespace Go.Proofs.YtppgkaeodaaidaaGreatDoor.topConsole
open Go Go.Pw Go.Sh Go.Proofs Go.Proofs.YtppgkaeodaaidaaGreatDoor Go.ChangeShapes Go.WideShapes Go.ChangeAt Go.RowKit
set_option linter.unusedVariables false
theorem own : ownKnob Tryz.prog.godebug = none := by kernel_rfl
theorem laidOut : laidOutB Tryz.prog = true := by kernel_rfl
theorem walk (w : World) (hG : GT Tryz.prog w) (v0 : Value) (a0 : Int) (r0 : Rd0 w (all w) v0 (.int .u8 a0)) (g0 : (fun (n : Int) => (Lit.int .u8 n).wf = true) a0) (v1 : Value) (a1 : Int) (r1 : Rd0 w (all w) v1 (.int .u8 a1)) (g1 : (fun (n : Int) => (Lit.int .u8 n).wf = true) a1) :
    Calls Tryz.prog 8 #[v0, v1] w fun e w' => e = .returned (.bool true) ∧ Below w.heap.size w w' :=
  b5t (Ok.wt_TopConsole_ok.2 _ (topConsole (wf_u8 g0) (wf_u8 g1))) (rdL_of (vs := [v0, v1]) ⟨r0, r1, trivial⟩) hG

def flat : Nat → DataW Unit → List Value
  | k + 1, .agg l => l.flatMap (flat k)
  | _, .lit (.int k z) => [.int k z]
  | _, _ => []
noncomputable def laidWorld (os : Os) : World :=
  let w0 := World.holding Tryz.prog os ⟨#[], #[], []⟩
  let put (h : Array Obj) (g : Nat) (d : DataW Unit) : Array Obj := h.modify g fun
    | .cells _ t frozen => .cells (flat 3 d).toArray t frozen
    | o => o
  { w0 with heap := put (put (put (put (put w0.heap 4 Rows.laid_math_bits_deBruijn32tab) 5 Rows.laid_math_bits_deBruijn64tab) 1 Rows.laid_internal_strconv_uint64pow10) 3 Rows.laid_unicode_utf8_acceptRanges) 2 Rows.laid_unicode_utf8_first }
set_option maxRecDepth 1000000 in
theorem laid_met (os : Os) (args : Array Value) : laidMet Tryz.prog Rows.topConsoleRow.laid ((laidWorld os).forCall (fun _ _ => 0) ⟨#[], args, []⟩).memory :=
  (LaidIn.of_run [4, 5, 1, 3, 2] 8 (by kernel_rfl) (by kernel_rfl) (by kernel_rfl) (by kernel_rfl)).met
theorem witness_row (os : Os) {H : Type} (enc : TypeId × Value → H) :
    (OpenSpec.ofChange Rows.topConsoleSpec).preRow enc Tryz.prog Tryz.f8 Rows.topConsoleRow.domain false Rows.topConsoleRow.laid ((laidWorld os).forCall (fun _ _ => 0) ⟨#[], #[.int .u8 0, .int .u8 0], []⟩).memory #[.int .u8 0, .int .u8 0] := by
  have hw : (DataW.whole enc Tryz.prog ((laidWorld os).forCall (fun _ _ => 0) ⟨#[], #[.int .u8 0, .int .u8 0], []⟩).memory Tryz.f8.params.toList (OpenSpec.ofChange Rows.topConsoleSpec).vars false #[.int .u8 0, .int .u8 0].toList 8).map (fun x => (x.1, x.2.1)) =
      some ([.lit (.int .u8 0), .lit (.int .u8 0)], []) := by kernel_rfl
  obtain ⟨⟨x1, x2, x3⟩, hx, hx1⟩ := Option.map_eq_some_iff.1 hw
  simp only [Prod.mk.injEq] at hx1
  obtain ⟨rfl, rfl⟩ := hx1
  exact OpenSpec.preRow_of_cond 8 hx (by kernel_rfl) (fun k hk => by cases hk) (by kernel_rfl) (laid_met os _)
theorem g0z : ((begin Tryz.prog (fun _ _ => 0) default).world.heap[0]?).bind Obj.row? = some (#[.int .i64 0], 3) := by kernel_rfl
/-- What the world holds of the library's tables. -/
theorem gt_of {W : World} (hL : laidMetH Tryz.prog Rows.topConsoleRow.laid W) (hSh : W.ShapedOpen Tryz.prog) : GT Tryz.prog W := by
  have hL' : laidMet Tryz.prog Rows.topConsoleRow.laid W := hL
  refine ⟨fun g hg => ?_, fun g hg => ?_⟩
  · exact cast (by kernel_rfl) (Lib.tabIs_of_head (P := Tryz.prog) (W := W) (name := "internal/strconv.uint64pow10") (k := .u64) (zs := Lib.pow10Tab) (g := 1) (t := 340) (e := 269) (n := 20) (by kernel_rfl) (by kernel_rfl) (by kernel_rfl) (by kernel_rfl) (by kernel_rfl) (by kernel_rfl) (laidMet.tail (laidMet.tail hL')))
  · cases hg
    exact cell_of_shapedOpen_int hSh (of_decide_eq_true (by kernel_rfl)) g0z rfl (by kernel_rfl) (by kernel_rfl) Tryz.underlying3

set_option maxRecDepth 100000 in
theorem lifted (os : Os) (started : os.Started) (H : Type) (enc : TypeId × Value → H) (F : Stop.Interp) :
    ReturnsInHanded {} Tryz.checked os 8 .any ((OpenSpec.ofChange Rows.topConsoleSpec).preRow enc Tryz.prog Tryz.f8 Rows.topConsoleRow.domain false Rows.topConsoleRow.laid) (((OpenSpec.ofChange Rows.topConsoleSpec).at F).post enc Tryz.prog Tryz.f8 false true false false) := by
  refine returnsInHanded_of_row (C := Tryz.checked) (s := OpenSpec.ofChange Rows.topConsoleSpec) own started (by kernel_rfl) Tryz.func8
    (witness_row_atRef (enc := enc) (C := Tryz.checked) false (laidWorld os) #[.int .u8 0, .int .u8 0] rfl (by kernel_rfl) (by kernel_rfl) (by kernel_rfl) (witness_row os enc)) ?_
  intro W base args ds gs before hval0 hW _ _ _ hL hSh _
  have hval : ∀ (j : Nat) t v, Tryz.f8.params[j]? = some t → args[j]? = some v → Value.okWide Tryz.prog W .any base t v := hval0
  have hW' := hW
  obtain ⟨p, q, hA0, hV, rfl, hfz, hnd⟩ := hW
  have hA : DataW.TrodAll enc Tryz.prog W 0 (fun _ => true) true Tryz.f8.params.toList args.toList ds p := hA0
  rw [Tryz.params8] at hA hval
  obtain ⟨v0, vs0, d0, ds0, p0, q0, hargs, rfl, rfl, k0, r0⟩ := trodAll_cons hA
  obtain ⟨v1, vs1, d1, ds1, p1, q1, rfl, rfl, rfl, k1, r1⟩ := trodAll_cons r0
  obtain ⟨rfl, rfl, rfl⟩ := trodAll_nil r1
  obtain rfl : args = #[v0, v1] := by cases args; simp_all
  obtain ⟨rfl, rfl⟩ := trodVars_none hV
  have lt0 : ∀ x ∈ p0, x.block < W.heap.size := by obtain ⟨m, hm⟩ := k0; exact DataW.trod_lt m _ _ _ hm
  have lt1 : ∀ x ∈ p1, x.block < W.heap.size := by obtain ⟨m, hm⟩ := k1; exact DataW.trod_lt m _ _ _ hm
  clear hA0 hval0 r0 r1
  obtain ⟨a0, r0, g0⟩ := b6O Tryz.underlying5 (by kernel_rfl) (hval 0 5 v0 rfl rfl) k0
  obtain ⟨a1, r1, g1⟩ := b6O Tryz.underlying5 (by kernel_rfl) (hval 1 5 v1 rfl rfl) k1
  refine (walk W (gt_of hL hSh) v0 a0 r0 g0 v1 a1 r1 g1).mono fun e W' ⟨he, bel⟩ => ?_
  subst he
  exact ⟨_, rfl, _, _, _, [], _, [], hW', trodAll_mk1 (shut_bool Tryz.underlying4 _), (trodAll_cons_mk (Below.trod laidOut (by kernel_rfl) (of_decide_eq_true (by kernel_rfl)) k0 bel lt0) (trodAll_cons_mk (Below.trod laidOut (by kernel_rfl) (of_decide_eq_true (by kernel_rfl)) k1 bel lt1) trodAll_mk0)), rfl, bel.frame _, fun h => by cases h⟩

theorem enters : Tryz.prog.mayEnter = true := by kernel_rfl
theorem lifts : (Rows.topConsoleRow.lifted == Tryz.prog.liftsFinal) = true := by kernel_rfl
theorem makes : (Tryz.prog.make == some Rows.topConsoleRow.make) = true := by kernel_rfl
theorem place : (Rows.topConsoleRow.inPlace == Tryz.prog.inPlace 8) = true := by kernel_rfl
theorem unfol : (Rows.topConsoleRow.unfollowed == Tryz.prog.unfollowed 8) = true := by kernel_rfl
theorem recur : (Rows.topConsoleRow.recurses == Tryz.prog.recurses 8) = true := by kernel_rfl
theorem names : (Rows.topConsoleRow.named == Tryz.prog.varsNamed 8) = true := by kernel_rfl
theorem rowed : mapsRowed Tryz.prog = true := by kernel_rfl
theorem stops : (Tryz.prog.stops == []) = true := by kernel_rfl
theorem knobs : (Tryz.prog.stopKnobs == []) = true := by kernel_rfl
theorem closed : joinedFacts Tryz.prog 8 Tryz.f8 Rows.topConsoleSpec Rows.topConsoleRow = true := by
  unfold joinedFacts
  rw [laidOut, enters, lifts, makes, place, unfol, recur, names, rowed, stops, knobs]
  kernel_rfl
set_option maxRecDepth 100000 in
theorem over : Rows.topConsoleRow.holds Tryz.pinned (OpenSpec.ofChange Rows.topConsoleSpec) :=
  OpenClaim.holds_of_cond 8 Tryz.f8 rfl rfl rfl rfl rfl rfl rfl ⟨rfl, rfl, rfl, rfl, rfl⟩ rfl rfl rfl rfl rfl (by kernel_rfl) Tryz.func8 closed
    (of_decide_eq_true (by kernel_rfl)) (by unfold Func.isWrapper; first | (rw [if_pos (by decide +kernel)]; kernel_rfl) | (rw [if_neg (by decide +kernel)]; exact ⟨rfl, rfl⟩))
    (fun os started H enc _ F => by rw [OpenClaim.pre_eq_preRow]; exact lifted os started H enc F)
theorem fWf : Rows.topConsoleRow.wfByText (OpenSpec.ofChange Rows.topConsoleSpec) = true := by kernel_rfl
theorem fMain : Tryz.prog.mainIs = some (true, ("c8971ead518be44c10499fc62d681516014870a13f262c1d68723de1b88f6cca" : String).toList) := by kernel_rfl
theorem fLook : true = Tryz.prog.looks [] := by kernel_rfl
theorem fNamed : Tryz.prog.funcNamed "mortmain/mortmaintop.TopConsole" = some 8 := by kernel_rfl
theorem fStand : ([5].all fun u => !Tryz.prog.wantsStandIn u) = true := by kernel_rfl
theorem fGoes : false = Rows.topConsoleRow.goesBy Tryz.prog := by kernel_rfl
set_option maxRecDepth 100000 in
theorem proved : Rows.TopConsoleCardSaid :=
  Claim7.holds_tied_plain_at .later [] [.data, .data, .data, .data, .pinned] true (true, "c8971ead518be44c10499fc62d681516014870a13f262c1d68723de1b88f6cca") true
    over (fun _ h => by cases h) fWf (fun _ h => by cases h) topConsole_row_tie rfl ⟨rfl, rfl⟩ fMain rfl
    (fun f fn hf hfn => by
      obtain rfl : f = 8 := Option.some.inj (fNamed.symm.trans hf) |>.symm
      obtain rfl : fn = Tryz.f8 := (Option.some.inj (Tryz.func8.symm.trans hfn)).symm
      exact ⟨fLook, fun j t ht => by
        rw [Tryz.params8] at ht
        have hm : t ∈ [5] := by simpa using Array.mem_of_getElem? ht
        exact (show Tryz.prog.wantsStandIn t = false by simpa using List.all_eq_true.1 fStand t hm)⟩)
    fGoes
#print axioms proved
end Go.Proofs.YtppgkaeodaaidaaGreatDoor.topConsole
