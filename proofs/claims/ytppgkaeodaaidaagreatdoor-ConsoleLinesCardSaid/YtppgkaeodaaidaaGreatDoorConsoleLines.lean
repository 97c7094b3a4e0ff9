/-
  The replies to any script are the document's.
  Conditions: none beyond that the arguments are values of their Go types; the library's tables hold what the program's text lays (the card ties them to it).
-/
import Derived.Test.YtppgkaeodaaidaaGreatDoorRows
import Derived.Test.YtppgkaeodaaidaaGreatDoorCards
import Derived.Test.YtppgkaeodaaidaaGreatDoorTie
import Derived.OpenShut
import Derived.Lib.Hide
import Derived.WalkKit
import Derived.ProofKit
import Derived.ShutString
import Derived.ChangeOld
import Derived.Below
import Derived.Deep.DeepHandedRow
import Derived.Deep.DeepWitnessRowRef
import Derived.Lib.LaidIn
import Derived.Shelf.Vars
import Derived.Stop.LaidErr
import Derived.SevenTiedAt
import Derived.Test.YtppgkaeodaaidaaGreatDoorU3lOk4
import Derived.Test.YtppgkaeodaaidaaGreatDoorU3lRd
import Derived.Test.YtppgkaeodaaidaaGreatDoorU3lT3
import Derived.Test.YtppgkaeodaaidaaGreatDoorU3lFa
import Derived.Test.YtppgkaeodaaidaaGreatDoorU3lFb
import Derived.Test.YtppgkaeodaaidaaGreatDoorU3lFc
namespace Go.Proofs.YtppgkaeodaaidaaGreatDoor.consoleLines
open Go Go.Pw Go.Sh Go.Proofs Go.Proofs.YtppgkaeodaaidaaGreatDoor Go.ChangeShapes Go.WideShapes Go.ChangeAt Go.RowKit
set_option linter.unusedVariables false
theorem own : ownKnob Tryz.prog.godebug = none := by kernel_rfl
theorem walk (w : World) (hG : GT Tryz.prog w) (v0 : Value) (a0 : ByteArray) (r0 : Rd0 w (all w) v0 (.str a0)) (g0 : (fun (s : ByteArray) => s.size ≤ maxLen) a0) :
    Calls Tryz.prog 3 #[v0] w fun e w' => e = .returned (.bool true) ∧ Below w.heap.size w w' :=
  a0j (Ok.w23_ConsoleLines_ok.2 _ (consoleLines a0)) (rdL_of (vs := [v0]) ⟨r0, trivial⟩) hG

def flat : Nat → DataW Unit → List Value
  | k + 1, .agg l => l.flatMap (flat k)
  | _, .lit (.int k z) => [.int k z]
  | _, _ => []
noncomputable def laidWorld (os : Os) : World :=
  let w0 := World.holding Tryz.prog os ⟨#[], #[], []⟩
  let put (h : Array Obj) (g : Nat) (d : DataW Unit) : Array Obj := h.modify g fun
    | .cells _ t frozen => .cells (flat 3 d).toArray t frozen
    | o => o
  { w0 with heap := put (put (put (put (put w0.heap 4 Rows.laid_math_bits_deBruijn32tab) 5 Rows.laid_math_bits_deBruijn64tab) 1 Rows.laid_internal_strconv_uint64pow10) 3 Rows.laid_unicode_utf8_acceptRanges) 2 Rows.laid_unicode_utf8_first }
set_option maxRecDepth 1000000 in
theorem laid_met (os : Os) (args : Array Value) : laidMet Tryz.prog Rows.consoleLinesRow.laid ((laidWorld os).forCall (fun _ _ => 0) ⟨#[], args, []⟩).memory :=
  (LaidIn.of_run [4, 5, 1, 3, 2] 8 (by kernel_rfl) (by kernel_rfl) (by kernel_rfl) (by kernel_rfl)).met
theorem witness_row (os : Os) {H : Type} (enc : TypeId × Value → H) :
    (OpenSpec.ofChange Rows.consoleLinesSpec).preRow enc Tryz.prog Tryz.f3 Rows.consoleLinesRow.domain false Rows.consoleLinesRow.laid ((laidWorld os).forCall (fun _ _ => 0) ⟨#[], #[.string ByteArray.empty], []⟩).memory #[.string ByteArray.empty] := by
  have hw : (DataW.whole enc Tryz.prog ((laidWorld os).forCall (fun _ _ => 0) ⟨#[], #[.string ByteArray.empty], []⟩).memory Tryz.f3.params.toList (OpenSpec.ofChange Rows.consoleLinesSpec).vars false #[.string ByteArray.empty].toList 8).map (fun x => (x.1, x.2.1)) =
      some ([.lit (.string [])], []) := by kernel_rfl
  obtain ⟨⟨x1, x2, x3⟩, hx, hx1⟩ := Option.map_eq_some_iff.1 hw
  simp only [Prod.mk.injEq] at hx1
  obtain ⟨rfl, rfl⟩ := hx1
  exact OpenSpec.preRow_of_cond 8 hx (by kernel_rfl) (fun k hk => by cases hk) (by kernel_rfl) (laid_met os _)
theorem g0z : ((begin Tryz.prog (fun _ _ => 0) default).world.heap[0]?).bind Obj.row? = some (#[.int .i64 0], 3) := by kernel_rfl
/-- What the world holds of the library's tables. -/
theorem gt_of {W : World} (hL : laidMetH Tryz.prog Rows.consoleLinesRow.laid W) (hSh : W.ShapedOpen Tryz.prog) : GT Tryz.prog W := by
  have hL' : laidMet Tryz.prog Rows.consoleLinesRow.laid W := hL
  refine ⟨fun g hg => ?_, fun g hg => ?_⟩
  · exact cast (by kernel_rfl) (Lib.tabIs_of_head (P := Tryz.prog) (W := W) (name := "internal/strconv.uint64pow10") (k := .u64) (zs := Lib.pow10Tab) (g := 1) (t := 340) (e := 269) (n := 20) (by kernel_rfl) (by kernel_rfl) (by kernel_rfl) (by kernel_rfl) (by kernel_rfl) (by kernel_rfl) (laidMet.tail (laidMet.tail hL')))
  · cases hg
    exact cell_of_shapedOpen_int hSh (of_decide_eq_true (by kernel_rfl)) g0z rfl (by kernel_rfl) (by kernel_rfl) Tryz.underlying3

set_option maxRecDepth 100000 in
theorem lifted (os : Os) (started : os.Started) (H : Type) (enc : TypeId × Value → H) (F : Stop.Interp) :
    ReturnsInHanded {} Tryz.checked os 3 .any ((OpenSpec.ofChange Rows.consoleLinesSpec).preRow enc Tryz.prog Tryz.f3 Rows.consoleLinesRow.domain false Rows.consoleLinesRow.laid) (((OpenSpec.ofChange Rows.consoleLinesSpec).at F).post enc Tryz.prog Tryz.f3 false true false false) := by
  refine returnsInHanded_of_row (C := Tryz.checked) (s := OpenSpec.ofChange Rows.consoleLinesSpec) own started (by kernel_rfl) Tryz.func3
    (witness_row_atRef (enc := enc) (C := Tryz.checked) false (laidWorld os) #[.string ByteArray.empty] rfl (by kernel_rfl) (by kernel_rfl) (by kernel_rfl) (witness_row os enc)) ?_
  intro W base args ds gs before hval0 hW _ _ _ hL hSh _
  have hval : ∀ (j : Nat) t v, Tryz.f3.params[j]? = some t → args[j]? = some v → Value.okWide Tryz.prog W .any base t v := hval0
  have hW' := hW
  obtain ⟨p, q, hA0, hV, rfl, hfz, hnd⟩ := hW
  have hA : DataW.TrodAll enc Tryz.prog W 0 (fun _ => true) true Tryz.f3.params.toList args.toList ds p := hA0
  rw [Tryz.params3] at hA hval
  obtain ⟨v0, vs0, d0, ds0, p0, q0, hargs, rfl, rfl, k0, r0⟩ := trodAll_cons hA
  obtain ⟨rfl, rfl, rfl⟩ := trodAll_nil r0
  obtain rfl : args = #[v0] := by cases args; simp_all
  obtain ⟨rfl, rfl⟩ := trodVars_none hV
  have lt0 : ∀ x ∈ p0, x.block < W.heap.size := by obtain ⟨m, hm⟩ := k0; exact DataW.trod_lt m _ _ _ hm
  clear hA0 hval0 r0
  obtain ⟨a0, r0, g0⟩ := arg_str Tryz.underlying9 (by kernel_rfl) (hval 0 9 v0 rfl rfl) k0
  refine (walk W (gt_of hL hSh) v0 a0 r0 g0).mono fun e W' ⟨he, bel⟩ => ?_
  subst he
  exact ⟨_, rfl, _, _, _, [], _, [], hW', trodAll_mk1 (shut_bool Tryz.underlying4 _), (trodAll_cons_mk (Below.trod laidOut (by kernel_rfl) (of_decide_eq_true (by kernel_rfl)) k0 bel lt0) trodAll_mk0), rfl, bel.frame _, fun h => by cases h⟩

set_option maxRecDepth 100000 in
theorem over : Rows.consoleLinesRow.holds Tryz.pinned (OpenSpec.ofChange Rows.consoleLinesSpec) :=
  OpenClaim.holds_of_cond 3 Tryz.f3 rfl rfl rfl rfl rfl rfl rfl ⟨rfl, rfl, rfl, rfl, rfl⟩ rfl rfl rfl rfl rfl (by kernel_rfl) Tryz.func3 closed
    (of_decide_eq_true (by kernel_rfl)) (by unfold Func.isWrapper; first | (rw [if_pos (by decide +kernel)]; kernel_rfl) | (rw [if_neg (by decide +kernel)]; exact ⟨rfl, rfl⟩))
    (fun os started H enc _ F => by rw [OpenClaim.pre_eq_preRow]; exact lifted os started H enc F)
set_option maxRecDepth 100000 in
theorem proved : Rows.ConsoleLinesCardSaid :=
  Claim7.holds_tied_plain_at .later [] [.data, .data, .data, .data, .pinned] true (true, "c8971ead518be44c10499fc62d681516014870a13f262c1d68723de1b88f6cca") true
    over (fun _ h => by cases h) fWf (fun _ h => by cases h) consoleLines_row_tie rfl ⟨rfl, rfl⟩ fMain rfl
    (fun f fn hf hfn => by
      obtain rfl : f = 3 := Option.some.inj (fNamed.symm.trans hf) |>.symm
      obtain rfl : fn = Tryz.f3 := (Option.some.inj (Tryz.func3.symm.trans hfn)).symm
      exact ⟨fLook, fun j t ht => by
        rw [Tryz.params3] at ht
        have hm : t ∈ [9] := by simpa using Array.mem_of_getElem? ht
        exact (show Tryz.prog.wantsStandIn t = false by simpa using List.all_eq_true.1 fStand t hm)⟩)
    fGoes
#print axioms proved
end Go.Proofs.YtppgkaeodaaidaaGreatDoor.consoleLines
