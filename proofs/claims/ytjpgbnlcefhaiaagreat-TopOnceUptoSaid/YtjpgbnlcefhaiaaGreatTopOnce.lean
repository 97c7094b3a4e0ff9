/-
  An object whose program names it lives on, and its program is run no second time.
  Conditions: the arguments are values of their Go types, of bulk at most 1048576 (the statement that is narrowed).
-/
import Derived.Test.YtjpgbnlcefhaiaaGreatRows
import Derived.OpenShut
import Derived.JoinedCond
import Derived.Lib.Hide
import Derived.WalkKit
import Derived.ProofKit
import Derived.ShutString
import Derived.ChangeOld
import Derived.Below
import Derived.Test.YtjpgbnlcefhaiaaGreatW24oOk2
import Derived.Test.YtjpgbnlcefhaiaaGreatW24oRd
import Derived.Test.YtjpgbnlcefhaiaaGreatW24oT3
namespace Go.Proofs.YtjpgbnlcefhaiaaGreat.topOnce
open Go Go.Pw Go.Sh Go.Proofs Go.Proofs.YtjpgbnlcefhaiaaGreat Go.ChangeShapes Go.WideShapes Go.ChangeAt Go.RowKit
set_option linter.unusedVariables false
theorem own : ownKnob Tryz.prog.godebug = none := by kernel_rfl
theorem laidOut : laidOutB Tryz.prog = true := by kernel_rfl
theorem rd_len {w : World} {α : Type} {E : α → PV} {a : List α} {A n c} (h : Rd0 w (all w) (.slice A n c) (.lst false (List.map E a))) : n = a.length := by
  cases h
  simp
theorem bulk_one {H : Type} (d : DataW H) : 1 ≤ Rows.uptoBulk d := by
  unfold Rows.uptoBulk
  split <;> omega
theorem bulk_all {H : Type} : ∀ l : List (DataW H), l.length ≤ Rows.uptoBulkAll l
  | [] => by simp
  | d :: l => by
    have h1 := bulk_one d
    have h2 := bulk_all l
    unfold Rows.uptoBulkAll
    rw [List.length_cons]
    omega
theorem bulk_len {P : Program} {H : Type} {enc : TypeId × Value → H} {w : World} {t e : TypeId} {A n c} {d : DataW H} {ps : List MemPlace} (ht : P.underlying t = some (.slice e)) (hd : DataW.Trod enc P w 0 (fun _ => true) true t (.slice A n c) d ps) : n ≤ Rows.uptoBulk d := by
  obtain ⟨m, hm⟩ := hd
  rw [show (Value.slice A n c).cells.toList = [.slice A n c] from rfl] at hm
  cases m with
  | zero => cases hm
  | succ m =>
    unfold DataW.trod at hm
    rw [ht] at hm
    cases A with
    | none =>
      dsimp only at hm
      split at hm <;> first | omega | (simp_all; done) | skip
      all_goals (simp_all; try omega)
    | some A =>
      dsimp only at hm
      split at hm
      · obtain ⟨els, h1, h2⟩ := Option.bind_eq_some_iff.1 hm
        obtain ⟨rest, _, h3⟩ := Option.map_eq_some_iff.1 h2
        have hl : els.length = n := by
          have := mapM_some_length h1
          rw [List.length_range] at this
          exact this
        have hd : d = .slice (els.map (·.1)) (rest.map (·.1)) := (congrArg Prod.fst h3).symm
        have := bulk_all (els.map (·.1))
        rw [List.length_map] at this
        subst hd
        unfold Rows.uptoBulk
        omega
      · cases hm
theorem walk (w : World) (v0 : Value) (a0 : Int) (r0 : Rd0 w (all w) v0 (.int .u8 a0)) (g0 : (fun (n : Int) => (Lit.int .u8 n).wf = true) a0) (v1 : Value) (a1 : List c5) (r1 : Rd0 w (all w) v1 (.lst false (List.map c5.Pv a1))) (g1 : (fun (l : List c5) => l.length ≤ maxLen ∧ ∀ a ∈ l, (fun (a : c5) => ((fun (n : Int) => (Lit.int .i64 n).wf = true) a.Kind) ∧ (((fun (n : Int) => (Lit.int .i64 n).wf = true) a.A) ∧ (((fun (n : Int) => (Lit.int .i64 n).wf = true) a.B) ∧ (((fun (n : Int) => (Lit.int .i64 n).wf = true) a.C) ∧ (True))))) a) a1) (hL : a1.length ≤ 1048576) :
    Calls Tryz.prog 6 #[v0, v1] w fun e w' => e = .returned (.bool true) ∧ Below w.heap.size w w' :=
  c8D (Ok.wt_TopOnce_ok.2 _ (topOnce (d2x g0).1 (by have := (d2x g0).2; omega) hL)) (rdL_of (vs := [v0, v1]) ⟨r0, r1, trivial⟩)

set_option maxRecDepth 100000 in
theorem lifted (os : Os) (started : os.Started) (H : Type) (enc : TypeId × Value → H) (F : Stop.Interp) :
    ReturnsInHanded {} Tryz.checked os 6 .any ((Rows.OpenSpec.upto Rows.topOnceSpec).pre6 enc Tryz.prog Tryz.f6 Rows.topOnceUptoRow.domain false) (((Rows.OpenSpec.upto Rows.topOnceSpec).at F).post enc Tryz.prog Tryz.f6 false true false false) := by
  refine returnsInHanded_of_cond (C := Tryz.checked) (s := (Rows.OpenSpec.upto Rows.topOnceSpec)) (k := Rows.uptoSmall) rfl own started (by kernel_rfl) Tryz.func6
    (OpenSpec.witness (enc := enc) (C := Tryz.checked) (s := (Rows.OpenSpec.upto Rows.topOnceSpec)) (k := Rows.uptoSmall) rfl false ⟨#[], #[.int .u8 0, .slice none 0 0], []⟩ 12 (by kernel_rfl) (by kernel_rfl) (by kernel_rfl) (x := ([.lit (.int .u8 0), .nil], [], [])) (by kernel_rfl) (by kernel_rfl) (by kernel_rfl)) ?_
  intro W base args ds gs before hval0 hW hcnd hkk _
  have hval : ∀ (j : Nat) t v, Tryz.f6.params[j]? = some t → args[j]? = some v → Value.okWide Tryz.prog W .any base t v := hval0
  have hW' := hW
  obtain ⟨p, q, hA0, hV, rfl, hfz, hnd⟩ := hW
  have hA : DataW.TrodAll enc Tryz.prog W 0 (fun _ => true) true Tryz.f6.params.toList args.toList ds p := hA0
  rw [Tryz.params6] at hA hval
  obtain ⟨v0, vs0, d0, ds0, p0, q0, hargs, rfl, rfl, k0, r0⟩ := trodAll_cons hA
  obtain ⟨v1, vs1, d1, ds1, p1, q1, rfl, rfl, rfl, k1, r1⟩ := trodAll_cons r0
  obtain ⟨rfl, rfl, rfl⟩ := trodAll_nil r1
  obtain rfl : args = #[v0, v1] := by cases args; simp_all
  obtain ⟨rfl, rfl⟩ := trodVars_none hV
  have lt0 : ∀ x ∈ p0, x.block < W.heap.size := by obtain ⟨m, hm⟩ := k0; exact DataW.trod_lt m _ _ _ hm
  have lt1 : ∀ x ∈ p1, x.block < W.heap.size := by obtain ⟨m, hm⟩ := k1; exact DataW.trod_lt m _ _ _ hm
  clear hA0 hval0 r0 r1
  obtain ⟨a0, r0, g0⟩ := d1A Tryz.underlying5 (by kernel_rfl) (hval 0 5 v0 rfl rfl) k0
  obtain ⟨a1, r1, g1⟩ := d0q Rd.rd63 Tryz.underlying63 (hval 1 63 v1 rfl rfl) k1
  have hL : a1.length ≤ 1048576 := by
    obtain ⟨A, m, c, e⟩ := okWide_slice Tryz.underlying63 (hval 1 63 v1 rfl rfl)
    subst e
    have h1 := rd_len r1
    have h2 := bulk_len Tryz.underlying63 k1
    have h3 : Rows.uptoBulkAll ([d0, d1] ++ []) ≤ 1048576 := of_decide_eq_true hkk
    simp only [List.append_nil, Rows.uptoBulkAll] at h3
    omega
  refine (walk W v0 a0 r0 g0 v1 a1 r1 g1 hL).mono fun e W' ⟨he, bel⟩ => ?_
  subst he
  exact ⟨_, rfl, _, _, _, [], _, [], hW', trodAll_mk1 (shut_bool Tryz.underlying4 _), (trodAll_cons_mk (Below.trod laidOut (by kernel_rfl) (of_decide_eq_true (by kernel_rfl)) k0 bel lt0) (trodAll_cons_mk (Below.trod laidOut (by kernel_rfl) (of_decide_eq_true (by kernel_rfl)) k1 bel lt1) trodAll_mk0)), rfl, bel.frame _, fun h => by cases h⟩

theorem enters : Tryz.prog.mayEnter = true := by kernel_rfl
theorem lifts : (Rows.topOnceUptoRow.lifted == Tryz.prog.liftsFinal) = true := by kernel_rfl
theorem makes : (Tryz.prog.make == some Rows.topOnceUptoRow.make) = true := by kernel_rfl
theorem place : (Rows.topOnceUptoRow.inPlace == Tryz.prog.inPlace 6) = true := by kernel_rfl
theorem unfol : (Rows.topOnceUptoRow.unfollowed == Tryz.prog.unfollowed 6) = true := by kernel_rfl
theorem recur : (Rows.topOnceUptoRow.recurses == Tryz.prog.recurses 6) = true := by kernel_rfl
theorem names : (Rows.topOnceUptoRow.named == Tryz.prog.varsNamed 6) = true := by kernel_rfl
theorem rowed : mapsRowed Tryz.prog = true := by kernel_rfl
theorem stops : (Tryz.prog.stops == []) = true := by kernel_rfl
theorem knobs : (Tryz.prog.stopKnobs == []) = true := by kernel_rfl
theorem closed : joinedFacts Tryz.prog 6 Tryz.f6 (Rows.OpenSpec.upto Rows.topOnceSpec).bare Rows.topOnceUptoRow = true := by
  unfold joinedFacts
  rw [laidOut, enters, lifts, makes, place, unfol, recur, names, rowed, stops, knobs]
  kernel_rfl
theorem over : Rows.topOnceUptoRow.holds Tryz.pinned (Rows.OpenSpec.upto Rows.topOnceSpec) :=
  OpenClaim.holds_of_cond 6 Tryz.f6 rfl rfl rfl rfl rfl rfl rfl ⟨rfl, rfl, rfl, rfl, rfl⟩ rfl rfl rfl rfl rfl (by kernel_rfl) Tryz.func6 closed
    (of_decide_eq_true (by kernel_rfl)) (by unfold Func.isWrapper; first | (rw [if_pos (by decide +kernel)]; kernel_rfl) | (rw [if_neg (by decide +kernel)]; exact ⟨rfl, rfl⟩))
    (fun os started H enc _ F => lifted os started H enc F)

theorem proved : Rows.TopOnceUptoSaid := over
#print axioms proved
end Go.Proofs.YtjpgbnlcefhaiaaGreat.topOnce
