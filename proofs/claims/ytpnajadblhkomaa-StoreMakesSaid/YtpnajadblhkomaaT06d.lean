/-
  Stores: two objects; which stores are right.
-/
import Derived.Test.YtpnajadblhkomaaT06c
namespace Go.Sh
set_option linter.unusedVariables false
set_option linter.unusedSimpArgs false

theorem shown06 : w06_shown = some true := by
  have a1 : store_New 2 3 = some ⟨⟨[⟨0, 0, z0⟩, ⟨0, 0, z0⟩], 3⟩, 0⟩ := by kernel_rfl
  have a2 : store_Make ⟨⟨[⟨0, 0, z0⟩, ⟨0, 0, z0⟩], 3⟩, 0⟩ 2 (-1) = some (⟨⟨[⟨1, 0, ⟨1, 0, 0, -1, false, [0, 0]⟩⟩, ⟨0, 0, z0⟩], 3⟩, 1⟩, 1, 0) := by kernel_rfl
  have a3 : store_Make ⟨⟨[⟨1, 0, ⟨1, 0, 0, -1, false, [0, 0]⟩⟩, ⟨0, 0, z0⟩], 3⟩, 1⟩ 0 5 = some (⟨⟨[⟨1, 0, ⟨1, 0, 0, -1, false, [0, 0]⟩⟩, ⟨1, 0, ⟨2, 0, 0, 5, false, []⟩⟩], 3⟩, 2⟩, 2, 0) := by kernel_rfl
  have a4 : store_Make ⟨⟨[⟨1, 0, ⟨1, 0, 0, -1, false, [0, 0]⟩⟩, ⟨1, 0, ⟨2, 0, 0, 5, false, []⟩⟩], 3⟩, 2⟩ 0 0 = some (⟨⟨[⟨1, 0, ⟨1, 0, 0, -1, false, [0, 0]⟩⟩, ⟨1, 0, ⟨2, 0, 0, 5, false, []⟩⟩], 3⟩, 2⟩, 0, 4) := by kernel_rfl
  have a5 : store_Put ⟨⟨[⟨1, 0, ⟨1, 0, 0, -1, false, [0, 0]⟩⟩, ⟨1, 0, ⟨2, 0, 0, 5, false, []⟩⟩], 3⟩, 2⟩ 1 1 2 = some (⟨⟨[⟨1, 0, ⟨1, 0, 0, -1, false, [0, 2]⟩⟩, ⟨1, 0, ⟨2, 0, 0, 5, false, []⟩⟩], 3⟩, 2⟩, 0) := by kernel_rfl
  have a6 : store_Field ⟨⟨[⟨1, 0, ⟨1, 0, 0, -1, false, [0, 2]⟩⟩, ⟨1, 0, ⟨2, 0, 0, 5, false, []⟩⟩], 3⟩, 2⟩ 1 1 = some (2, 0) := by kernel_rfl
  have a7 : store_Get ⟨⟨[⟨1, 0, ⟨1, 0, 0, -1, false, [0, 2]⟩⟩, ⟨1, 0, ⟨2, 0, 0, 5, false, []⟩⟩], 3⟩, 2⟩ 2 = some (⟨2, 0, 0, 5, false, []⟩, 0) := by kernel_rfl
  have a8 : store_Right ⟨⟨[⟨1, 0, ⟨1, 0, 0, -1, false, [0, 2]⟩⟩, ⟨1, 0, ⟨2, 0, 0, 5, false, []⟩⟩], 3⟩, 2⟩ = some true := by kernel_rfl
  obtain ⟨l, l1, l2, _⟩ := live_spec (s := ⟨⟨[⟨1, 0, ⟨1, 0, 0, -1, false, [0, 2]⟩⟩, ⟨1, 0, ⟨2, 0, 0, 5, false, []⟩⟩], 3⟩, 2⟩) ⟨by simp, fun i h => by
    match i with
    | 0 => simp
    | 1 => simp
    | _ + 2 => simp at h; omega⟩
  have l3 : l.length = 2 := by rw [l2.length_eq]; rfl
  unfold w06_shown
  rw [a1, Option.bind_some, a2, Option.bind_some]
  dsimp only
  rw [a3, Option.bind_some]
  dsimp only
  rw [a4, Option.bind_some, a5, Option.bind_some]
  dsimp only
  rw [a6, Option.bind_some, a7, Option.bind_some]
  dsimp only
  rw [show store_Live _ = _ from l1, a8]
  simp only [beq_self_eq_true, Bool.and_self, Bool.and_true, Bool.true_and, onlyT, Option.bind_some, l3]
  rfl

/-- Two lists of the same things, in order by keys that are all different, are one. -/
theorem sorted_one {key : Int → Int} : ∀ {l m : List Int}, l.Perm m → l.Pairwise (fun a b => key a ≤ key b) → m.Pairwise (fun a b => key a ≤ key b) → (∀ a ∈ l, ∀ b ∈ l, key a = key b → a = b) → l = m
  | [], m, hp, _, _, _ => (List.nil_perm.1 hp).symm
  | a :: l, [], hp, _, _, _ => by simp at hp
  | a :: l, b :: m, hp, h1, h2, hk => by
    have ha := List.pairwise_cons.1 h1
    have hb := List.pairwise_cons.1 h2
    have e : a = b := by
      have m1 : b ∈ a :: l := hp.mem_iff.2 (List.mem_cons_self ..)
      have m2 : a ∈ b :: m := hp.mem_iff.1 (List.mem_cons_self ..)
      rcases List.mem_cons.1 m1 with q | q
      · exact q.symm
      · rcases List.mem_cons.1 m2 with q' | q'
        · exact q'
        · exact hk a (List.mem_cons_self ..) b m1 (Int.le_antisymm (ha.1 b q) (hb.1 a q'))
    subst e
    rw [sorted_one (List.perm_cons a |>.1 hp) ha.2 hb.2 fun x hx y hy => hk x (List.mem_cons_of_mem _ hx) y (List.mem_cons_of_mem _ hy)]

end Go.Sh
