/-
  Stores: those that live, in the order of their serials.
-/
import Derived.Test.YtpnajadblhkomaaT06b
namespace Go.Sh
set_option linter.unusedVariables false
set_option linter.unusedSimpArgs false

theorem sortBy_spec {c : Int → Int → Option Int} {xs : List Int} (key : Int → Int) (hc : ∀ x y, ∃ r, c x y = some r ∧ (r < 0 ↔ key x < key y)) (hl : xs.length < 4611686018427387904) :
    ∃ ys, sortBy c xs = some ys ∧ ys.Perm xs ∧ ys.Pairwise (fun a b => key a ≤ key b) := by
  have hlt : ∀ x y, Go.Proofs.ltOf (fun x y => (c x y).getD 0) x y = decide (key x < key y) := fun x y => by
    obtain ⟨r, h1, h2⟩ := hc x y
    show decide ((c x y).getD 0 < 0) = _
    rw [h1, Option.getD_some]
    exact decide_eq_decide.2 h2
  have hO : Go.Sort.SWO (Go.Proofs.ltOf fun x y => (c x y).getD 0) := by
    refine ⟨fun x => ?_, fun x y z => ?_, fun x y z => ?_⟩
    · rw [hlt]; simp
    · rw [hlt, hlt, hlt]; simp; omega
    · rw [hlt, hlt, hlt]; simp; omega
  have hcond : (∀ x y, (c x y).isSome = true) ∧ Go.Sort.SWO (Go.Proofs.ltOf fun x y => (c x y).getD 0) ∧ xs.length < 4611686018427387904 := ⟨fun x y => by
    obtain ⟨r, h1, _⟩ := hc x y
    rw [h1]; rfl, hO, hl⟩
  unfold sortBy
  rw [if_pos hcond]
  refine ⟨_, rfl, ?_⟩
  obtain ⟨⟨p1, p2, p3⟩, p4⟩ := Go.Sort.pdq_sorts (Go.Proofs.ltOf fun x y => (c x y).getD 0) hO xs.toArray 0 xs.length (Go.Lib.bitLen xs.length) true true (Nat.zero_le _) (by simp) (Or.inl rfl)
  generalize Go.Sort.pdq (Go.Proofs.ltOf fun x y => (c x y).getD 0) xs.toArray 0 xs.length (Go.Lib.bitLen xs.length) true true = d at p1 p2 p3 p4 ⊢
  have hs : d.size = xs.length := by simpa using p1
  refine ⟨?_, ?_⟩
  · have e1 : d.extract 0 xs.length = d := by rw [← hs]; exact Array.extract_size
    have e2 : xs.toArray.extract 0 xs.length = xs.toArray := by
      simp
    rw [e1, e2] at p3
    simpa using p3
  · rw [List.pairwise_iff_getElem]
    intro i j hi hj hij
    have hi' : i < d.size := by simpa using hi
    have hj' : j < d.size := by simpa using hj
    have := p4 i j (Nat.zero_le _) hij (by omega)
    rw [hlt, getElem!_pos d j hj', getElem!_pos d i hi'] at this
    have := of_decide_eq_false this
    simp only [Array.getElem_toList]
    omega

/-- The handles of those that live, in the order of their places. -/
def hnds : Nat → List slab_Cell_store_Obj → List Int
  | _, [] => []
  | k, c :: r => (if c.State = 1 then [1 + (k : Int) + 32 * c.Gen] else []) ++ hnds (k + 1) r

theorem hnds_snoc (c : slab_Cell_store_Obj) : ∀ (k : Nat) (xs : List slab_Cell_store_Obj), hnds k (xs ++ [c]) = hnds k xs ++ (if c.State = 1 then [1 + ((k + xs.length : Nat) : Int) + 32 * c.Gen] else [])
  | k, [] => by simp [hnds]
  | k, x :: r => by
    simp only [List.cons_append, hnds, hnds_snoc c (k + 1) r, List.append_assoc, List.length_cons]
    rw [show k + 1 + r.length = k + (r.length + 1) by omega]

theorem hnds_len : ∀ (k : Nat) (xs : List slab_Cell_store_Obj), (hnds k xs).length ≤ xs.length
  | _, [] => by simp [hnds]
  | k, c :: r => by
    have := hnds_len (k + 1) r
    simp only [hnds, List.length_append, List.length_cons]
    split <;> simp <;> omega

theorem hnds_mem {h : Int} : ∀ {k : Nat} {xs : List slab_Cell_store_Obj}, h ∈ hnds k xs ↔ ∃ i, ∃ hi : i < xs.length, xs[i].State = 1 ∧ h = 1 + ((k + i : Nat) : Int) + 32 * xs[i].Gen
  | k, [] => by simp [hnds]
  | k, c :: r => by
    simp only [hnds, List.mem_append, hnds_mem (k := k + 1) (xs := r)]
    constructor
    · rintro (q | ⟨i, hi, q1, q2⟩)
      · by_cases hc : c.State = 1
        · rw [if_pos hc] at q
          exact ⟨0, by simp, by simpa using hc, by simpa using q⟩
        · rw [if_neg hc] at q
          cases q
      · exact ⟨i + 1, by simpa using hi, by simpa using q1, by simp only [List.getElem_cons_succ]; rw [q2, show k + 1 + i = k + (i + 1) by omega]⟩
    · rintro ⟨i, hi, q1, q2⟩
      cases i with
      | zero =>
        left
        simp only [List.getElem_cons_zero] at q1 q2
        rw [if_pos q1]
        simp [q2]
      | succ i =>
        right
        simp only [List.getElem_cons_succ] at q1 q2
        exact ⟨i, by simpa using hi, q1, by rw [q2, show k + 1 + i = k + (i + 1) by omega]⟩

/-- The serial of what a handle's slot holds. -/
def sk (cs : List slab_Cell_store_Obj) (h : Int) : Int := match cs[((h - 1) % 32).toNat]? with
  | some c => c.Val.Serial
  | none => 0

theorem sk_hd {cs : List slab_Cell_store_Obj} {i : Nat} {g : Int} (h : i < cs.length) (h32 : cs.length ≤ 32) : sk cs (1 + (i : Int) + 32 * g) = cs[i].Val.Serial := by
  unfold sk
  have : ((1 + (i : Int) + 32 * g - 1) % 32).toNat = i := by omega
  rw [this, List.getElem?_eq_getElem h]

/-- What is asked of a slab so that all that follows is told of it. -/
structure Slb (cs : List slab_Cell_store_Obj) : Prop where
  len : cs.length ≤ 24
  gen : ∀ i (h : i < cs.length), 0 ≤ cs[i].Gen ∧ cs[i].Gen ≤ 9

theorem live_spec {s : store_Store} (hR : Slb s.S.Cells) : ∃ l, store_Live s = some l ∧ l.Perm (hnds 0 s.S.Cells) ∧ l.Pairwise (fun a b => sk s.S.Cells a ≤ sk s.S.Cells b) := by
  have hlen := hR.len
  unfold store_Live
  simp only [jn]
  have hh := hnds_len 0 s.S.Cells
  -- the loop
  have hloop : ∃ e : List (Int × Int) × List Int, lp (S := Int × (List (Int × Int)) × (List Int)) (E := ((List (Int × Int)) × (List Int))) (fun ((s23, s24, s25) : Int × (List (Int × Int)) × (List Int)) =>
      if (decide (s23 < (s.S.Cells.length : Int))) then
        ((ix s.S.Cells s23).bind fun v35 =>
          if (v35.State == 1) then
            (handle_Pack s23 v35.Gen).bind fun v36 =>
            (app 8 s25 [v36]).bind fun v37 =>
            some (.inl (w64 (s23 + 1), (mput s24 v36 v35.Val.Serial), v37))
          else
          some (.inl (w64 (s23 + 1), s24, s25)))
      else
      some (.inr (s24, s25))) (0, [], []) = some e ∧ e.2 = hnds 0 s.S.Cells ∧ ∀ h ∈ e.2, mget e.1 h = some (sk s.S.Cells h) := by
    refine lp_upS (T := List (Int × Int) × List Int) s.S.Cells.length (fun k e => e.2 = hnds 0 (s.S.Cells.take k) ∧ ∀ h ∈ e.2, mget e.1 h = some (sk s.S.Cells h)) (fun e : List (Int × Int) × List Int => e.2 = hnds 0 s.S.Cells ∧ ∀ h ∈ e.2, mget e.1 h = some (sk s.S.Cells h)) (by omega) ⟨by simp [hnds], by simp⟩ (fun k e hk hP => ?_) (fun e hP => ?_)
    · obtain ⟨h1, h2⟩ := hP
      obtain ⟨m, l⟩ := e
      simp only at h1 h2
      left
      have hc := hR.gen k hk
      have hl : l.length ≤ 24 := by rw [h1]; have := hnds_len 0 (s.S.Cells.take k); simp at this; omega
      have et : s.S.Cells.take (k + 1) = s.S.Cells.take k ++ [s.S.Cells[k]] := by rw [List.take_add_one, List.getElem?_eq_getElem hk]; rfl
      have el : (s.S.Cells.take k).length = k := by simp; omega
      by_cases q : s.S.Cells[k].State = 1
      · refine ⟨(mput m (1 + (k : Int) + 32 * s.S.Cells[k].Gen) s.S.Cells[k].Val.Serial, l ++ [1 + (k : Int) + 32 * s.S.Cells[k].Gen]), ?_, ?_, ?_⟩
        · simp only [Int.ofNat_lt, hk, decide_true, if_true, ix_at hk, Option.bind_some, q, beq_self_eq_true]
          rw [handle_Pack_eq (by omega) (by omega) hc.1 hc.2, Option.bind_some, app_ok (by omega) (by simp; omega), Option.bind_some, w64_nat]
        · simp only
          rw [et, hnds_snoc, if_pos q, el, h1, Nat.zero_add]
        · intro h hh
          simp only [List.mem_append, List.mem_singleton] at hh ⊢
          rw [mget_mput]
          rcases hh with hh | rfl
          · split
            · rename_i e; rw [e, sk_hd hk (by omega)]
            · exact h2 h hh
          · rw [if_pos rfl, sk_hd hk (by omega)]
      · refine ⟨(m, l), ?_, ?_, h2⟩
        · simp only [Int.ofNat_lt, hk, decide_true, if_true, ix_at hk, Option.bind_some]
          rw [if_neg (by simpa using q), w64_nat]
        · simp only
          rw [et, hnds_snoc, if_neg q, h1, List.append_nil]
    · obtain ⟨h1, h2⟩ := hP
      obtain ⟨m, l⟩ := e
      refine ⟨(m, l), by simp only [Int.lt_irrefl, decide_false, Bool.false_eq_true, if_false], ?_, h2⟩
      simpa using h1
  obtain ⟨⟨m, l⟩, e1, e2, e3⟩ := hloop
  rw [show lp _ _ = _ from e1, Option.bind_some]
  simp only at e2 e3 ⊢
  subst e2
  obtain ⟨ys, q1, q2, q3⟩ := sortBy_spec (c := fun p q => store_Live_1 p q m) (xs := hnds 0 s.S.Cells) (fun h => (mget m h).getD 0) (fun x y => by
    unfold store_Live_1 cmp_Compare_int cmp_isNaN_int
    simp only [Option.bind_some, bne_self_eq_false, Bool.false_eq_true, if_false]
    generalize (mget m x).getD 0 = a
    generalize (mget m y).getD 0 = b
    by_cases h1 : a < b
    · rw [decide_eq_true h1]; exact ⟨-1, rfl, by simp [h1]⟩
    · rw [decide_eq_false h1]
      by_cases h2 : a > b
      · rw [decide_eq_true h2]; exact ⟨1, rfl, by simp [h1]⟩
      · rw [decide_eq_false h2]; exact ⟨0, rfl, by simp [h1]⟩) (by omega)
  refine ⟨ys, by rw [q1]; rfl, q2, q3.imp_of_mem fun {a b} ha hb hab => ?_⟩
  rw [e3 a (q2.mem_iff.1 ha), e3 b (q2.mem_iff.1 hb)] at hab
  simpa using hab

end Go.Sh
