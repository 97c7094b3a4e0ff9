/-
  Slabs of texts: what is set is got.
-/
import Derived.Test.YteilfbdphlimkaaT03s
namespace Go.Sh
set_option linter.unusedVariables false
set_option linter.unusedSimpArgs false

def txc (l : List ByteArray) (i j : Nat) : slab_Cell_string := if j < i then ⟨1, 0, l.getD j ByteArray.empty⟩ else ⟨0, 0, ByteArray.empty⟩
def txs (k : Nat) (l : List ByteArray) (i : Nat) : slab_Slab_string := ⟨(List.range k).map (txc l i), 2⟩
theorem txs_len (k : Nat) (l : List ByteArray) (i : Nat) : (txs k l i).Cells.length = k := by simp [txs]
theorem txs_at {k : Nat} {l : List ByteArray} {i j : Nat} (h : j < (txs k l i).Cells.length) : (txs k l i).Cells[j] = txc l i j := by simp [txs]
theorem txs_R {k : Nat} (hk : k ≤ 24) (l : List ByteArray) (i : Nat) : SlS (txs k l i) := by
  refine ⟨by rw [txs_len]; exact hk, by simp [txs], by simp [txs], fun j hj => ?_⟩
  rw [txs_at hj]
  unfold txc
  have : (txs k l i).Last = 2 := rfl
  rw [this]
  split <;> simp

theorem txs_step {k : Nat} (hk : k ≤ 24) {l : List ByteArray} {i : Nat} (hi : i < l.length) : slab_Take_string (txs k l (min i k)) l[i] = some (txs k l (min (i + 1) k), if i < k then (1 + i : Int) else 0, if i < k then 0 else 4) := by
  rcases take_cases_s (txs_R hk l (min i k)) l[i] with ⟨j, hj, h0, hmin, ht⟩ | ⟨hno, ht⟩
  · rw [txs_at hj] at h0
    unfold txc at h0
    have hj' : ¬ j < min i k := fun q => by rw [if_pos q] at h0; cases h0
    have hjk : j < k := by rwa [txs_len] at hj
    have hij : j = i := by
      have hik : i ≤ j := by omega
      rcases Nat.lt_or_ge i j with q | q
      · have := hmin i q
        rw [txs_at] at this
        unfold txc at this
        rw [if_neg (by omega)] at this
        exact absurd rfl this
      · omega
    subst hij
    rw [ht, if_pos hjk, if_pos hjk]
    have hg : (txs k l (min j k)).Cells[j].Gen = 0 := by
      rw [txs_at hj]; unfold txc; split <;> rfl
    rw [hg]
    have e : (txs k l (min j k)).Cells.set j ⟨1, 0, l[j]⟩ = (txs k l (min (j + 1) k)).Cells := by
      refine List.ext_getElem (by simp [txs]) fun x h1 h2 => ?_
      simp only [List.getElem_set, txs_at]
      unfold txc
      split
      · rename_i e; subst e; rw [if_pos (by omega)]; simp [hi]
      · by_cases q : x < j
        · rw [if_pos (by omega), if_pos (by omega)]
        · rw [if_neg (by omega), if_neg (by omega)]
    rw [e]
    simp
    rfl
  · have hki : ¬ i < k := fun q => by
      have := hno i (by rw [txs_len]; exact q)
      rw [txs_at] at this
      unfold txc at this
      rw [if_neg (by omega)] at this
      exact absurd rfl this
    rw [ht, if_neg hki, if_neg hki]
    rw [show min i k = min (i + 1) k by omega]

theorem txs_fnd {k : Nat} (hk : k ≤ 24) {l : List ByteArray} {m j : Nat} (hj : j < k) (hm : j < m) : FndS (txs k l m) (1 + j) j := by
  refine ⟨by rw [txs_len]; exact hj, by unfold Hnd; omega, by omega, ?_, ?_⟩
  · rw [txs_at]; unfold txc; rw [if_pos hm]; simp; omega
  · rw [txs_at]; unfold txc; rw [if_pos hm]; simp

theorem slabTexts {n : Int} (l : List ByteArray) (v : ByteArray) (h1 : 0 ≤ n) (h2 : n < 256) : w03_SlabTexts n l v = some true := by
  unfold w03_SlabTexts
  rw [w64_sm (n := n) (by omega) (by omega), rem_pos h1 (by omega), Option.bind_some]
  rw [shown]
  by_cases hlen : (l.length : Int) > 60
  · rw [decide_eq_true hlen]; simp [onlyIf]
  rw [decide_eq_false hlen, show onlyIf (false == false) false (some true) = some true from rfl, Option.bind_some, if_neg (by decide)]
  obtain ⟨k, hk, hk24, hk1⟩ : ∃ k : Nat, w64 (1 + n % 24) = k ∧ k ≤ 24 ∧ 1 ≤ k := ⟨(1 + n % 24).toNat, by rw [w64_sm (by omega) (by omega)]; omega, by omega, by omega⟩
  rw [hk]
  have hnew : slab_New_string k 2 = some (txs k l 0) := by
    unfold slab_New_string
    rw [if_neg (by simp; omega), mk_ok (by omega) (by omega), Option.bind_some]
    congr 2
    refine List.ext_getElem (by simp) fun j h1 h2 => ?_
    simp [txc]
  rw [hnew, Option.bind_some]
  simp only [jn]
  refine lpb_upS l.length (fun i p => p = (txs k l (min i k), (List.range (min i k)).map fun (j : Nat) => (1 + (j : Int)))) (by omega) (by simp) ?_ ?_
  · rintro i _ hi rfl
    left
    simp only [Int.ofNat_lt, hi, decide_true, if_true, ix_at hi, Option.bind_some]
    rw [txs_step hk24 hi, Option.bind_some]
    by_cases q : i < k
    · rw [if_pos q, if_pos q, if_neg (by simp; exact q), if_pos (by simp), w64_nat]
      rw [app_ok (by omega) (by simp; omega), Option.bind_some]
      refine ⟨_, rfl, ?_⟩
      rw [show min i k = i by omega, show min (i + 1) k = i + 1 by omega, List.range_succ]
      simp
    · rw [if_neg q, if_neg q, if_neg (by simp; omega), if_neg (by simp), w64_nat]
      refine ⟨_, rfl, ?_⟩
      rw [show min i k = min (i + 1) k by omega]
  · rintro _ rfl
    refine ⟨_, by simp; rfl, ?_⟩
    simp only
    have hm : min l.length k ≤ l.length := by omega
    have hmk : min l.length k ≤ k := by omega
    generalize hM : min l.length k = m at hm hmk
    have hlenm : ((List.range m).map fun (j : Nat) => (1 + (j : Int))).length = m := by simp
    have hat : ∀ j (h : j < m), ix ((List.range m).map fun (j : Nat) => (1 + (j : Int))) (j : Int) = some (1 + j : Int) := fun j h => by rw [ix_at (by rw [hlenm]; exact h)]; simp
    have hnm : m < 4611686018427387904 := by omega
    refine lpb_up m (fun _ => True) hnm trivial (fun i hi _ => .inl ⟨?_, trivial⟩) (fun _ => ⟨.inr (), by simp, rfl⟩)
    have hil : i < l.length := by omega
    rw [if_pos (by rw [hlenm]; simpa using hi), hat i hi, Option.bind_some]
    have hf := txs_fnd (l := l) hk24 (show i < k by omega) hi
    obtain ⟨hi', hg⟩ := get_of_s hf
    obtain ⟨_, hs⟩ := set_of_s (v := v) (by rw [txs_len]; exact hk24) hf
    have hc : ∀ j (h : j < (txs k l m).Cells.length), j < m → (txs k l m).Cells[j] = ⟨1, 0, l.getD j ByteArray.empty⟩ := fun j h hj => by rw [txs_at h]; unfold txc; rw [if_pos hj]
    have hgi : slab_Get_string (txs k l m) (1 + i) = some (l.getD i ByteArray.empty, 0) := by rw [hg, hc i hi' hi]; rfl
    have hsi : slab_Set_string (txs k l m) (1 + i) v = some (⟨(txs k l m).Cells.set i ⟨1, 0, v⟩, 2⟩, 0) := by rw [hs, hc i hi' hi]; rfl
    rw [hgi, hsi, Option.bind_some, Option.bind_some]
    have hfA : ∀ j, j < m → FndS ⟨(txs k l m).Cells.set i ⟨1, 0, v⟩, 2⟩ (1 + j) j := fun j hj => by
      refine ⟨by rw [List.length_set, txs_len]; omega, by unfold Hnd; omega, by omega, ?_, ?_⟩
      · simp only [List.getElem_set]
        split
        · simp; omega
        · rw [hc j _ hj]; simp; omega
      · simp only [List.getElem_set]
        split
        · simp
        · rw [hc j _ hj]; simp
    have hgA : slab_Get_string ⟨(txs k l m).Cells.set i ⟨1, 0, v⟩, 2⟩ (1 + i) = some (v, 0) := by
      obtain ⟨hx, hg⟩ := get_of_s (hfA i hi)
      rw [hg]; simp
    have hgB : ∀ j, j < i → slab_Get_string ⟨(txs k l m).Cells.set i ⟨1, 0, v⟩, 2⟩ (1 + j) = some (l.getD j ByteArray.empty, 0) := fun j hj => by
      obtain ⟨hx, hg⟩ := get_of_s (hfA j (by omega))
      rw [hg]
      simp only [List.getElem_set_ne (show i ≠ j by omega)]
      rw [hc j _ (by omega)]; rfl
    simp only
    rw [hgA, Option.bind_some]
    rw [show onlyIf (((0 : Int) != 0 || (0 : Int) != 0) == false) (ByteArray.empty : ByteArray) (ix l (i : Int)) = ix l i from rfl, ix_at hil, Option.bind_some]
    have hd : ∀ j (h : j < l.length), l.getD j ByteArray.empty = l[j] := fun j h => by simp [h]
    rw [hd i hil, if_neg (by simp)]
    have hni : i < 4611686018427387904 := by omega
    refine lpb_up i (fun _ => True) hni trivial (fun j hj _ => .inl ⟨?_, trivial⟩) (fun _ => ⟨.inr (), by simp, by simp only; rw [w64_nat]⟩)
    have hjl : j < l.length := by omega
    simp only [Int.ofNat_lt, hj, decide_true, if_true]
    rw [hat j (by omega), Option.bind_some, hgB j hj, Option.bind_some, ix_at hjl, Option.bind_some, hd j hjl, if_neg, w64_nat]
    simp
    omega
end Go.Sh
