/-
 Several texts of one kind, one behind the other.
-/
import Derived.Test.YtaodpepkobplkaaC17Sh
import Derived.Test.YtaodpepkobplkaaC17Sh1
import Derived.Test.YtaodpepkobplkaaC17Sh
namespace Go.Sh
set_option linter.unusedVariables false
set_option linter.unusedSimpArgs false
theorem Ints_eq (a b : List Int) (ha : a.length < 4611686018427387904) : r02_Ints a b = some (decide (a = b)) := by
 unfold r02_Ints
 by_cases hl : a.length = b.length
 ·rw [if_neg (by simp [hl])]
  simp only [jn]
  refine lpb_up a.length (fun k => ∀ j (h1 : j < a.length) (h2 : j < b.length), j < k → a[j] = b[j]) ha (fun _ _ _ h => by omega) (fun k hk hP => ?_) (fun hP => ?_)
  ·have hk2 : k < b.length := by omega
   simp only [Int.ofNat_lt, hk, decide_true, if_true, ix_at hk, ix_at hk2, Option.bind_some]
   by_cases e : a[k] = b[k]
   ·refine .inl ⟨?_, fun j h1 h2 hj => ?_⟩
    ·rw [if_neg (by simpa using e), w64_nat]
    ·rcases Nat.lt_or_ge j k with q | q
     ·exact hP j h1 h2 q
     ·have : j = k := by omega
      subst this; exact e
   ·refine .inr ⟨.inl false, by rw [if_pos (by simpa using e)], ?_⟩
    simp only
    rw [decide_eq_false (fun q => e (by subst q; rfl))]
  ·refine ⟨.inr (), by simp, ?_⟩
   simp only
   rw [decide_eq_true (List.ext_getElem hl fun i h1 h2 => hP i h1 h2 h1)]
 ·rw [if_pos (by rw [bne_iff_ne]; omega)]
  rw [decide_eq_false (fun q => hl (by rw [q]))]
end Go.Sh
set_option linter.unusedSectionVars false
namespace Go.Sh
set_option linter.unusedVariables false
set_option linter.unusedSimpArgs false
def in17 (n l m e : Int) : Int := if n < l ∨ n > m then e else 0
def fst17 (a b c : Int) : Int := if a ≠ 0 then a else if b ≠ 0 then b else c
def chk17 (k a b c : Int) : Int :=
 if k = 1 then fst17 (in17 a 0 5 6) (in17 b 0 4 1) (in17 c (-1) 5 13)
 else if k = 2 ∨ k = 9 ∨ k = 10 then fst17 (in17 a 0 5 6) (in17 b 0 5 6) 0
 else if k = 3 then in17 a 0 5 6
 else if k = 4 then fst17 (in17 a 0 5 6) (in17 b 0 5 6) (in17 c 0 3 5)
 else if k = 5 then fst17 (in17 a 0 5 6) (in17 b 0 3 5) (in17 c (-1) 5 6)
 else if k = 6 then fst17 (in17 a 0 5 7) (in17 b (-1) 5 6) (in17 c (-1) 5 13)
 else if k = 7 then fst17 (in17 a 0 5 6) (in17 b 0 5 7) 0
 else if k = 8 then fst17 (in17 a 0 5 6) (in17 b (-1) 5 6) 0
 else if k = 11 then 0
 else if k = 12 then in17 a 0 200 12
 else 14
def ra17 : code_demand := ⟨some 27, 0, 5, 6⟩
def rb17 : code_demand := ⟨some 28, 0, 5, 6⟩
def nb17 : code_demand := ⟨some 28, -1, 5, 6⟩
def pc17 : code_demand := ⟨some 30, -1, 5, 13⟩
def dml17 : List (Int × List code_demand) := [(1, [ra17, ⟨some 28, 0, 4, 1⟩, pc17]), (2, [ra17, rb17]), (3, [ra17]), (4, [ra17, rb17, ⟨some 30, 0, 3, 5⟩]),
 (5, [ra17, ⟨some 28, 0, 3, 5⟩, ⟨some 30, -1, 5, 6⟩]), (6, [⟨some 27, 0, 5, 7⟩, nb17, pc17]), (7, [ra17, ⟨some 28, 0, 5, 7⟩]), (8, [ra17, nb17]), (9, [ra17, rb17]), (10, [ra17, rb17]), (11, []), (12, [⟨some 27, 0, 200, 12⟩])]
theorem demands_eq : code_demands = some dml17 := by kernel_rfl
def prt17 (o : code_Op) (d : code_demand) : Int := if d.part = some 27 then o.A else if d.part = some 28 then o.B else o.C
def bad17 (o : code_Op) (d : code_demand) : Bool := decide (prt17 o d < d.least) || decide (prt17 o d > d.most)
def fse17 (o : code_Op) : List code_demand → Int ⊕ Unit
 | [] => .inr ()
 | d :: ds => if bad17 o d then .inl d.e else fse17 o ds
theorem fse_cons (o : code_Op) (d : code_demand) (ds : List code_demand) : fse17 o (d :: ds) = if bad17 o d then .inl d.e else fse17 o ds := rfl
def Prt17 (d : code_demand) : Prop := d.part = some 27 ∨ d.part = some 28 ∨ d.part = some 30
theorem prt_eq (o : code_Op) {d : code_demand} (h : Prt17 d) : fvcall0 d.part o = some (prt17 o d) := by
 unfold prt17
 rcases h with h | h | h
 ·rw [h]; rfl
 ·rw [h]; rfl
 ·rw [h]; rfl
theorem loop17 (o : code_Op) (ds : List code_demand) (hl : ds.length ≤ 10) (hp : ∀ d ∈ ds, Prt17 d) : lp (S := Int) (E := Int ⊕ Unit) (fun (s11 : Int) =>
   if (decide (s11 < (ds.length : Int))) then
    (ix ds s11).bind fun v13 =>
    (fvcall0 v13.part o).bind fun v14 =>
    if ((decide (v14 < v13.least)) || (decide (v14 > v13.most))) then
     some (.inr (.inl v13.e))
    else
    some (.inl (w64 (s11 + 1)))
   else
   some (.inr (.inr ()))) 0 = some (fse17 o ds) := by
 refine some_of (lp_up ds.length (fun k => fse17 o ds = fse17 o (ds.drop k)) (fun e => e = fse17 o ds) (by omega) rfl (fun k hk hP => ?_) (fun hP => ?_))
 ·rw [if_pos (by simpa using hk), ix_at hk, Option.bind_some, prt_eq o (hp _ (List.getElem_mem hk)), Option.bind_some]
  rw [List.drop_eq_getElem_cons hk, fse_cons] at hP
  by_cases c : bad17 o ds[k] = true
  ·rw [if_pos (show ((decide (prt17 o ds[k] < ds[k].least)) || (decide (prt17 o ds[k] > ds[k].most))) = true from c)]
   rw [if_pos c] at hP
   exact .inr ⟨_, rfl, hP.symm⟩
  ·rw [if_neg (show ¬ ((decide (prt17 o ds[k] < ds[k].least)) || (decide (prt17 o ds[k] > ds[k].most))) = true from c), w64_nat]
   rw [if_neg c] at hP
   exact .inl ⟨rfl, hP⟩
 ·rw [List.drop_length] at hP
  exact ⟨_, if_neg (by simp), hP.symm⟩
theorem dml_prt : ∀ p ∈ dml17, p.2.length ≤ 10 ∧ ∀ d ∈ p.2, Prt17 d := by
 have : dml17.all (fun p => decide (p.2.length ≤ 10) && p.2.all fun d => (d.part == some 27) || (d.part == some 28) || (d.part == some 30)) = true := by kernel_rfl
 intro p hp
 have := List.all_eq_true.1 this p hp
 rw [Bool.and_eq_true, decide_eq_true_iff, List.all_eq_true] at this
 refine ⟨this.1, fun d hd => ?_⟩
 have := this.2 d hd
 simp only [Bool.or_eq_true, beq_iff_eq] at this
 unfold Prt17
 rcases this with (h | h) | h
 ·exact .inl h
 ·exact .inr (.inl h)
 ·exact .inr (.inr h)
theorem mget_in {m : List (Int × List code_demand)} {k : Int} {v : List code_demand} (h : mget m k = some v) : (k, v) ∈ m := by
 induction m with
 | nil => cases h
 | cons p m ih =>
  unfold mget at h
  split at h
  ·rename_i c
   have : k = p.1 := by simpa using c
   cases h
   subst this
   exact List.mem_cons_self ..
  ·exact List.mem_cons_of_mem _ (ih h)
def val17 (o : code_Op) (ds : List code_demand) : Int := match fse17 o ds with
 | .inl e => e
 | .inr _ => 0
theorem val_nil (o : code_Op) : val17 o [] = 0 := rfl
theorem val_cons (o : code_Op) (d : code_demand) (ds : List code_demand) : val17 o (d :: ds) = if bad17 o d then d.e else val17 o ds := by
 unfold val17
 rw [fse_cons]
 cases bad17 o d <;> rfl
theorem in_bad (o : code_Op) (d : code_demand) : in17 (prt17 o d) d.least d.most d.e = if bad17 o d then d.e else 0 := by
 unfold in17 bad17
 by_cases h : prt17 o d < d.least ∨ prt17 o d > d.most
 ·rw [if_pos h, if_pos (by simpa using h)]
 ·rw [if_neg h, if_neg (by simpa using h)]
theorem val1 (o : code_Op) (d : code_demand) : val17 o [d] = in17 (prt17 o d) d.least d.most d.e := by rw [val_cons, val_nil, in_bad]
theorem val2 (o : code_Op) (d e : code_demand) (h1 : d.e ≠ 0) : val17 o [d, e] = fst17 (in17 (prt17 o d) d.least d.most d.e) (in17 (prt17 o e) e.least e.most e.e) 0 := by
 rw [val_cons, val1, in_bad o d]
 unfold fst17
 cases bad17 o d
 ·simp only [Bool.false_eq_true, if_false, ne_eq, not_true_eq_false]
  split
  ·rfl
  ·rename_i h; simpa using h
 ·simp [h1]
theorem val3 (o : code_Op) (d e f : code_demand) (h1 : d.e ≠ 0) (h2 : e.e ≠ 0) : val17 o [d, e, f] = fst17 (in17 (prt17 o d) d.least d.most d.e) (in17 (prt17 o e) e.least e.most e.e) (in17 (prt17 o f) f.least f.most f.e) := by
 rw [val_cons, val_cons, val1, in_bad o d, in_bad o e]
 unfold fst17
 cases bad17 o d <;> cases bad17 o e <;> simp [h1, h2]
theorem kinds_eq (o : code_Op) : (match mget dml17 o.Kind with
  | none => 14
  | some ds => val17 o ds) = chk17 o.Kind o.A o.B o.C := by
 obtain ⟨k, a, b, c⟩ := o
 dsimp only
 by_cases h : 1 ≤ k ∧ k ≤ 12
 ·have : k = 1 ∨ k = 2 ∨ k = 3 ∨ k = 4 ∨ k = 5 ∨ k = 6 ∨ k = 7 ∨ k = 8 ∨ k = 9 ∨ k = 10 ∨ k = 11 ∨ k = 12 := by omega
  rcases this with rfl | rfl | rfl | rfl | rfl | rfl | rfl | rfl | rfl | rfl | rfl | rfl
  ·exact val3 _ _ _ _ (by decide) (by decide)
  ·exact val2 _ _ _ (by decide)
  ·exact val1 _ _
  ·exact val3 _ _ _ _ (by decide) (by decide)
  ·exact val3 _ _ _ _ (by decide) (by decide)
  ·exact val3 _ _ _ _ (by decide) (by decide)
  ·exact val2 _ _ _ (by decide)
  ·exact val2 _ _ _ (by decide)
  ·exact val2 _ _ _ (by decide)
  ·exact val2 _ _ _ (by decide)
  ·rfl
  ·exact val1 _ _
 ·have e : mget dml17 k = none := by
   cases hm : mget dml17 k with
   | none => rfl
   | some v =>
    have := mget_in hm
    simp only [dml17, List.mem_cons, Prod.mk.injEq, List.not_mem_nil, or_false] at this
    omega
  rw [e]
  unfold chk17
  repeat rw [if_neg (by omega)]
theorem check_eq (o : code_Op) : code_Check o = some (chk17 o.Kind o.A o.B o.C) := by
 rw [← kinds_eq]
 unfold code_Check
 rw [demands_eq, Option.bind_some]
 cases h : mget dml17 o.Kind with
 | none => rfl
 | some ds =>
  obtain ⟨h1, h2⟩ := dml_prt _ (mget_in h)
  rw [if_neg (by simp)]
  simp only [jn, Option.getD_some]
  rw [loop17 o ds h1 h2, Option.bind_some]
  unfold val17
  cases fse17 o ds <;> rfl
theorem in17_eq (n l m e : Int) : r17_in n l m e = some (in17 n l m e) := by
 unfold r17_in in17
 by_cases h : n < l ∨ n > m
 ·rw [if_pos h, if_pos (by simpa using h)]
 ·rw [if_neg h, if_neg (by simpa using h)]
theorem fst17_eq (a b c : Int) : r17_first a b c = some (fst17 a b c) := by
 unfold r17_first fst17
 by_cases h : a = 0
 ·by_cases g : b = 0
  ·rw [if_neg (by simpa using h), if_neg (by simpa using g), if_neg (by simpa using h), if_neg (by simpa using g)]
  ·rw [if_neg (by simpa using h), if_pos (by simpa using g), if_neg (by simpa using h), if_pos (by simpa using g)]
 ·rw [if_pos (by simpa using h), if_pos (by simpa using h)]
theorem check17 (o : r17_Op) : r17_Check o = some (chk17 o.Kind o.A o.B o.C) := by
 unfold r17_Check chk17
 simp only [in17_eq, fst17_eq, Option.bind_some, jn]
 by_cases h : 1 ≤ o.Kind ∧ o.Kind ≤ 12
 ·have : o.Kind = 1 ∨ o.Kind = 2 ∨ o.Kind = 3 ∨ o.Kind = 4 ∨ o.Kind = 5 ∨ o.Kind = 6 ∨ o.Kind = 7 ∨ o.Kind = 8 ∨ o.Kind = 9 ∨ o.Kind = 10 ∨ o.Kind = 11 ∨ o.Kind = 12 := by omega
  rcases this with h | h | h | h | h | h | h | h | h | h | h | h <;> rw [h] <;> rfl
 ·have n : ∀ j : Int, 1 ≤ j → j ≤ 12 → (o.Kind == j) = false := fun j h1 h2 => by
   rw [beq_eq_false_iff_ne]; omega
  simp only [n 1 (by omega) (by omega), n 2 (by omega) (by omega), n 3 (by omega) (by omega), n 4 (by omega) (by omega), n 5 (by omega) (by omega), n 6 (by omega) (by omega), n 7 (by omega) (by omega), n 8 (by omega) (by omega), n 9 (by omega) (by omega), n 10 (by omega) (by omega), n 11 (by omega) (by omega), n 12 (by omega) (by omega), Bool.false_eq_true, if_false]
  repeat rw [if_neg (by omega)]
end Go.Sh
set_option linter.unusedSectionVars false
namespace Go.Sh
set_option linter.unusedVariables false
set_option linter.unusedSimpArgs false
theorem shown17 : w17_shown = some true := by kernel_rfl
def r17O (o : code_Op) : r17_Op := ⟨o.Kind, o.A, o.B, o.C⟩
abbrev ck17 (o : code_Op) : Int := chk17 o.Kind o.A o.B o.C
theorem decode4 (k a b c : Int) : code_Decode [k, a, b, c] = some (if chk17 k a b c ≠ 0 then (⟨0, 0, 0, 0⟩, chk17 k a b c) else (⟨k, a, b, c⟩, 0)) := by
 unfold code_Decode
 rw [if_neg (by simp)]
 show (code_Check ⟨k, a, b, c⟩).bind _ = _
 rw [check_eq, Option.bind_some]
 by_cases h : chk17 k a b c = 0
 ·rw [if_neg (by simpa using h), if_neg (by simpa using h)]
 ·rw [if_pos (by simpa using h), if_pos h]
theorem decode4' (k a b c : Int) : r17_Decode [k, a, b, c] = some (if chk17 k a b c ≠ 0 then (⟨0, 0, 0, 0⟩, chk17 k a b c) else (⟨k, a, b, c⟩, 0)) := by
 unfold r17_Decode
 rw [if_neg (by simp)]
 show (r17_Check ⟨k, a, b, c⟩).bind _ = _
 rw [check17, Option.bind_some]
 by_cases h : chk17 k a b c = 0
 ·rw [if_neg (by simpa using h), if_neg (by simpa using h)]
 ·rw [if_pos (by simpa using h), if_pos h]
theorem four (l : List Int) : (∃ k a b c, l = [k, a, b, c]) ∨ l.length ≠ 4 := by
 match l with
 | [] => exact .inr (by simp)
 | [_] => exact .inr (by simp)
 | [_, _] => exact .inr (by simp)
 | [_, _, _] => exact .inr (by simp)
 | [k, a, b, c] => exact .inl ⟨k, a, b, c, rfl⟩
 | _ :: _ :: _ :: _ :: _ :: l => exact .inr (by simp)
theorem decodeN {l : List Int} (h : l.length ≠ 4) : code_Decode l = some (⟨0, 0, 0, 0⟩, 14) ∧ r17_Decode l = some (⟨0, 0, 0, 0⟩, 14) := by
 unfold code_Decode r17_Decode
 have : (((l.length : Int) != 4)) = true := by simp; omega
 rw [if_pos this, if_pos this]
 exact ⟨rfl, rfl⟩
def dec17 (l : List Int) : code_Op × Int := (code_Decode l).getD (⟨0, 0, 0, 0⟩, 0)
theorem dec17_eq (l : List Int) : code_Decode l = some (dec17 l) ∧ r17_Decode l = some (r17O (dec17 l).1, (dec17 l).2) := by
 unfold dec17
 rcases four l with ⟨k, a, b, c, rfl⟩ | h
 ·rw [decode4, decode4']
  refine ⟨rfl, ?_⟩
  rw [Option.getD_some]
  by_cases h : chk17 k a b c ≠ 0
  ·rw [if_pos h, if_pos h]; rfl
  ·rw [if_neg h, if_neg h]; rfl
 ·rw [(decodeN h).1, (decodeN h).2]
  exact ⟨rfl, rfl⟩
theorem dec17_ok {l : List Int} (h : (dec17 l).2 = 0) : [(dec17 l).1.Kind, (dec17 l).1.A, (dec17 l).1.B, (dec17 l).1.C] = l := by
 unfold dec17 at h ⊢
 rcases four l with ⟨k, a, b, c, rfl⟩ | hl
 ·rw [decode4, Option.getD_some] at h ⊢
  by_cases q : chk17 k a b c ≠ 0
  ·rw [if_pos q] at h
   exact absurd h q
  ·rw [if_neg q]
 ·rw [(decodeN hl).1] at h
  cases h
theorem encode_eq (o : code_Op) : code_Encode o = some [o.Kind, o.A, o.B, o.C] := rfl
theorem codeTells (o : code_Op) (l : List Int) : w17_CodeTells o l = some true := by
 unfold w17_CodeTells
 rw [shown17]
 by_cases hl : l.length > 20
 ·have : (decide ((l.length : Int) > 20)) = true := by simp; omega
  rw [this]
  rfl
 ·have : (decide ((l.length : Int) > 20)) = false := by simp; omega
  rw [this]
  refine bnd (a := true) rfl ?_
  rw [if_neg (by simp), (dec17_eq l).1, Option.bind_some, (dec17_eq l).2, Option.bind_some, check_eq, Option.bind_some]
  refine bnd (a := r17O o) rfl ?_
  rw [check17, Option.bind_some]
  have c1 : ((chk17 o.Kind o.A o.B o.C) == (chk17 (r17O o).Kind (r17O o).A (r17O o).B (r17O o).C)) = true := beq_self_eq_true _
  rw [c1]
  refine bnd (a := r17O (dec17 l).1) rfl ?_
  have c2 : (((r17O (dec17 l).1).Kind == (r17O (dec17 l).1, (dec17 l).2).1.Kind) && (((r17O (dec17 l).1).A == (r17O (dec17 l).1, (dec17 l).2).1.A) && (((r17O (dec17 l).1).B == (r17O (dec17 l).1, (dec17 l).2).1.B) && (((r17O (dec17 l).1).C == (r17O (dec17 l).1, (dec17 l).2).1.C) && true)))) = true := by simp
  rw [c2]
  have c3 : ((dec17 l).2 == (r17O (dec17 l).1, (dec17 l).2).2) = true := beq_self_eq_true _
  rw [c3]
  refine bnd (a := [o.Kind, o.A, o.B, o.C]) rfl ?_
  refine bnd (a := [o.Kind, o.A, o.B, o.C]) rfl ?_
  refine bnd (Ints_eq [o.Kind, o.A, o.B, o.C] [o.Kind, o.A, o.B, o.C] (by simp)) ?_
  rw [decide_eq_true rfl]
  refine bnd (a := (decide (o.Kind ≥ 1)) && (decide (o.Kind ≤ 10))) rfl ?_
  refine bnd (a := (decide (o.Kind ≥ 1)) && (decide (o.Kind ≤ 10))) rfl ?_
  simp
theorem codeBack (o : code_Op) (l : List Int) : w17_CodeBack o l = some true := by
 unfold w17_CodeBack
 rw [shown17]
 by_cases hl : l.length > 20
 ·have : (decide ((l.length : Int) > 20)) = true := by simp; omega
  rw [this]
  rfl
 ·have : (decide ((l.length : Int) > 20)) = false := by simp; omega
  rw [this]
  refine bnd (a := true) rfl ?_
  rw [if_neg (by simp)]
  refine bnd (encode_eq o) ?_
  rw [decode4, Option.bind_some, (dec17_eq l).1, Option.bind_some, check_eq, Option.bind_some]
  have fin : ((onlyIf (((dec17 l).2 != 0) == false) [] (code_Encode (dec17 l).1)).bind fun v7 => (onlyIf (((dec17 l).2 != 0) == false) false (r02_Ints v7 l)).bind fun v8 => some (((dec17 l).2 != 0) || v8)) = some true := by
   by_cases h : (dec17 l).2 = 0
   ·have : ((dec17 l).2 != 0) = false := by simp [h]
    rw [this]
    refine bnd (encode_eq _) ?_
    rw [dec17_ok h]
    refine bnd (Ints_eq l l (by omega)) ?_
    rw [decide_eq_true rfl]
    rfl
   ·have : ((dec17 l).2 != 0) = true := by simp [h]
    rw [this]
    rfl
  by_cases h : chk17 o.Kind o.A o.B o.C ≠ 0
  ·rw [if_pos h, if_neg (by simp [h])]
   exact fin
  ·rw [if_neg h]
   have h0 : chk17 o.Kind o.A o.B o.C = 0 := by simpa using h
   rw [h0, if_neg (by simp)]
   exact fin
theorem codeLoose (o : code_Op) (n : Int) : w17_CodeLoose o n = some true := by
 unfold w17_CodeLoose
 simp only [jn, check_eq, shown17, Option.bind_some]
 obtain ⟨k, a, b, c⟩ := o
 dsimp only
 by_cases h : k = 2 ∨ k = 3 ∨ k = 7 ∨ k = 8 ∨ k = 9 ∨ k = 10 ∨ k = 11 ∨ k = 12
 ·rcases h with rfl | rfl | rfl | rfl | rfl | rfl | rfl | rfl <;> simp [chk17, onlyIf]
 ·have n2 : (k == 2) = false := by rw [beq_eq_false_iff_ne]; omega
  have n3 : (k == 3) = false := by rw [beq_eq_false_iff_ne]; omega
  have n7 : (k == 7) = false := by rw [beq_eq_false_iff_ne]; omega
  have n8 : (k == 8) = false := by rw [beq_eq_false_iff_ne]; omega
  have n9 : (k == 9) = false := by rw [beq_eq_false_iff_ne]; omega
  have n10 : (k == 10) = false := by rw [beq_eq_false_iff_ne]; omega
  have n11 : (k == 11) = false := by rw [beq_eq_false_iff_ne]; omega
  have n12 : (k == 12) = false := by rw [beq_eq_false_iff_ne]; omega
  rw [n2, n3, n7, n8, n9, n10, n11, n12]
  rfl
theorem codeKinds {kind n b c : Int} (h0 : 0 ≤ kind) (h1 : kind ≤ 255) : w17_CodeKinds kind n b c = some true := by
 unfold w17_CodeKinds
 rw [w64_in (by omega) (by omega), rem_pos h0 (by omega), Option.bind_some]
 obtain ⟨k, hk, hk1, hk2⟩ : ∃ k : Int, w64 (1 + kind % 12) = k ∧ 1 ≤ k ∧ k ≤ 12 := ⟨1 + kind % 12, by rw [w64_in (by omega) (by omega)], by omega, by omega⟩
 rw [hk]
 simp only [check_eq, shown17, Option.bind_some]
 have : k = 1 ∨ k = 2 ∨ k = 3 ∨ k = 4 ∨ k = 5 ∨ k = 6 ∨ k = 7 ∨ k = 8 ∨ k = 9 ∨ k = 10 ∨ k = 11 ∨ k = 12 := by omega
 have io : ∀ (e : Int), in17 n 0 5 e = if ((decide (n < 0)) || (decide (n > 5))) = true then e else 0 := fun e => by
  unfold in17
  by_cases h : n < 0 ∨ n > 5
  ·rw [if_pos h, if_pos (by simpa using h)]
  ·rw [if_neg h, if_neg (by simpa using h)]
 have i0 : ∀ e : Int, in17 0 0 5 e = 0 := fun e => by unfold in17; rw [if_neg (by omega)]
 have f0 : ∀ x y : Int, fst17 6 x y = 6 := fun x y => by unfold fst17; rw [if_pos (by omega)]
 have f7 : ∀ x y : Int, fst17 7 x y = 7 := fun x y => by unfold fst17; rw [if_pos (by omega)]
 rcases this with rfl | rfl | rfl | rfl | rfl | rfl | rfl | rfl | rfl | rfl | rfl | rfl
 case inr.inr.inr.inr.inr.inr.inr.inr.inr.inr.inl => rfl
 case inr.inr.inr.inr.inr.inr.inr.inr.inr.inr.inr =>
  have io : in17 n 0 200 12 = if ((decide (n < 0)) || (decide (n > 200))) = true then 12 else 0 := by
   unfold in17
   by_cases h : n < 0 ∨ n > 200
   ·rw [if_pos h, if_pos (by simpa using h)]
   ·rw [if_neg h, if_neg (by simpa using h)]
  have : chk17 12 n b c = in17 n 0 200 12 := rfl
  rw [this, io]
  cases ((decide (n < 0)) || (decide (n > 200))) <;> rfl
 all_goals
  simp only [chk17, io, i0]
  cases ((decide (n < 0)) || (decide (n > 5))) <;> simp [onlyIf, f0, f7]
def okp17 (o : code_Op) : Bool := ((decide (o.Kind ≥ 1)) && (decide (o.Kind ≤ 10))) && (ck17 o == 0)
def prg17 (p : List code_Op) : Bool := decide (p.length ≤ 6) && p.all okp17
def prgs17 (l : List (List code_Op)) : Bool := decide (l.length ≤ 6) && l.all prg17
section
variable {l : List (List code_Op)} (hl : l.length ≤ 12) (hp : ∀ p ∈ l, p.length ≤ 12)
include hl hp
theorem progs_eq : code_Progs l = some (prgs17 l) := by
 unfold code_Progs prgs17
 by_cases h6 : l.length > 6
 ·rw [if_pos (by simp; omega), decide_eq_false (by omega)]
  rfl
 ·rw [if_neg (by simp; omega), decide_eq_true (by omega), Bool.true_and]
  simp only [jn]
  have key := lp_all (f := fun (s23 : Int) =>
   if (decide (s23 < (l.length : Int))) then
     (ix l s23).bind fun v34 =>
     if (decide ((v34.length : Int) > 6)) then
      some (.inr (.inl false))
     else
     (lp (S := Int) (E := Bool ⊕ Unit) (fun (s36 : Int) =>
      if (decide (s36 < (v34.length : Int))) then
       (ix v34 s36).bind fun v38 =>
       (code_Plain v38).bind fun v39 =>
       (onlyIf ((!v39) == false) 0 (code_Check v38)).bind fun v40 =>
       if ((!v39) || (v40 != 0)) then
        some (.inr (.inl false))
       else
       some (.inl (w64 (s36 + 1)))
      else
      some (.inr (.inr ()))) 0).bind fun e35 =>
     match e35 with
     | .inl w => some (.inr (.inl w))
     | .inr w => some (Sum.inl (w64 (s23 + 1)))
   else
   some (.inr (.inr ()))) l prg17 (.inr ()) (Sum.inl (β := Unit) false) (by omega) (fun k hk => ?_) (by simp)
  ·refine bnd key ?_
   cases l.all prg17 <;> rfl
  ·rw [if_pos (by simpa using hk), ix_at hk, Option.bind_some]
   unfold prg17
   have hm := hp _ (List.getElem_mem hk)
   generalize l[k] = p at hm ⊢
   by_cases hq : p.length > 6
   ·rw [if_pos (by simp; omega), decide_eq_false (by omega)]
    rfl
   ·rw [if_neg (by simp; omega), decide_eq_true (by omega), Bool.true_and]
    have k2 := lp_all (f := fun (s36 : Int) =>
      if (decide (s36 < (p.length : Int))) then
       (ix p s36).bind fun v38 =>
       (code_Plain v38).bind fun v39 =>
       (onlyIf ((!v39) == false) 0 (code_Check v38)).bind fun v40 =>
       if ((!v39) || (v40 != 0)) then
        some (.inr (.inl false))
       else
       some (Sum.inl (w64 (s36 + 1)))
      else
      some (.inr (.inr ()))) p okp17 (.inr ()) (Sum.inl (β := Unit) false) (by omega) (fun j hj => ?_) (by simp)
    ·refine Eq.trans (bnd k2 (r := if p.all okp17 = true then some (.inl (w64 ((k : Int) + 1))) else some (.inr (.inl false))) ?_) ?_
     ·cases p.all okp17 <;> rfl
     ·rw [w64_nat]
    ·rw [if_pos (by simpa using hj), ix_at hj, Option.bind_some, check_eq]
     unfold okp17 code_Plain
     rw [Option.bind_some, w64_nat]
     cases ((decide (p[j].Kind ≥ 1)) && (decide (p[j].Kind ≤ 10)))
     ·rfl
     ·by_cases h : ck17 p[j] = 0
      ·have e : chk17 p[j].Kind p[j].A p[j].B p[j].C = 0 := h
       rw [e, h]; rfl
      ·have e1 : (chk17 p[j].Kind p[j].A p[j].B p[j].C != 0) = true := by simpa using h
       have e2 : (ck17 p[j] == 0) = false := by simpa using h
       rw [e2]
       refine bnd (a := ck17 p[j]) rfl ?_
       rw [show (ck17 p[j] != 0) = true from e1]
       rfl
theorem progs17_eq : r17_Progs (l.map (List.map r17O)) = some (prgs17 l) := by
 unfold r17_Progs prgs17
 rw [List.length_map]
 by_cases h6 : l.length > 6
 ·rw [if_pos (by simp; omega), decide_eq_false (by omega)]
  rfl
 ·rw [if_neg (by simp; omega), decide_eq_true (by omega), Bool.true_and]
  simp only [jn]
  have key := lp_all (f := fun (s23 : Int) =>
   if (decide (s23 < (l.length : Int))) then
     (ix (l.map (List.map r17O)) s23).bind fun v34 =>
     if (decide ((v34.length : Int) > 6)) then
      some (.inr (.inl false))
     else
     (lp (S := Int) (E := Bool ⊕ Unit) (fun (s36 : Int) =>
      if (decide (s36 < (v34.length : Int))) then
       (ix v34 s36).bind fun v38 =>
       (r17_Plain v38).bind fun v39 =>
       (onlyIf ((!v39) == false) 0 (r17_Check v38)).bind fun v40 =>
       if ((!v39) || (v40 != 0)) then
        some (.inr (.inl false))
       else
       some (.inl (w64 (s36 + 1)))
      else
      some (.inr (.inr ()))) 0).bind fun e35 =>
     match e35 with
     | .inl w => some (.inr (.inl w))
     | .inr w => some (Sum.inl (w64 (s23 + 1)))
   else
   some (.inr (.inr ()))) l prg17 (.inr ()) (Sum.inl (β := Unit) false) (by omega) (fun k hk => ?_) (by simp)
  ·refine bnd key ?_
   cases l.all prg17 <;> rfl
  ·rw [if_pos (by simpa using hk), ix_map', ix_at hk, Option.map_some, Option.bind_some, List.length_map]
   unfold prg17
   have hm := hp _ (List.getElem_mem hk)
   generalize l[k] = p at hm ⊢
   by_cases hq : p.length > 6
   ·rw [if_pos (by simp; omega), decide_eq_false (by omega)]
    rfl
   ·rw [if_neg (by simp; omega), decide_eq_true (by omega), Bool.true_and]
    have k2 := lp_all (f := fun (s36 : Int) =>
      if (decide (s36 < (p.length : Int))) then
       (ix (p.map r17O) s36).bind fun v38 =>
       (r17_Plain v38).bind fun v39 =>
       (onlyIf ((!v39) == false) 0 (r17_Check v38)).bind fun v40 =>
       if ((!v39) || (v40 != 0)) then
        some (.inr (.inl false))
       else
       some (Sum.inl (w64 (s36 + 1)))
      else
      some (.inr (.inr ()))) p okp17 (.inr ()) (Sum.inl (β := Unit) false) (by omega) (fun j hj => ?_) (by simp)
    ·refine Eq.trans (bnd k2 (r := if p.all okp17 = true then some (.inl (w64 ((k : Int) + 1))) else some (.inr (.inl false))) ?_) ?_
     ·cases p.all okp17 <;> rfl
     ·rw [w64_nat]
    ·rw [if_pos (by simpa using hj), ix_map', ix_at hj, Option.map_some, Option.bind_some, check17]
     unfold okp17 r17_Plain
     rw [Option.bind_some, w64_nat]
     rw [show (r17O p[j]).Kind = p[j].Kind from rfl]
     cases ((decide (p[j].Kind ≥ 1)) && (decide (p[j].Kind ≤ 10)))
     ·rfl
     ·by_cases h : ck17 p[j] = 0
      ·have e : chk17 p[j].Kind (r17O p[j]).A (r17O p[j]).B (r17O p[j]).C = 0 := h
       rw [e, h]; rfl
      ·have e1 : (chk17 p[j].Kind p[j].A p[j].B p[j].C != 0) = true := by simpa using h
       have e2 : (ck17 p[j] == 0) = false := by simpa using h
       rw [e2]
       refine bnd (a := ck17 p[j]) rfl ?_
       rw [show (ck17 p[j] != 0) = true from e1]
       rfl
theorem wprogs17 : w17_progs l = some (l.map (List.map r17O)) := by
 unfold w17_progs
 simp only [jn]
 refine lpb_upS l.length (fun k acc => acc = (l.take k).map (List.map r17O)) (by omega) (by simp) (fun k acc hk hacc => .inl ⟨_, ?_, rfl⟩) (fun acc hacc => ⟨_, if_neg (by simp), by rw [hacc, List.take_length]⟩)
 subst hacc
 have hm := hp _ (List.getElem_mem hk)
 dsimp only
 rw [if_pos (by simpa using hk)]
 have e := lp_collect (b := 32) r17O l[k] (by omega) (by omega)
 simp only [r17O] at e
 simp only [ix_at hk, w17_op, Option.bind_some]
 rw [e, Option.bind_some, app_ok (by omega) (by simp; omega), Option.bind_some, w64_nat, List.take_succ_eq_append_getElem hk, List.map_append]
 rfl
end
theorem codeProgs (l : List (List code_Op)) : w17_CodeProgs l = some true := by
 unfold w17_CodeProgs
 rw [shown17]
 by_cases hl : l.length > 12
 ·have : (decide ((l.length : Int) > 12)) = true := by simp; omega
  rw [this]
  rfl
 ·have : (decide ((l.length : Int) > 12)) = false := by simp; omega
  rw [this]
  refine bnd (a := true) rfl ?_
  rw [if_neg (by simp)]
  simp only [jn]
  rw [lp_all (f := fun (s13 : Int) =>
   if (decide (s13 < (l.length : Int))) then
    (ix l s13).bind fun v15 =>
    if (decide ((v15.length : Int) > 12)) then
     some (.inr (.inl true))
    else
    some (.inl (w64 (s13 + 1)))
   else
   some (.inr (.inr ()))) l (fun p => decide (p.length ≤ 12)) (.inr ()) (Sum.inl (β := Unit) true) (by omega) (fun k hk => by
    rw [if_pos (by simpa using hk), ix_at hk, Option.bind_some, w64_nat]
    by_cases c : l[k].length > 12
    ·rw [if_pos (by simp; omega), decide_eq_false (by omega), if_neg (by simp)]
    ·rw [if_neg (by simp; omega), decide_eq_true (by omega), if_pos rfl]) (by simp), Option.bind_some]
  by_cases c : l.all (fun p => decide (p.length ≤ 12)) = true
  ·rw [if_pos c]
   have hp : ∀ p ∈ l, p.length ≤ 12 := fun p h => of_decide_eq_true (List.all_eq_true.1 c p h)
   dsimp only
   rw [progs_eq (by omega) hp, Option.bind_some, wprogs17 (by omega) hp, Option.bind_some, progs17_eq (by omega) hp, Option.bind_some]
   simp
  ·rw [if_neg c]
end Go.Sh
