/-
 More of the theory.
-/
import Derived.Test.YtnfmdpblilpcbaaGreatI16cT
set_option linter.unusedSectionVars false
namespace Go.Sh
set_option linter.unusedVariables false
set_option linter.unusedSimpArgs false
def bryH (x : Hp) (ds : List Int) (t : Tb) : Hp := ⟨gnL x.S ds, x.Roots, clr x.Cells ds, t, ⟨x.Q.L ++ clt x.Cells ds, x.Q.Cap⟩⟩
theorem hlds_app (q : TQ) (l : List task_Task) (c : Int) (h : ∀ t ∈ l, t.Kind ≠ 1) : hlds ⟨q.L ++ l, c⟩ = hlds q := by
 unfold hlds
 dsimp only
 rw [List.filter_append]
 have : l.filter (fun t => t.Kind == 1) = [] := by
  rw [List.filter_eq_nil_iff]
  intro t ht
  simpa using h t ht
 rw [this, List.append_nil]
theorem bry_right {x : Hp} (hx : HpR x) {ds : List Int} (hn : ds.Nodup) (hm : ∀ d ∈ ds, d ∈ lv x.S)
  (ho : ∀ d ∈ ds, d ∉ otr x) (hf : ∀ h ∈ lv x.S, h ∉ ds → ∀ v ∈ (ob x.S h).Fields, v ∉ ds) (hp : ∀ k v, Has x.T k v → k ∉ ds → v ∉ ds)
  {t : Tb} {vals : List Int} (ht : HR t) (h1 : ∀ k v, Has t k v ↔ k ∉ ds ∧ Has x.T k v) (h2 : ∀ y, own t y + tms vals y = own x.T y) :
  HpS (bryH x ds t) ∧ Wk (bryH x ds t) ∧ FairL (bryH x ds t) (ds.flatMap (outs x.S) ++ vals) := by
 have hS := hx.sh
 have hR := hS.sr
 have g := gnL_gn ds hR hn hm
 have hlv : ∀ h, h ∈ lv (gnL x.S ds) ↔ h ∈ lv x.S ∧ h ∉ ds := fun h => by rw [g.lv, List.mem_filter, decide_eq_true_iff]
 have hlen : (lv x.S).length ≤ 24 := lv_len (rt_iff.2 hR)
 have hcl : ∀ w (hw : w < x.Cells.length), hitB ds x.Cells[w] = true → x.Cells[w].Intact = true := fun w hw q => by
  unfold hitB at q
  rw [Bool.and_eq_true, Bool.and_eq_true] at q
  exact q.1.1
 have htd : (x.Q.L ++ clt x.Cells ds).Pairwise fun a b => ¬ (a.Kind = b.Kind ∧ a.At = b.At) := by
  rw [List.pairwise_append]
  refine ⟨hS.td, clt_nodup .., fun a ha b hb q => ?_⟩
  obtain ⟨w, hw, rfl, hh, _⟩ := mem_clt.1 hb
  have := ((hS.cl w hw).2.2.2.2 (hcl w hw hh)).2
  rw [Bool.eq_false_iff] at this
  exact this (wts_iff.2 ⟨a, ha, q.1, q.2⟩)
 have htk : ∀ t ∈ x.Q.L ++ clt x.Cells ds, 0 ≤ t.Prog ∧ t.Prog ≤ 5 ∧ ((t.Kind = 1 ∧ t.At ∈ lv (gnL x.S ds) ∧ (ob (gnL x.S ds) t.At).Started = true) ∨ (t.Kind = 2 ∧ 0 ≤ t.At ∧ t.At ≤ 5)) := fun t htt => by
  rcases List.mem_append.1 htt with q | q
  ·obtain ⟨a, b, c⟩ := hS.tk t q
   refine ⟨a, b, ?_⟩
   rcases c with ⟨c1, c2, c3⟩ | c
   ·have hnd : t.At ∉ ds := fun hd => ho _ hd (List.mem_append.2 (.inr (mem_hlds.2 ⟨t, q, c1, rfl⟩)))
    exact .inl ⟨c1, (hlv _).2 ⟨c2, hnd⟩, by rw [g.ob _ c2 hnd]; exact c3⟩
   ·exact .inr c
  ·obtain ⟨w, hw, rfl, hh, hc⟩ := mem_clt.1 q
   have c6 := hS.c6
   have := (hS.cl w hw).2.1
   exact ⟨hc, this, .inr ⟨rfl, by dsimp only; omega, by dsimp only; omega⟩⟩
 have hq30 : (x.Q.L ++ clt x.Cells ds).length ≤ 30 := by
  have := tasks_le (m := lv x.S) htd fun t htt => by
   rcases (htk t htt).2.2 with q | q
   ·exact .inl ⟨q.1, ((hlv _).1 q.2.1).1⟩
   ·exact .inr q
  omega
 have hwts : ∀ i : Nat, wts x.Q i = false → (∀ hi : i < x.Cells.length, hitB ds x.Cells[i] = false) → wts ⟨x.Q.L ++ clt x.Cells ds, x.Q.Cap⟩ i = false := fun i q1 q2 => by
  rw [Bool.eq_false_iff] at q1 ⊢
  intro q
  obtain ⟨t, ht, a, b⟩ := wts_iff.1 q
  rcases List.mem_append.1 ht with c | c
  ·exact q1 (wts_iff.2 ⟨t, c, a, b⟩)
  ·obtain ⟨w, hw, rfl, hh, _⟩ := mem_clt.1 c
   dsimp only at b
   have : w = i := by omega
   subst this
   rw [q2 hw] at hh
   cases hh
 refine ⟨⟨g.sr, ht, hS.r6, ?_, hS.cap, hq30, htk, htd, fun h hh => ?_, fun h hh v hv => ?_, fun k v hkv => ?_, fun i hi => ?_⟩, fun i hi hti => ?_, fun h hh hlt => ?_⟩
 ·unfold bryH clr
  rw [List.length_map]
  exact hS.c6
 ·rcases hS.rt h hh with q | q
  ·exact .inl q
  ·have h0 : h ≠ 0 := fun e => lv_0 hR (e ▸ q)
   exact .inr ((hlv h).2 ⟨q, fun hd => ho h hd (List.mem_append.2 (.inl (nz_mem.2 ⟨hh, h0⟩)))⟩)
 ·obtain ⟨a, b⟩ := (hlv h).1 hh
  have hv' : v ∈ (ob x.S h).Fields := by
   have e := g.ob h a b
   unfold bryH at hv
   rwa [e] at hv
  rcases hS.fl h a v hv' with q | q
  ·exact .inl q
  ·exact .inr ((hlv v).2 ⟨q, hf h a b v hv'⟩)
 ·obtain ⟨a, b⟩ := (h1 k v).1 hkv
  obtain ⟨c, d⟩ := hS.pr k v b
  exact ⟨(hlv k).2 ⟨c, a⟩, (hlv v).2 ⟨d, hp k v b a⟩⟩
 ·have hi' : i < x.Cells.length := by
   unfold bryH clr at hi
   simpa using hi
  have e : (bryH x ds t).Cells[i] = clrC ds x.Cells[i] := List.getElem_map _
  obtain ⟨a1, a2, a3, a4, a5⟩ := hS.cl i hi'
  obtain ⟨b1, b2, b3⟩ := clrC_t ds x.Cells[i]
  rw [e, b1, b2]
  refine ⟨a1, a2, fun q => ?_, fun q => ?_, fun q => ?_⟩
  ·rw [Bool.eq_false_iff]
   intro q2
   rw [a3 q] at b3
   exact absurd (b3.1 q2).1 (by decide)
  ·obtain ⟨p, hp1, hp2, hp3⟩ := a4 q
   refine ⟨p, by show p < (gnL x.S ds).S.Cells.length; rw [g.len]; exact hp1, ?_⟩
   show Th (ce (gnL x.S ds) p) ∧ _ = 1 + (p : Int) + 32 * (ce (gnL x.S ds) p).Gen
   rw [g.ce]
   split
   ·have hw := (hx.wk p hp1 hp2).1
    have := nmg_pos hi' q
    rw [hp3] at this
    unfold gnC
    rw [if_neg (by omega)]
    exact ⟨.inr rfl, hp3⟩
   ·exact ⟨hp2, hp3⟩
  ·obtain ⟨c1, c2⟩ := b3.1 q
   obtain ⟨d1, d2⟩ := a5 c1
   have h0 : x.Cells[i].Target ≠ 0 := fun e => lv_0 hR (e ▸ d1)
   refine ⟨(hlv _).2 ⟨d1, fun hd => ?_⟩, hwts i d2 fun _ => c2⟩
   have : hitB ds x.Cells[i] = true := by
    unfold hitB
    simp [c1, h0, hd]
   rw [this] at c2
   cases c2
 ·have hi' : i < x.S.S.Cells.length := by
   have := g.len
   have hi : i < (gnL x.S ds).S.Cells.length := hi
   omega
  show (ce (gnL x.S ds) i).Val.Weak = (nmg (clr x.Cells ds) (1 + (i : Int) + 32 * (ce (gnL x.S ds) i).Gen) : Int) ∧ ((ce (gnL x.S ds) i).State = 2 → _)
  have hti' : Th (ce (gnL x.S ds) i) := hti
  show _ ∧ ((ce (gnL x.S ds) i).State = 2 → 1 ≤ (ce (gnL x.S ds) i).Val.Weak ∧ (ce (gnL x.S ds) i).Val.Fields = [] ∧ (ce (gnL x.S ds) i).Val.Strong = 0)
  rw [nmg_clr]
  rw [g.ce] at hti' ⊢
  split
  ·rename_i q
   rw [if_pos q] at hti'
   obtain ⟨d, hd, rfl⟩ := List.mem_map.1 q
   have hp := lv_place hR (hm d hd)
   have hw := (hx.wk _ hi' (.inl hp.2.1)).1
   unfold gnC at hti' ⊢
   split at hti'
   ·exfalso
    unfold Th at hti'
    split at hti' <;> simp at hti'
   ·rename_i q2
    rw [if_neg q2]
    have := (hR.ok _ hi' (.inl hp.2.1)).wk
    exact ⟨hw, fun _ => ⟨by dsimp only; omega, rfl, rfl⟩⟩
  ·rename_i q
   rw [if_neg q] at hti'
   exact hx.wk i hi' hti'
 ·obtain ⟨a, b⟩ := (hlv h).1 hh
  have e := g.ob h a b
  have e' : ob (bryH x ds t).S h = ob x.S h := e
  rw [e'] at hlt ⊢
  have hf := hx.fair h a hlt
  rw [tms_nil] at hf
  rw [hf]
  have i1 := g.inn hR hn hm h
  have i2 := h2 h
  have i3 : hlds ⟨x.Q.L ++ clt x.Cells ds, x.Q.Cap⟩ = hlds x.Q := hlds_app _ _ _ fun t ht => by
   obtain ⟨w, _, rfl, _⟩ := mem_clt.1 ht
   simp
  unfold nms otr bryH
  dsimp only
  rw [i3, tms_append (ds.flatMap (outs x.S)), tms_append]
  omega
theorem rlsL_right : ∀ (l : List Int) {x : Hp}, HpS x → Wk x → FairL x l → HpR (l.foldl rlsH x)
 | [], x, h1, h2, h3 => ⟨h1, h2, h3⟩
 | v :: l, x, h1, h2, h3 => rlsL_right l (h1.st v fun c => decN_nn) (h2.st h1.sr v fun c => decN_nn) (rls_fair h1.sr h3)
abbrev srt (o : store_Obj) : store_Obj := ⟨o.Serial, o.Strong, o.Weak, o.Prog, true, o.Fields⟩
abbrev qtk (x : Hp) (h : Int) : task_Task := ⟨1, h, (ob x.S h).Prog⟩
noncomputable def quH (x : Hp) (h : Int) : Hp := rtn ⟨seO x.S h (srt (ob x.S h)), x.Roots, x.Cells, x.T, ⟨x.Q.L ++ [qtk x h], x.Q.Cap⟩⟩ h
theorem quH_right {x : Hp} (hx : HpR x) {h : Int} (hh : h ∈ lv x.S) (hp : 0 ≤ (ob x.S h).Prog) (hs : (ob x.S h).Started = false) : HpR (quH x h) := by
 have hS := hx.sh
 have hR := hS.sr
 have oko := lv_okO hR hh
 have ho : OkO x.S (srt (ob x.S h)) := ⟨oko.s1, oko.s2, oko.st, oko.wk, oko.p1, oko.p2, oko.fl⟩
 have r1 := seO_sr (o := srt (ob x.S h)) hR hh rfl ho
 have l1 := seO_lv (o := srt (ob x.S h)) hR hh rfl ho
 have o1 : ∀ j, j ∈ lv x.S → ob (seO x.S h (srt (ob x.S h))) j = if j = h then srt (ob x.S h) else ob x.S j := fun j hj => by
  have := lv_rng hR hj
  exact seO_ob (o := srt (ob x.S h)) hR hh rfl ho (by omega)
 have hlen : (lv x.S).length ≤ 24 := lv_len (rt_iff.2 hR)
 have s1 : HpS (wS x (seO x.S h (srt (ob x.S h)))) := hS.of r1 l1 (fun k i q => (seO_at (o := srt (ob x.S h)) hR hh rfl ho).2 q) (fun k hk q => by
  rw [o1 k hk]
  split
  ·rfl
  ·exact q) fun k hk v hv => by
  rw [o1 k hk] at hv
  split at hv
  ·rename_i e; subst e; exact hS.fl k hk v hv
  ·exact hS.fl k hk v hv
 have w1 : Wk (wS x (seO x.S h (srt (ob x.S h)))) := fun i hi ht => by
  have hpl := lv_place hR hh
  have hc := seO_ce (o := srt (ob x.S h)) hR hh rfl ho i
  dsimp only at hi ht ⊢
  rw [hc] at ht ⊢
  have hi' : i < x.S.S.Cells.length := by unfold seO at hi; rwa [putAt_len] at hi
  split at ht
  ·rename_i e
   subst e
   rw [if_pos rfl]
   dsimp only
   have := hx.wk _ hi' (.inl hpl.2.1)
   rw [at_ob hR hpl]
   exact ⟨this.1, fun q => absurd q (by rw [hpl.2.1]; decide)⟩
  ·rename_i e
   rw [if_neg e]
   exact hx.wk i hi' ht
 have htd : (x.Q.L ++ [qtk x h]).Pairwise fun a b => ¬ (a.Kind = b.Kind ∧ a.At = b.At) := by
  rw [List.pairwise_append]
  refine ⟨hS.td, by simp, fun a ha b hb q => ?_⟩
  rw [List.mem_singleton] at hb
  subst hb
  dsimp only at q
  rcases (hS.tk a ha).2.2 with c | c
  ·rw [q.2, hs] at c
   exact absurd c.2.2 (by decide)
  ·omega
 have htk : ∀ t ∈ x.Q.L ++ [qtk x h], 0 ≤ t.Prog ∧ t.Prog ≤ 5 ∧ ((t.Kind = 1 ∧ t.At ∈ lv (seO x.S h (srt (ob x.S h))) ∧ (ob (seO x.S h (srt (ob x.S h))) t.At).Started = true) ∨ (t.Kind = 2 ∧ 0 ≤ t.At ∧ t.At ≤ 5)) := fun t ht => by
  rcases List.mem_append.1 ht with q | q
  ·exact s1.tk t q
  ·rw [List.mem_singleton] at q
   subst q
   refine ⟨hp, oko.p2, .inl ⟨rfl, by rw [l1]; exact hh, ?_⟩⟩
   dsimp only
   rw [o1 h hh, if_pos rfl]
 have hq30 : (x.Q.L ++ [qtk x h]).length ≤ 30 := by
  have := tasks_le (m := lv x.S) htd fun t ht => by
   rcases (htk t ht).2.2 with q | q
   ·exact .inl ⟨q.1, by rw [← l1]; exact q.2.1⟩
   ·exact .inr q
  omega
 have s2 : HpS ⟨seO x.S h (srt (ob x.S h)), x.Roots, x.Cells, x.T, ⟨x.Q.L ++ [qtk x h], x.Q.Cap⟩⟩ := by
  refine ⟨s1.sr, s1.hr, s1.r6, s1.c6, s1.cap, hq30, htk, htd, s1.rt, s1.fl, s1.pr, fun i hi => ?_⟩
  obtain ⟨a, b, c, d, e⟩ := s1.cl i hi
  refine ⟨a, b, c, d, fun q => ⟨(e q).1, ?_⟩⟩
  have := (e q).2
  rw [Bool.eq_false_iff] at this ⊢
  intro q2
  obtain ⟨t, ht, k1, k2⟩ := wts_iff.1 q2
  rcases List.mem_append.1 ht with q3 | q3
  ·exact this (wts_iff.2 ⟨t, q3, k1, k2⟩)
  ·rw [List.mem_singleton] at q3
   subst q3
   dsimp only at k1
   omega
 have w2 : Wk ⟨seO x.S h (srt (ob x.S h)), x.Roots, x.Cells, x.T, ⟨x.Q.L ++ [qtk x h], x.Q.Cap⟩⟩ := w1
 refine ⟨s2.st h fun c => incN_nn, w2.st s2.sr h fun c => incN_nn, fun k hk hlt => ?_⟩
 have hk' : k ∈ lv x.S := by
  have : lv (quH x h).S = lv x.S := (stO_kin s2.sr h fun c => incN_nn).lv.trans l1
  rw [← this]; exact hk
 have hst : (ob (quH x h).S k).Strong = if k = h then incN (ob x.S k).Strong else (ob x.S k).Strong := by
  have := stO_st (x := ⟨seO x.S h (srt (ob x.S h)), x.Roots, x.Cells, x.T, ⟨x.Q.L ++ [qtk x h], x.Q.Cap⟩⟩) s2.sr h (f := incN) (fun c => incN_nn) (k := k) (by rw [← l1] at hk'; exact hk')
  refine Eq.trans this ?_
  dsimp only
  rw [o1 k hk']
  by_cases e : k = h
  ·subst e
   rw [if_pos rfl, if_pos rfl, if_pos rfl]
  ·rw [if_neg e, if_neg e, if_neg e]
 have hnm : nms (quH x h) k = nms x k + if k = h then 1 else 0 := by
  have := stO_nms (x := ⟨seO x.S h (srt (ob x.S h)), x.Roots, x.Cells, x.T, ⟨x.Q.L ++ [qtk x h], x.Q.Cap⟩⟩) s2.sr h (f := incN) (fun c => incN_nn) k
  refine Eq.trans this ?_
  have hi := inn_seO (o := srt (ob x.S h)) hR hh rfl ho k
  dsimp only at hi
  have h0 : k ≠ 0 := fun e => lv_0 hR (e ▸ hk')
  unfold nms otr hlds
  dsimp only
  rw [List.filter_append, List.map_append, tms_append, tms_append, tms_append]
  have : tms (List.map (·.At) (List.filter (fun t : task_Task => t.Kind == 1) [qtk x h])) k = if k = h then 1 else 0 := by
   show tms [h] k = _
   rw [tms_cons, tms_nil]
   by_cases e : k = h
   ·rw [if_pos ⟨e.symm, h0⟩, if_pos e]
   ·rw [if_neg (fun q => e q.1.symm), if_neg e]
  rw [this]
  omega
 rw [hst] at hlt ⊢
 rw [hnm, tms_nil]
 have hpos := (lv_okO hR hk').st
 by_cases e : k = h
 ·rw [if_pos e] at hlt ⊢
  rw [if_pos e]
  have := hx.fair k hk' (by unfold incN at hlt; split at hlt <;> omega)
  rw [tms_nil] at this
  unfold incN at hlt ⊢
  split at hlt
  ·omega
  ·rename_i q
   rw [if_neg q, if_neg (by omega)]
   omega
 ·rw [if_neg e] at hlt ⊢
  rw [if_neg e]
  have := hx.fair k hk' hlt
  rw [tms_nil] at this
  exact this
end Go.Sh
set_option linter.unusedSectionVars false
namespace Go.Sh
set_option linter.unusedVariables false
set_option linter.unusedSimpArgs false
noncomputable def zr (x : Hp) : List Int := (lv x.S).filter fun h => (ob x.S h).Strong == 0
theorem zr_mem {x : Hp} {h : Int} : h ∈ zr x ↔ h ∈ lv x.S ∧ (ob x.S h).Strong = 0 := by
 unfold zr
 rw [List.mem_filter, beq_iff_eq]
theorem zr_free {x : Hp} (hx : HpR x) {z : Int} (hz : z ∈ zr x) : nms x z = 0 := by
 obtain ⟨a, b⟩ := zr_mem.1 hz
 have := hx.fair z a (by omega)
 rw [tms_nil] at this
 omega
theorem tms_zero {l : List Int} {h : Int} (h0 : h ≠ 0) (e : tms l h = 0) : h ∉ l := fun q => by
 have := tms_pos.2 ⟨h0, q⟩
 omega
theorem le_sum {α : Type} (f : α → Nat) : ∀ {l : List α} {a : α}, a ∈ l → f a ≤ (l.map f).sum
 | b :: l, a, h => by
  rw [List.map_cons, List.sum_cons]
  rcases List.mem_cons.1 h with e | e
  ·subst e; omega
  ·have := le_sum f e; omega
theorem inn_out {s : store_Store} {a y : Int} (ha : a ∈ lv s) : tms (outs s a) y ≤ inn s y := le_sum (fun x => tms (outs s x) y) ha
theorem own_has {t : Tb} {k v : Int} (h : Has t k v) (h0 : v ≠ 0) : 0 < own t v := List.countP_pos_iff.2 ⟨⟨k, v⟩, mem_prs.2 h, by simp [h0]⟩
def wot (t : Tb) (ks : List Int) : Tb × List Int := (ephem_Without t ks).getD (t, [])
theorem wot_spec {t : Tb} (hT : HR t) (ks : List Int) (hks : ks.length ≤ 1000) : ephem_Without t ks = some (wot t ks) ∧ HR (wot t ks).1 ∧ (wot t ks).2.length ≤ ks.length ∧ r11_Without (t.map hpl) ks = some ((wot t ks).1.map hpl, (wot t ks).2) ∧
  (∀ k v, Has (wot t ks).1 k v ↔ k ∉ ks ∧ Has t k v) ∧ ∀ y, own (wot t ks).1 y + tms (wot t ks).2 y = own t y := by
 obtain ⟨a, had, h1, h2, h3, h4, h5, h6, h7, h8, h9⟩ := without_own hT ks hks
 have : wot t ks = (a, had) := by unfold wot; rw [h1]; rfl
 rw [this]
 exact ⟨h1, h2, h4, h5, h6, h9⟩
noncomputable def buH (x : Hp) (ds : List Int) : Hp := (ds.flatMap (outs x.S) ++ (wot x.T ds).2).foldl rlsH (bryH x ds (wot x.T ds).1)
theorem rlsL_kin : ∀ (l : List Int) {x : Hp}, SR x.S → Kin x.S (l.foldl rlsH x).S ∧ l.foldl rlsH x = wS x (l.foldl rlsH x).S
 | [], x, h => ⟨Kin.refl h, rfl⟩
 | v :: l, x, h => by
  have k1 := stO_kin h v (f := decN) fun c => decN_nn
  obtain ⟨k2, e⟩ := rlsL_kin l (x := rlsH x v) k1.sr
  refine ⟨k1.trans k2, ?_⟩
  show l.foldl rlsH (rlsH x v) = wS x (l.foldl rlsH (rlsH x v)).S
  rw [e, rls_eq x v]
theorem buH_right {x : Hp} (hx : HpR x) {ds : List Int} (hn : ds.Nodup) (hm : ∀ d ∈ ds, d ∈ lv x.S)
  (ho : ∀ d ∈ ds, d ∉ otr x) (hf : ∀ h ∈ lv x.S, h ∉ ds → ∀ v ∈ (ob x.S h).Fields, v ∉ ds) (hp : ∀ k v, Has x.T k v → k ∉ ds → v ∉ ds) : HpR (buH x ds) := by
 have hl : ds.length ≤ 24 := Nat.le_trans (nodup_le hn hm) (lv_len (rt_iff.2 hx.sh.sr))
 obtain ⟨_, w1, _, _, w2, w3⟩ := wot_spec hx.sh.hr ds (by omega)
 obtain ⟨a, b, c⟩ := bry_right hx hn hm ho hf hp w1 w2 w3
 exact rlsL_right _ a b c
theorem buH_lv {x : Hp} (hR : SR x.S) {ds : List Int} (hn : ds.Nodup) (hm : ∀ d ∈ ds, d ∈ lv x.S) : lv (buH x ds).S = (lv x.S).filter fun h => decide (h ∉ ds) := by
 have g := gnL_gn ds hR hn hm
 exact (rlsL_kin (ds.flatMap (outs x.S) ++ (wot x.T ds).2) (x := bryH x ds (wot x.T ds).1) g.sr).1.lv.trans g.lv
theorem buH_ob {x : Hp} (hR : SR x.S) {ds : List Int} (hn : ds.Nodup) (hm : ∀ d ∈ ds, d ∈ lv x.S) {k : Int} (hk : k ∈ lv x.S) (hd : k ∉ ds) : ∃ n, ob (buH x ds).S k = stg (ob x.S k) n := by
 have g := gnL_gn ds hR hn hm
 have hr := lv_rng hR hk
 obtain ⟨n, e⟩ := (rlsL_kin (ds.flatMap (outs x.S) ++ (wot x.T ds).2) (x := bryH x ds (wot x.T ds).1) g.sr).1.ob k (by omega)
 refine ⟨n, ?_⟩
 have e' : ob (buH x ds).S k = _ := e
 have g' : ob (bryH x ds (wot x.T ds).1).S k = ob x.S k := g.ob k hk hd
 rw [e', g']
theorem buH_rest {x : Hp} (hR : SR x.S) {ds : List Int} (hn : ds.Nodup) (hm : ∀ d ∈ ds, d ∈ lv x.S) : (buH x ds).Roots = x.Roots ∧ (buH x ds).Cells = clr x.Cells ds ∧ (buH x ds).T = (wot x.T ds).1 ∧ (buH x ds).Q = ⟨x.Q.L ++ clt x.Cells ds, x.Q.Cap⟩ := by
 have g := gnL_gn ds hR hn hm
 have e := (rlsL_kin (ds.flatMap (outs x.S) ++ (wot x.T ds).2) (x := bryH x ds (wot x.T ds).1) g.sr).2
 have e' : buH x ds = wS (bryH x ds (wot x.T ds).1) (buH x ds).S := e
 rw [e']
 exact ⟨rfl, rfl, rfl, rfl⟩
theorem zero_right {x : Hp} (hx : HpR x) {z : Int} (hz : z ∈ zr x) : HpR (buH x [z]) := by
 obtain ⟨a, b⟩ := zr_mem.1 hz
 have h0 : z ≠ 0 := fun e => lv_0 hx.sh.sr (e ▸ a)
 have hn := zr_free hx hz
 unfold nms at hn
 refine buH_right hx (by simp) (by simpa using a) (fun d hd => ?_) (fun h hh hne v hv q => ?_) (fun k v hkv _ q => ?_)
 ·rw [List.mem_singleton] at hd
  subst hd
  exact tms_zero h0 (by omega)
 ·rw [List.mem_singleton] at q
  subst q
  have := inn_out (y := v) hh
  have h1 := tms_pos.2 ⟨h0, show v ∈ outs x.S h from nz_mem.2 ⟨hv, h0⟩⟩
  omega
 ·rw [List.mem_singleton] at q
  subst q
  have := own_has hkv h0
  omega
def due (o : store_Obj) : Bool := decide (0 ≤ o.Prog) && !o.Started
noncomputable def stp (x : Hp) : Hp := match zr x with
 | [] => x
 | z :: _ => if due (ob x.S z) then quH x z else buH x [z]
noncomputable def stN : Nat → Hp → Hp
 | 0, x => x
 | n + 1, x => stN n (stp x)
theorem stN_succ (n : Nat) (x : Hp) : stN (n + 1) x = stp (stN n x) := by
 induction n generalizing x with
 | zero => rfl
 | succ n ih => exact ih (stp x)
theorem stp_nil {x : Hp} (h : zr x = []) : stp x = x := by unfold stp; rw [h]
theorem stp_cons {x : Hp} {z : Int} {l : List Int} (h : zr x = z :: l) : stp x = if due (ob x.S z) then quH x z else buH x [z] := by unfold stp; rw [h]
theorem stp_right {x : Hp} (hx : HpR x) : HpR (stp x) := by
 cases h : zr x with
 | nil => rw [stp_nil h]; exact hx
 | cons z l =>
  have hz : z ∈ zr x := by rw [h]; exact List.mem_cons_self ..
  rw [stp_cons h]
  split
  ·rename_i q
   unfold due at q
   rw [Bool.and_eq_true, decide_eq_true_iff, Bool.not_eq_true'] at q
   exact quH_right hx (zr_mem.1 hz).1 q.1 q.2
  ·exact zero_right hx hz
theorem stN_right {x : Hp} (hx : HpR x) (n : Nat) : HpR (stN n x) := by
 induction n with
 | zero => exact hx
 | succ n ih => rw [stN_succ]; exact stp_right ih
section
variable {x : Hp} (hR : SR x.S) {h : Int} (hh : h ∈ lv x.S)
include hR hh
theorem quH_kin : Kin (seO x.S h (srt (ob x.S h))) (quH x h).S ∧ (quH x h).Roots = x.Roots ∧ (quH x h).Cells = x.Cells ∧ (quH x h).T = x.T ∧ (quH x h).Q = ⟨x.Q.L ++ [qtk x h], x.Q.Cap⟩ := by
 have oko := lv_okO hR hh
 have r1 := seO_sr (o := srt (ob x.S h)) hR hh rfl ⟨oko.s1, oko.s2, oko.st, oko.wk, oko.p1, oko.p2, oko.fl⟩
 refine ⟨stO_kin (x := ⟨seO x.S h (srt (ob x.S h)), x.Roots, x.Cells, x.T, ⟨x.Q.L ++ [qtk x h], x.Q.Cap⟩⟩) r1 h fun c => incN_nn, ?_⟩
 have e : quH x h = wS ⟨seO x.S h (srt (ob x.S h)), x.Roots, x.Cells, x.T, ⟨x.Q.L ++ [qtk x h], x.Q.Cap⟩⟩ (quH x h).S := rtn_eq _ h
 rw [e]
 exact ⟨rfl, rfl, rfl, rfl⟩
theorem quH_lv : lv (quH x h).S = lv x.S := by
 have oko := lv_okO hR hh
 exact (quH_kin hR hh).1.lv.trans (seO_lv (o := srt (ob x.S h)) hR hh rfl ⟨oko.s1, oko.s2, oko.st, oko.wk, oko.p1, oko.p2, oko.fl⟩)
theorem quH_ob {k : Int} (hk : k ∈ lv x.S) : ∃ n, ob (quH x h).S k = stg (if k = h then srt (ob x.S h) else ob x.S k) n := by
 have oko := lv_okO hR hh
 have hr := lv_rng hR hk
 obtain ⟨n, e⟩ := (quH_kin hR hh).1.ob k (by omega)
 refine ⟨n, ?_⟩
 rw [e, seO_ob (o := srt (ob x.S h)) hR hh rfl ⟨oko.s1, oko.s2, oko.st, oko.wk, oko.p1, oko.p2, oko.fl⟩ (by omega)]
end
noncomputable def mu (x : Hp) : Nat := (lv x.S).length + ((lv x.S).filter fun h => !(ob x.S h).Started).length
theorem mu_le {x : Hp} (hR : SR x.S) : mu x ≤ 48 := by
 have h1 : (lv x.S).length ≤ 24 := lv_len (rt_iff.2 hR)
 have h2 : ((lv x.S).filter fun h => !(ob x.S h).Started).length ≤ (lv x.S).length := List.length_filter_le ..
 unfold mu
 omega
theorem stp_mu {x : Hp} (hx : HpR x) (h : zr x ≠ []) : mu (stp x) < mu x := by
 cases hz : zr x with
 | nil => exact absurd hz h
 | cons z l =>
  have hzm : z ∈ zr x := by rw [hz]; exact List.mem_cons_self ..
  have hzl := (zr_mem.1 hzm).1
  have hR := hx.sh.sr
  rw [stp_cons hz]
  split
  ·rename_i q
   unfold due at q
   rw [Bool.and_eq_true, decide_eq_true_iff, Bool.not_eq_true'] at q
   unfold mu
   rw [quH_lv hR hzl]
   have := filter_lt (p := fun h => !(ob (quH x z).S h).Started) (q := fun h => !(ob x.S h).Started) (l := lv x.S) (fun k hk hp => by
    obtain ⟨n, e⟩ := quH_ob hR hzl hk
    rw [e] at hp
    split at hp
    ·exact absurd hp (by simp)
    ·exact hp) z hzl (by rw [q.2]; rfl) (by
    obtain ⟨n, e⟩ := quH_ob hR hzl hzl
    rw [e, if_pos rfl]
    rfl)
   omega
  ·unfold mu
   have hn : ([z] : List Int).Nodup := by simp
   have hm : ∀ d ∈ [z], d ∈ lv x.S := by simpa using hzl
   rw [buH_lv hR hn hm, List.filter_filter]
   have h1 : ((lv x.S).filter fun h => decide (h ∉ [z])).length < ((lv x.S).filter fun _ => true).length := filter_lt (fun _ _ _ => rfl) z hzl rfl (by simp)
   rw [List.filter_eq_self.2 (fun _ _ => rfl)] at h1
   have h2 : ((lv x.S).filter fun a => (!(ob (buH x [z]).S a).Started) && decide (a ∉ [z])).length ≤ ((lv x.S).filter fun h => !(ob x.S h).Started).length := by
    rw [← List.countP_eq_length_filter, ← List.countP_eq_length_filter]
    refine List.countP_mono_left fun a ha hp => ?_
    rw [Bool.and_eq_true, decide_eq_true_iff] at hp
    obtain ⟨n, e⟩ := buH_ob hR hn hm ha hp.2
    rw [e] at hp
    exact hp.1
   omega
noncomputable def setl (x : Hp) : Hp := stN 100 x
theorem setl_road {x : Hp} (hx : HpR x) : ∃ n, n ≤ 48 ∧ zr (stN n x) = [] ∧ (∀ j, j < n → zr (stN j x) ≠ []) ∧ setl x = stN n x := by
 have key : ∀ m, (∃ n, n ≤ m ∧ zr (stN n x) = []) ∨ mu (stN m x) + m ≤ mu x := by
  intro m
  induction m with
  | zero => exact .inr (Nat.le_refl _)
  | succ m ih =>
   rcases ih with ⟨n, h1, h2⟩ | ih
   ·exact .inl ⟨n, by omega, h2⟩
   ·by_cases q : zr (stN m x) = []
    ·exact .inl ⟨m, by omega, q⟩
    ·have := stp_mu (stN_right hx m) q
     rw [← stN_succ] at this
     exact .inr (by omega)
 have h48 := mu_le hx.sh.sr
 have hex : ∃ n, n ≤ 48 ∧ zr (stN n x) = [] := by
  rcases key 49 with ⟨n, h1, h2⟩ | h
  ·rcases Nat.lt_or_ge n 49 with q | q
   ·exact ⟨n, by omega, h2⟩
   ·rcases key 48 with h | h
    ·exact h
    ·have : mu (stN 48 x) = 0 := by omega
     refine ⟨48, Nat.le_refl _, ?_⟩
     have hl : (lv (stN 48 x).S).length = 0 := by unfold mu at this; omega
     unfold zr
     rw [List.eq_nil_of_length_eq_zero hl]
     rfl
  ·omega
 obtain ⟨n, ⟨hn, hz⟩, hmin⟩ := exists_min hex
 refine ⟨n, hn, hz, fun j hj q => ?_, ?_⟩
 ·have := hmin j ⟨by omega, q⟩
  omega
 ·have : ∀ k, stN (n + k) x = stN n x := fun k => by
   induction k with
   | zero => rfl
   | succ k ih => rw [show n + (k + 1) = (n + k) + 1 by omega, stN_succ, ih, stp_nil hz]
  have h100 := this (100 - n)
  rw [show n + (100 - n) = 100 by omega] at h100
  exact h100
theorem setl_right {x : Hp} (hx : HpR x) : HpR (setl x) := stN_right hx 100
theorem setl_nil {x : Hp} (h : zr x = []) : setl x = x := by
 have : ∀ n, stN n x = x := fun n => by
  induction n with
  | zero => rfl
  | succ n ih => rw [stN_succ, ih, stp_nil h]
 exact this 100
end Go.Sh
set_option linter.unusedSectionVars false
namespace Go.Sh
set_option linter.unusedVariables false
set_option linter.unusedSimpArgs false
section
variable {x : Hp} (hR : SR x.S)
include hR
theorem lv_mx {h : Int} (hh : h ∈ lv x.S) : h ≤ 9223372036854775807 := by have := lv_rng hR hh; omega
theorem get_lv {h : Int} (hh : h ∈ lv x.S) : store_Get x.S h = some (ob x.S h, 0) := by
 obtain ⟨e, h1, h2⟩ := get_ob (rt_iff.2 hR) (lv_mx hR hh)
 rw [h1, h2.2 hh]
theorem get_lv06 {h : Int} (hh : h ∈ lv x.S) : r06_Get (sO x.S) h = some (oo (ob x.S h), 0) := by
 have := hR.len
 rw [get06 x.S (by omega) (lv_mx hR hh), get_lv hR hh]
 rfl
theorem zero_eq : settle_Zero x = some (zr x) := by
 have h24 : (lv x.S).length ≤ 24 := lv_len (rt_iff.2 hR)
 unfold settle_Zero
 simp only [jn]
 rw [lv_live (rt_iff.2 hR), Option.bind_some]
 rw [lp_foldl (lv x.S) (fun b h => if (ob x.S h).Strong == 0 then b ++ [h] else b) id (fun k b => b.length ≤ k) (by omega) (Nat.le_refl _) (fun k hk b hb => ?_) (fun b hb => by simp)]
 ·rw [foldl_filter]
  rfl
 ·simp only [Int.ofNat_lt, hk, decide_true, if_true, ix_at hk, Option.bind_some, get_lv hR (List.getElem_mem hk)]
  by_cases c : ((ob x.S (lv x.S)[k]).Strong == 0) = true
  ·rw [if_pos c, if_pos c, app_ok (by omega) (by simp; omega), Option.bind_some, w64_nat]
   exact ⟨rfl, by simp; omega⟩
  ·rw [if_neg c, if_neg c, w64_nat]
   exact ⟨rfl, by omega⟩
theorem zero16 : r16_Zero (hO x) = some (zr x) := by
 have h24 : (lv x.S).length ≤ 24 := lv_len (rt_iff.2 hR)
 unfold r16_Zero
 simp only [jn]
 rw [show (hO x).S = sO x.S from rfl, live06 (rt_iff.2 hR), Option.bind_some]
 rw [lp_foldl (lv x.S) (fun b h => if (ob x.S h).Strong == 0 then b ++ [h] else b) id (fun k b => b.length ≤ k) (by omega) (Nat.le_refl _) (fun k hk b hb => ?_) (fun b hb => by simp)]
 ·rw [foldl_filter]
  rfl
 ·simp only [Int.ofNat_lt, hk, decide_true, if_true, ix_at hk, Option.bind_some, get_lv06 hR (List.getElem_mem hk)]
  by_cases c : ((ob x.S (lv x.S)[k]).Strong == 0) = true
  ·rw [show ((oo (ob x.S (lv x.S)[k])).Strong == 0) = true from c, if_pos rfl, if_pos c, app_ok (by omega) (by simp; omega), Option.bind_some, w64_nat]
   exact ⟨rfl, by simp; omega⟩
  ·rw [if_neg (show ¬ ((oo (ob x.S (lv x.S)[k])).Strong == 0) = true from c), if_neg c, w64_nat]
   exact ⟨rfl, by omega⟩
theorem settled_eq : settle_Settled x = some (decide (zr x = [])) := by
 unfold settle_Settled
 rw [zero_eq hR, Option.bind_some]
 congr 1
 cases zr x <;> simp
 omega
theorem settled16 : r16_Settled (hO x) = some (decide (zr x = [])) := by
 unfold r16_Settled
 rw [zero16 hR, Option.bind_some]
 congr 1
 cases zr x <;> simp
 omega
end
noncomputable def quD (x : Hp) (h : Int) : Hp := if h ∈ lv x.S ∧ due (ob x.S h) = true then quH x h else x
theorem srt_okO {s : store_Store} (hR : SR s) {h : Int} (hl : h ∈ lv s) : OkO s (srt (ob s h)) := by
 have oko := lv_okO hR hl
 exact ⟨oko.s1, oko.s2, oko.st, oko.wk, oko.p1, oko.p2, oko.fl⟩
theorem owes_eq (o : store_Obj) : settle_owesRun o = some (due o) := by
 unfold settle_owesRun due
 congr 1
section
variable {x : Hp} (hx : HpR x) (hS : SL x) {h : Int} (hh : h ≤ 9223372036854775807)
include hx hS hh
theorem queue_room (hl : h ∈ lv x.S) (hd : due (ob x.S h) = true) : x.Q.L.length < 30 := by
 have hb : 0 ≤ (ob x.S h).Prog ∧ (ob x.S h).Started = false := by
  unfold due at hd
  rw [Bool.and_eq_true, decide_eq_true_iff, Bool.not_eq_true'] at hd
  exact hd
 have := (quH_right hx hl hb.1 hb.2).sh.q30
 rw [(quH_kin hx.sh.sr hl).2.2.2.2] at this
 simp at this
 omega
theorem queued_eq : settle_Queued x h = some (quD x h) := by
 have hR := hx.sh.sr
 have cap := hx.sh.cap
 obtain ⟨e, h1, h2⟩ := get_ob (rt_iff.2 hR) hh
 unfold settle_Queued quD
 rw [h1, Option.bind_some]
 by_cases hl : h ∈ lv x.S
 ·have e0 : e = 0 := h2.2 hl
  subst e0
  have e1 : (((0 : Int) != 0) == false) = true := rfl
  simp only [e1, onlyT, owes_eq, Option.bind_some]
  cases hd : due (ob x.S h)
  ·rw [if_pos (by simp), if_neg (by simp)]
  ·rw [if_neg (by simp), if_pos ⟨hl, rfl⟩]
   have hr := queue_room hx hS hh hl hd
   have hok := srt_okO hR hl
   have l1 := seO_lv (o := srt (ob x.S h)) hR hl rfl hok
   have r1 := seO_sr (o := srt (ob x.S h)) hR hl rfl hok
   rw [seO_set (o := srt (ob x.S h)) hR hl rfl hok, Option.bind_some, t_add _ (by omega), Option.bind_some]
   have et : tad x.Q ⟨1, h, (ob x.S h).Prog⟩ = (⟨x.Q.L ++ [qtk x h], x.Q.Cap⟩, 0) := by
    unfold tad
    rw [if_neg (by omega)]
   rw [et]
   dsimp only
   rw [retain_eq r1 hh (fun k hk => ?_), Option.bind_some]
   ·rfl
   ·dsimp only at hk ⊢
    rw [l1] at hk
    rw [seO_ob (o := srt (ob x.S h)) hR hl rfl hok (lv_mx hR hk)]
    split
    ·exact hS h hl
    ·exact hS k hk
 ·have e0 : e ≠ 0 := fun q => hl (h2.1 q)
  have e1 : (e != 0) = true := by simpa using e0
  rw [e1]
  simp only [show ((true == false) = true) = False by simp, onlyIf, if_false, Option.bind_some, Bool.true_or, if_true]
  rw [if_neg (fun q => hl q.1)]
theorem due16 : r16_Due (hO x) h = some (decide (h ∈ lv x.S) && due (ob x.S h)) := by
 have hR := hx.sh.sr
 have hlen := hR.len
 obtain ⟨e, h1, h2⟩ := get_ob (rt_iff.2 hR) hh
 unfold r16_Due
 rw [show (hO x).S = sO x.S from rfl, get06 x.S (by omega) hh, h1, Option.map_some, Option.bind_some, lives15 hR hh, Option.bind_some]
 unfold due oo
 rw [Bool.and_assoc]
theorem queued16 : r16_Queued (hO x) h = some (hO (quD x h)) := by
 have hR := hx.sh.sr
 have cap := hx.sh.cap
 unfold r16_Queued quD
 rw [due16 hx hS hh, Option.bind_some]
 by_cases hl : h ∈ lv x.S
 ·rw [decide_eq_true hl, Bool.true_and]
  cases hd : due (ob x.S h)
  ·rw [if_pos (by simp), if_neg (by simp)]
  ·rw [if_neg (by simp), if_pos ⟨hl, rfl⟩]
   have hr := queue_room hx hS hh hl hd
   have hok := srt_okO hR hl
   have l1 := seO_lv (o := srt (ob x.S h)) hR hl rfl hok
   have r1 := seO_sr (o := srt (ob x.S h)) hR hl rfl hok
   rw [show (hO x).S = sO x.S from rfl, get_lv06 hR hl, Option.bind_some]
   have es : r06_Set (sO x.S) h (oo (srt (ob x.S h))) = some (sO (seO x.S h (srt (ob x.S h))), 0) := set_ref hR hl rfl hok
   have es' : r06_Set (sO x.S) h ⟨(oo (ob x.S h)).Serial, (oo (ob x.S h)).Strong, (oo (ob x.S h)).Weak, (oo (ob x.S h)).Prog, true, (oo (ob x.S h)).Fields⟩ = some (sO (seO x.S h (srt (ob x.S h))), 0) := es
   rw [es', Option.bind_some]
   have ea : r14_Add (hO x).Q ⟨1, h, (oo (ob x.S h)).Prog⟩ = some (tqR ⟨x.Q.L ++ [qtk x h], x.Q.Cap⟩, 0) := by
    have := r_add (q := x.Q) (qtk x h) (by omega)
    have et : tad x.Q (qtk x h) = (⟨x.Q.L ++ [qtk x h], x.Q.Cap⟩, 0) := by
     unfold tad
     rw [if_neg (by omega)]
    rw [et] at this
    exact this
   rw [ea, Option.bind_some]
   have er := retain15 (x := ⟨seO x.S h (srt (ob x.S h)), x.Roots, x.Cells, x.T, ⟨x.Q.L ++ [qtk x h], x.Q.Cap⟩⟩) r1 hh (fun k hk => by
    dsimp only at hk ⊢
    rw [l1] at hk
    rw [seO_ob (o := srt (ob x.S h)) hR hl rfl hok (lv_mx hR hk)]
    split
    ·exact hS h hl
    ·exact hS k hk)
   have er' : r15_Retain ⟨sO (seO x.S h (srt (ob x.S h))), (hO x).Roots, (hO x).Cells, (hO x).T, tqR ⟨x.Q.L ++ [qtk x h], x.Q.Cap⟩⟩ h = _ := er
   dsimp only
   rw [er', Option.bind_some]
   rfl
 ·rw [decide_eq_false hl, Bool.false_and]
  rw [if_pos (by simp), if_neg (fun q => hl q.1)]
end
noncomputable def lvo (x : Hp) (l : List Int) : List Int := l.foldl (fun b h => if h ∈ lv x.S ∧ h ∉ b then b ++ [h] else b) []
theorem lvo_self {x : Hp} {z : Int} (hz : z ∈ lv x.S) : lvo x [z] = [z] := by
 unfold lvo
 simp [hz]
section
variable {x : Hp} (hR : SR x.S)
include hR
theorem livesOnce_eq (l : List Int) (hl : l.length ≤ 1000) (hb : ∀ h ∈ l, h ≤ 9223372036854775807) : settle_livesOnce x l = some (lvo x l) := by
 unfold settle_livesOnce
 simp only [jn]
 have key := lp_foldl (f := fun ((s20, s21, s22) : Int × (List (Int × Bool)) × (List Int)) =>
   if (decide (s20 < (l.length : Int))) then
     (ix l s20).bind fun v32 =>
     (store_Get x.S v32).bind fun v33 =>
     if ((v33.2 == 0) == true) then
      if (!((mget s21 v32).getD (false : Bool))) then
       (app 8 s22 [v32]).bind fun v34 =>
       some (Sum.inl (w64 (s20 + 1), (mput s21 v32 true), v34))
      else
      some (.inl (w64 (s20 + 1), s21, s22))
     else
     some (.inl (w64 (s20 + 1), s21, s22))
   else
   some (.inr s22)) l (fun (b : List (Int × Bool) × List Int) h => if h ∈ lv x.S ∧ h ∉ b.2 then (mput b.1 h true, b.2 ++ [h]) else b) (fun b => b.2) (fun k b => b.2.length ≤ k ∧ ∀ d, (mget b.1 d).getD false = decide (d ∈ b.2)) (b0 := ([], [])) (by omega) ⟨Nat.le_refl _, fun d => by simp [mget]⟩ (fun k hk b hb2 => ?_) (fun b hb2 => by simp)
 ·rw [key, Option.bind_some]
  congr 1
  have : ∀ (l : List Int) (m : List (Int × Bool)) (b : List Int), (l.foldl (fun (b : List (Int × Bool) × List Int) h => if h ∈ lv x.S ∧ h ∉ b.2 then (mput b.1 h true, b.2 ++ [h]) else b) (m, b)).2 = l.foldl (fun b h => if h ∈ lv x.S ∧ h ∉ b then b ++ [h] else b) b := fun l => by
   induction l with
   | nil => intro m b; rfl
   | cons h l ih =>
    intro m b
    rw [List.foldl_cons, List.foldl_cons]
    by_cases c : h ∈ lv x.S ∧ h ∉ b
    ·rw [if_pos c, if_pos c, ih]
    ·rw [if_neg c, if_neg c, ih]
  exact this l [] []
 ·obtain ⟨hb1, hb3⟩ := hb2
  obtain ⟨e, h1, h2⟩ := get_ob (rt_iff.2 hR) (hb _ (List.getElem_mem hk))
  simp only [Int.ofNat_lt, hk, decide_true, if_true, ix_at hk, Option.bind_some, h1, hb3]
  by_cases hl : l[k] ∈ lv x.S
  ·have e0 : e = 0 := h2.2 hl
   subst e0
   by_cases hm : l[k] ∈ b.2
   ·rw [if_pos (by rfl), if_neg (by simp [hm]), if_neg (fun q => q.2 hm), w64_nat]
    exact ⟨rfl, by omega, hb3⟩
   ·rw [if_pos (by rfl), if_pos (by simp [hm]), if_pos ⟨hl, hm⟩, app_ok (by omega) (by simp; omega), Option.bind_some, w64_nat]
    refine ⟨rfl, by simp; omega, fun d => ?_⟩
    rw [mget_mput]
    by_cases q : d = l[k]
    ·rw [if_pos q]
     simp [q]
    ·rw [if_neg q, hb3]
     simp [q]
  ·have e0 : e ≠ 0 := fun q => hl (h2.1 q)
   rw [if_neg (by simp [e0]), if_neg (fun q => hl q.1), w64_nat]
   exact ⟨rfl, by omega, hb3⟩
theorem each16 (l : List Int) (hl : l.length ≤ 1000) (hb : ∀ h ∈ l, h ≤ 9223372036854775807) : r16_each (hO x) l = some (lvo x l) := by
 unfold r16_each
 simp only [jn]
 rw [lp_foldl l (fun b h => if h ∈ lv x.S ∧ h ∉ b then b ++ [h] else b) id (fun k b => b.length ≤ k) (by omega) (Nat.le_refl _) (fun k hk b hb2 => ?_) (fun b hb => by simp)]
 ·rfl
 ·simp only [Int.ofNat_lt, hk, decide_true, if_true, ix_at hk, Option.bind_some, lives15 hR (hb _ (List.getElem_mem hk))]
  by_cases hl : l[k] ∈ lv x.S
  ·have h0 : l[k] ≠ 0 := fun e => lv_0 hR (e ▸ hl)
   rw [decide_eq_true hl]
   simp only [beq_self_eq_true, onlyT, has08_eq b _ (by omega : b.length ≤ 1000000), Option.bind_some, Bool.true_and]
   by_cases hm : l[k] ∈ b
   ·rw [if_neg (by simp [hm, h0]), if_neg (fun q => q.2 hm), w64_nat]
    exact ⟨rfl, by omega⟩
   ·rw [if_pos (by simp [hm]), if_pos ⟨hl, hm⟩, app_ok (by omega) (by simp; omega), Option.bind_some, w64_nat]
    exact ⟨rfl, by simp; omega⟩
  ·rw [decide_eq_false hl]
   simp only [show ((false == true) = true) = False by simp, onlyIf, if_false, Option.bind_some, Bool.false_and]
   rw [if_neg (by simp), if_neg (fun q => hl q.1), w64_nat]
   exact ⟨rfl, by omega⟩
end
end Go.Sh
set_option linter.unusedSectionVars false
namespace Go.Sh
set_option linter.unusedVariables false
set_option linter.unusedSimpArgs false
theorem foldl_pick {α β : Type} (p : α → Bool) (f : α → β) : ∀ (xs : List α) (acc : List β), xs.foldl (fun b x => if p x then b ++ [f x] else b) acc = acc ++ (xs.filter p).map f
 | [], acc => by simp
 | x :: xs, acc => by
  rw [List.foldl_cons, foldl_pick p f xs]
  by_cases h : p x = true
  ·simp [h]
  ·simp [h]
theorem getD_at {α : Type} {l : List α} {i : Nat} (h : i < l.length) (d : α) : l.getD i d = l[i] := by
 rw [List.getD_eq_getElem?_getD, List.getElem?_eq_getElem h]; rfl
theorem clear1_eq (c : weak_Cell) (ds : List Int) (hl : ds.length ≤ 1000) : weak_Clear_1 c ds = some (hitB ds c) := by
 unfold weak_Clear_1 hitB
 rw [contains_eq _ _ (by omega)]
 cases (c.Intact && c.Target != 0)
 ·rfl
 ·simp [onlyIf]
def pks (l : List weak_Cell) (ds : List Int) : List Nat := (List.range l.length).filter fun w => hitB ds (l.getD w cz)
theorem pks_lt {l : List weak_Cell} {ds : List Int} {w : Nat} (h : w ∈ pks l ds) : w < l.length := by
 unfold pks at h
 rw [List.mem_filter, List.mem_range] at h
 exact h.1
theorem pks_len (l : List weak_Cell) (ds : List Int) : (pks l ds).length ≤ l.length := by
 unfold pks
 exact Nat.le_trans (List.length_filter_le ..) (by simp)
theorem pks_nd (l : List weak_Cell) (ds : List Int) : (pks l ds).Nodup := List.Pairwise.filter _ List.nodup_range
theorem cls_pks (l : List weak_Cell) (ds : List Int) : cls l ds = (pks l ds).filter fun w => decide (0 ≤ (l.getD w cz).Call) := by
 unfold cls pks
 rw [List.filter_filter]
 refine List.filter_congr fun w _ => ?_
 rw [Bool.and_comm]
def intN (l : List Nat) : List Int := l.map fun (n : Nat) => (n : Int)
theorem intN_at {l : List Nat} {k : Nat} (h : k < l.length) : ix (intN l) (k : Int) = some ((l[k] : Nat) : Int) := by
 unfold intN
 rw [ix_map', ix_at h]; rfl
theorem intN_len (l : List Nat) : (intN l).length = l.length := List.length_map ..
theorem picked_eq (l : List weak_Cell) (ds : List Int) (hl : l.length ≤ 1000) (hd : ds.length ≤ 1000) : weak_picked__weak_Clear_1 l ds = some (intN (pks l ds)) := by
 unfold weak_picked__weak_Clear_1
 simp only [jn]
 have hr : (List.range l.length).length = l.length := by simp
 have key := lp_foldl (List.range l.length) (fun (b : List Int) (w : Nat) => if hitB ds (l.getD w cz) then b ++ [(w : Int)] else b) id (fun k b => b.length ≤ k) (b0 := []) (f := fun ((s17, s18) : Int × (List Int)) =>
   if (decide (s17 < (l.length : Int))) then
     (ix l s17).bind fun v26 =>
     (weak_Clear_1 v26 ds).bind fun v27 =>
     if v27 then
      (app 8 s18 [s17]).bind fun v28 =>
      some (Sum.inl (w64 (s17 + 1), v28))
     else
     some (.inl (w64 (s17 + 1), s18))
   else
   some (.inr s18)) (by omega) (Nat.le_refl _) (fun k hk b hb => ?_) (fun b hb => by simp)
 ·rw [key, foldl_pick]
  rfl
 ·rw [hr] at hk
  simp only [Int.ofNat_lt, hk, decide_true, if_true, ix_at hk, Option.bind_some, clear1_eq _ _ hd, List.getElem_range, getD_at hk]
  by_cases c : hitB ds l[k] = true
  ·rw [if_pos c, if_pos c, app_ok (by omega) (by simp; omega), Option.bind_some, w64_nat]
   exact ⟨rfl, by simp; omega⟩
  ·rw [if_neg c, if_neg c, w64_nat]
   exact ⟨rfl, by omega⟩
theorem copied_eq (l : List weak_Cell) (hl : l.length ≤ 1000) : weak_copied l = some l := by
 unfold weak_copied
 rw [mk_ok (by omega) (by omega), Option.bind_some]
 unfold cpy
 rw [if_pos (by simp), Option.bind_some]
 simp
def clrK (l : List weak_Cell) (K : List Nat) : List weak_Cell := (List.range l.length).map fun i => if i ∈ K then ⟨(l.getD i cz).Target, false, (l.getD i cz).Call⟩ else l.getD i cz
theorem clrK_len (l : List weak_Cell) (K : List Nat) : (clrK l K).length = l.length := by simp [clrK]
theorem clrK_at {l : List weak_Cell} {K : List Nat} {i : Nat} (h : i < (clrK l K).length) : (clrK l K)[i] = if i ∈ K then ⟨(l.getD i cz).Target, false, (l.getD i cz).Call⟩ else l.getD i cz := by simp [clrK]
theorem clrK_nil (l : List weak_Cell) : clrK l [] = l := by
 refine List.ext_getElem (clrK_len ..) fun i h1 h2 => ?_
 rw [clrK_at, if_neg (by simp), getD_at h2]
theorem clrK_snoc {l : List weak_Cell} {K : List Nat} {w : Nat} (hw : w < l.length) : clrK l (K ++ [w]) = (clrK l K).set w ⟨(l.getD w cz).Target, false, (l.getD w cz).Call⟩ := by
 refine List.ext_getElem (by rw [List.length_set, clrK_len, clrK_len]) fun i h1 h2 => ?_
 rw [clrK_at, List.getElem_set]
 by_cases e : w = i
 ·subst e
  rw [if_pos rfl, if_pos (by simp)]
 ·rw [if_neg e, clrK_at]
  by_cases q : i ∈ K
  ·rw [if_pos (List.mem_append_left _ q), if_pos q]
  ·rw [if_neg, if_neg q]
   rw [List.mem_append, List.mem_singleton]
   exact fun q2 => q2.elim q fun q3 => e q3.symm
theorem clrK_all (l : List weak_Cell) (ds : List Int) : clrK l (pks l ds) = clr l ds := by
 refine List.ext_getElem (by rw [clrK_len]; simp [clr]) fun i h1 h2 => ?_
 have hi : i < l.length := by rw [clrK_len] at h1; exact h1
 have ec : (clr l ds)[i] = clrC ds l[i] := List.getElem_map _
 rw [clrK_at, ec, getD_at hi]
 unfold clrC
 by_cases c : hitB ds l[i] = true
 ·rw [if_pos c, if_pos]
  unfold pks
  rw [List.mem_filter, List.mem_range, getD_at hi]
  exact ⟨hi, c⟩
 ·rw [if_neg c, if_neg]
  unfold pks
  rw [List.mem_filter, List.mem_range, getD_at hi]
  exact fun q => c q.2
theorem take_snoc {α : Type} {l : List α} {k : Nat} (h : k < l.length) : l.take (k + 1) = l.take k ++ [l[k]] := List.take_succ_eq_append_getElem h
theorem clear_eq (l : List weak_Cell) (ds : List Int) (hl : l.length ≤ 1000) (hd : ds.length ≤ 1000) : weak_Clear l ds = some (clr l ds, intN (cls l ds)) := by
 unfold weak_Clear
 rw [picked_eq l ds hl hd, Option.bind_some, copied_eq l hl, Option.bind_some]
 simp only [jn, intN_len]
 have hp := pks_len l ds
 refine lpb_upS (pks l ds).length (fun k (b : List weak_Cell × List Int) => b.1 = clrK l ((pks l ds).take k) ∧ b.2 = intN (((pks l ds).take k).filter fun w => decide (0 ≤ (l.getD w cz).Call))) (by omega) ⟨by simp [clrK_nil], by simp [intN]⟩ ?_ ?_
 ·rintro k ⟨b1, b2⟩ hk ⟨rfl, rfl⟩
  left
  have hw := pks_lt (List.getElem_mem hk)
  have hnm : (pks l ds)[k] ∉ (pks l ds).take k := fun q => by
   have hn := pks_nd l ds
   rw [← List.take_append_drop k (pks l ds), List.nodup_append] at hn
   exact hn.2.2 _ q (pks l ds)[k] (by rw [List.drop_eq_getElem_cons hk]; exact List.mem_cons_self ..) rfl
  have h1 : (pks l ds)[k] < (clrK l ((pks l ds).take k)).length := by rw [clrK_len]; exact hw
  have e1 : ix (clrK l ((pks l ds).take k)) (((pks l ds)[k] : Nat) : Int) = some (l.getD (pks l ds)[k] cz) := by rw [ix_at h1, clrK_at, if_neg hnm]
  have h2 : (pks l ds)[k] < ((clrK l ((pks l ds).take k)).set (pks l ds)[k] ⟨(l.getD (pks l ds)[k] cz).Target, false, (l.getD (pks l ds)[k] cz).Call⟩).length := by rw [List.length_set]; exact h1
  have e2 : ix ((clrK l ((pks l ds).take k)).set (pks l ds)[k] ⟨(l.getD (pks l ds)[k] cz).Target, false, (l.getD (pks l ds)[k] cz).Call⟩) (((pks l ds)[k] : Nat) : Int) = some ⟨(l.getD (pks l ds)[k] cz).Target, false, (l.getD (pks l ds)[k] cz).Call⟩ := by rw [ix_at h2, List.getElem_set_self]
  dsimp only
  simp only [Int.ofNat_lt, hk, decide_true, if_true, intN_at hk, Option.bind_some, e1, Int.toNat_natCast, e2]
  have hle : (intN (((pks l ds).take k).filter fun w => decide (0 ≤ (l.getD w cz).Call))).length ≤ 1000 := by
   rw [intN_len]
   exact Nat.le_trans (List.length_filter_le ..) (by simp; omega)
  rw [take_snoc hk, clrK_snoc hw, List.filter_append]
  by_cases c : 0 ≤ (l.getD (pks l ds)[k] cz).Call
  ·rw [if_pos (decide_eq_true c), app_ok (by omega) (by simp only [List.length_cons, List.length_nil]; omega), Option.bind_some, w64_nat]
   refine ⟨_, rfl, rfl, ?_⟩
   rw [List.filter_cons, if_pos (decide_eq_true c)]
   simp [intN]
  ·rw [if_neg (fun q => c (of_decide_eq_true q)), w64_nat]
   refine ⟨_, rfl, rfl, ?_⟩
   rw [List.filter_cons, if_neg (fun q => c (of_decide_eq_true q))]
   simp [intN]
 ·rintro ⟨b1, b2⟩ ⟨rfl, rfl⟩
  refine ⟨_, if_neg (by simp), ?_⟩
  dsimp only
  rw [List.take_length, clrK_all, ← cls_pks]
theorem hit09 (c : weak_Cell) (ds : List Int) (hd : ds.length ≤ 1000) : ((onlyIf ((wcR c).Intact == true) 0 (r07_Times ds (wcR c).Target)).bind fun v => some ((wcR c).Intact && decide (v > 0))) = some (hitB ds c) := by
 unfold hitB wcR
 dsimp only
 cases hI : c.Intact
 ·rfl
 ·simp only [beq_self_eq_true, onlyT]
  rw [times07_eq _ _ (by omega), Option.bind_some]
  congr 1
  rw [Bool.true_and, Bool.true_and, Bool.eq_iff_iff]
  simp only [decide_eq_true_iff, Bool.and_eq_true, bne_iff_ne]
  have := tms_pos (l := ds) (h := c.Target)
  constructor
  ·intro q
   exact this.1 (by omega)
  ·intro q
   have := this.2 q
   omega
theorem clear09 (l : List weak_Cell) (ds : List Int) (hl : l.length ≤ 1000) (hd : ds.length ≤ 1000) : r09_Clear (l.map wcR) ds = some ((clr l ds).map wcR, intN (cls l ds)) := by
 unfold r09_Clear
 simp only [jn, List.length_map]
 refine lpb_upS l.length (fun k (b : List r09_Cell × List Int) => b.1 = ((clr l ds).take k).map wcR ∧ b.2 = intN ((List.range k).filter fun w => hitB ds (l.getD w cz) && decide (0 ≤ (l.getD w cz).Call))) (by omega) ⟨by simp, by simp [intN]⟩ ?_ ?_
 ·rintro k ⟨b1, b2⟩ hk ⟨rfl, rfl⟩
  left
  have hk2 : k < (clr l ds).length := by simp [clr]; exact hk
  have e1 : ix (l.map wcR) (k : Int) = some (wcR l[k]) := by rw [ix_map', ix_at hk]; rfl
  have hle : (intN ((List.range k).filter fun w => hitB ds (l.getD w cz) && decide (0 ≤ (l.getD w cz).Call))).length ≤ 1000 := by
   rw [intN_len]
   exact Nat.le_trans (List.length_filter_le ..) (by simp; omega)
  dsimp only
  simp only [Int.ofNat_lt, hk, decide_true, if_true, e1, Option.bind_some]
  obtain ⟨v, hv, hv2⟩ := bindE (hit09 l[k] ds hd)
  rw [hv, Option.bind_some]
  have hv2 := Option.some.inj hv2
  rw [hv2, take_snoc hk2, List.map_append, List.range_succ, List.filter_append]
  have ec : (clr l ds)[k] = clrC ds l[k] := List.getElem_map _
  have lc : (List.map wcR (List.take k (clr l ds))).length ≤ 1000 := by simp [clr]; omega
  rw [ec]
  unfold clrC
  by_cases c : hitB ds l[k] = true
  ·rw [if_pos c, if_pos c]
   by_cases c2 : 0 ≤ l[k].Call
   ·rw [if_pos (by simpa [wcR] using c2), app_ok (by omega) (by simp only [List.length_cons, List.length_nil]; omega), Option.bind_some, app_ok (by omega) (by simp only [List.length_cons, List.length_nil]; omega), Option.bind_some, w64_nat]
    refine ⟨_, rfl, rfl, ?_⟩
    simp only [List.filter_cons, List.filter_nil, getD_at hk, c, c2, decide_true, Bool.and_self, if_true]
    simp [intN]
   ·rw [if_neg (by simpa [wcR] using c2), app_ok (by omega) (by simp only [List.length_cons, List.length_nil]; omega), Option.bind_some, w64_nat]
    refine ⟨_, rfl, rfl, ?_⟩
    simp only [List.filter_cons, List.filter_nil, getD_at hk, c, c2, decide_false, Bool.and_false, Bool.false_eq_true, if_false, List.append_nil]
  ·rw [if_neg c, if_neg c, app_ok (by omega) (by simp only [List.length_cons, List.length_nil]; omega), Option.bind_some, w64_nat]
   refine ⟨_, rfl, rfl, ?_⟩
   have c : hitB ds l[k] = false := by simpa using c
   simp only [List.filter_cons, List.filter_nil, getD_at hk, c, Bool.false_and, Bool.false_eq_true, if_false, List.append_nil]
 ·rintro ⟨b1, b2⟩ ⟨rfl, rfl⟩
  refine ⟨_, if_neg (by simp), ?_⟩
  dsimp only
  rw [List.take_of_length_le (by simp [clr])]
  rfl
end Go.Sh
set_option linter.unusedSectionVars false
namespace Go.Sh
set_option linter.unusedVariables false
set_option linter.unusedSimpArgs false
def clH (x : Hp) (ds : List Int) : Hp := ⟨x.S, x.Roots, clr x.Cells ds, x.T, ⟨x.Q.L ++ clt x.Cells ds, x.Q.Cap⟩⟩
theorem clt_len (l : List weak_Cell) (ds : List Int) : (clt l ds).length = (cls l ds).length := List.length_map ..
theorem cls_lt {l : List weak_Cell} {ds : List Int} {w : Nat} (h : w ∈ cls l ds) : w < l.length := by
 unfold cls at h
 rw [List.mem_filter, List.mem_range] at h
 exact h.1
theorem clt_at {l : List weak_Cell} {ds : List Int} {k : Nat} (h : k < (clt l ds).length) : (clt l ds)[k] = ⟨2, (((cls l ds)[k]'(by rw [← clt_len]; exact h) : Nat) : Int), (l.getD ((cls l ds)[k]'(by rw [← clt_len]; exact h)) cz).Call⟩ := List.getElem_map _
theorem clr_call {l : List weak_Cell} {ds : List Int} {w : Nat} (h : w < l.length) : ix (clr l ds) (w : Int) = some (clrC ds l[w]) := by
 unfold clr
 rw [ix_map', ix_at h]; rfl
section
variable {x : Hp} {ds : List Int} (hc : x.Cells.length ≤ 6) (hd : ds.length ≤ 1000) (hq : (x.Q.L ++ clt x.Cells ds).length ≤ 30) (hcap : x.Q.Cap = 30)
include hc hd hq hcap
theorem adds_step {k : Nat} (hk : k < (clt x.Cells ds).length) : tad ⟨x.Q.L ++ (clt x.Cells ds).take k, x.Q.Cap⟩ (clt x.Cells ds)[k] = (⟨x.Q.L ++ (clt x.Cells ds).take (k + 1), x.Q.Cap⟩, 0) := by
 rw [List.length_append] at hq
 unfold tad
 rw [if_neg (by dsimp only; rw [List.length_append, List.length_take, hcap]; omega), take_snoc hk, List.append_assoc]
theorem cleared_eq : settle_cleared x ds = some (clH x ds) := by
 unfold settle_cleared
 rw [clear_eq _ _ (by omega) hd, Option.bind_some]
 dsimp only
 simp only [jn, intN_len]
 have hq2 := hq
 rw [List.length_append] at hq2
 refine lpb_upS (cls x.Cells ds).length (fun k (q : TQ) => q = ⟨x.Q.L ++ (clt x.Cells ds).take k, x.Q.Cap⟩) (by rw [← clt_len]; omega) (by simp) ?_ ?_
 ·rintro k q hk rfl
  left
  have hw := cls_lt (List.getElem_mem hk)
  have hk2 : k < (clt x.Cells ds).length := by rw [clt_len]; exact hk
  simp only [Int.ofNat_lt, hk, decide_true, if_true, intN_at hk, Option.bind_some, clr_call hw]
  have et : (⟨2, (((cls x.Cells ds)[k] : Nat) : Int), (clrC ds x.Cells[(cls x.Cells ds)[k]]).Call⟩ : task_Task) = (clt x.Cells ds)[k] := by
   rw [clt_at, (clrC_t ds _).2.1, getD_at hw]
  rw [et, t_add _ (by dsimp only; rw [List.length_append, List.length_take]; omega), adds_step hc hd hq hcap hk2, Option.bind_some, w64_nat (by rw [← clt_len] at hk; omega)]
  exact ⟨_, rfl, rfl⟩
 ·rintro q rfl
  refine ⟨_, if_neg (by simp), ?_⟩
  rw [← clt_len, List.take_length]
  rfl
theorem adds16 {K : r14_Queue → Option r15_Heap} : ((lp (S := Int × r14_Queue) (E := r14_Queue) (fun ((s68, s69) : Int × r14_Queue) =>
   if (decide (s68 < ((intN (cls x.Cells ds)).length : Int))) then
    (ix (intN (cls x.Cells ds)) s68).bind fun v72 =>
    (ix ((clr x.Cells ds).map wcR) v72).bind fun v73 =>
    (r14_Add s69 (⟨2, v72, v73.Call⟩ : r14_Task)).bind fun v74 =>
    some (.inl (w64 (s68 + 1), v74.1))
   else
   some (.inr s69)) (0, tqR x.Q)).bind K) = K (tqR (clH x ds).Q) := by
 have hq2 := hq
 rw [List.length_append] at hq2
 have key := lp_upS (f := fun ((s68, s69) : Int × r14_Queue) =>
   if (decide (s68 < ((intN (cls x.Cells ds)).length : Int))) then
    (ix (intN (cls x.Cells ds)) s68).bind fun v72 =>
    (ix ((clr x.Cells ds).map wcR) v72).bind fun v73 =>
    (r14_Add s69 (⟨2, v72, v73.Call⟩ : r14_Task)).bind fun v74 =>
    some (Sum.inl (w64 (s68 + 1), v74.1))
   else
   some (.inr s69)) (t0 := tqR x.Q) (cls x.Cells ds).length (fun k (q : r14_Queue) => q = tqR ⟨x.Q.L ++ (clt x.Cells ds).take k, x.Q.Cap⟩) (fun q => q = tqR (clH x ds).Q) (by rw [← clt_len]; omega) (by simp) ?_ ?_
 ·obtain ⟨e, h1, h2⟩ := key
  rw [h1, Option.bind_some, h2]
 ·rintro k q hk rfl
  left
  have hw := cls_lt (List.getElem_mem hk)
  have hk2 : k < (clt x.Cells ds).length := by rw [clt_len]; exact hk
  have ei : ix ((clr x.Cells ds).map wcR) (((cls x.Cells ds)[k] : Nat) : Int) = some (wcR (clrC ds x.Cells[(cls x.Cells ds)[k]])) := by rw [ix_map', clr_call hw]; rfl
  simp only [intN_len, Int.ofNat_lt, hk, decide_true, if_true, intN_at hk, Option.bind_some, ei]
  have et : (⟨2, (((cls x.Cells ds)[k] : Nat) : Int), (wcR (clrC ds x.Cells[(cls x.Cells ds)[k]])).Call⟩ : r14_Task) = tkR (clt x.Cells ds)[k] := by
   rw [clt_at, getD_at hw]
   show (⟨2, _, (clrC ds x.Cells[(cls x.Cells ds)[k]]).Call⟩ : r14_Task) = _
   rw [(clrC_t ds _).2.1]
   rfl
  rw [et, r_add _ (by dsimp only; rw [List.length_append, List.length_take]; omega), adds_step hc hd hq hcap hk2, Option.bind_some, w64_nat (by rw [← clt_len] at hk; omega)]
  exact ⟨_, rfl, rfl⟩
 ·rintro q rfl
  refine ⟨_, if_neg (by rw [intN_len]; simp), ?_⟩
  rw [← clt_len, List.take_length]
  rfl
end
theorem setC_setC (s : store_Store) (i : Nat) (c d : slab_Cell_store_Obj) : setC (setC s i c) i d = setC s i d := by
 unfold setC
 dsimp only
 rw [List.set_set]
section
variable {s : store_Store} (hR : SR s) {d : Int} (hd : d ∈ lv s)
include hR hd
def k1 (s : store_Store) (d : Int) : store_Store := setC s (pls d) ⟨1, (ce s (pls d)).Gen, ded (ob s d)⟩
def k2 (s : store_Store) (d : Int) : store_Store := setC s (pls d) ⟨2, (ce s (pls d)).Gen, ded (ob s d)⟩
theorem ded_ok : OkO s (ded (ob s d)) := by
 have ho := lv_okO hR hd
 exact ⟨ho.s1, ho.s2, Int.le_refl _, ho.wk, ho.p1, ho.p2, Nat.zero_le _⟩
theorem k1_seO : seO s d (ded (ob s d)) = k1 s d := by
 have q := lv_place hR hd
 unfold seO putAt k1 setC
 rw [q.2.1]
theorem k1_at : At (k1 s d) d (pls d) := by
 have q := lv_place hR hd
 refine ⟨by unfold k1; rw [setC_len]; exact q.1, ?_, ?_⟩
 ·unfold k1; rw [ce_setC q.1, if_pos rfl]
 ·unfold k1; rw [ce_setC q.1, if_pos rfl]; exact q.2.2
theorem k1_sr : SR (k1 s d) := by rw [← k1_seO hR hd]; exact seO_sr (o := ded (ob s d)) hR hd rfl (ded_ok hR hd)
theorem k2_sr : SR (k2 s d) := by
 have q := lv_place hR hd
 have hc := hR.cell _ q.1
 unfold k2
 refine hR.setC q.1 ⟨by simp, by simp, hc.2.2.1, hc.2.2.2⟩ (fun q => absurd (.inr rfl) q) (fun _ => ⟨ded_ok hR hd, .inl q.2.1, ?_⟩)
 show (ob s d).Serial = _
 rw [at_ob hR q]
theorem k2_at : AtD (k2 s d) d (pls d) := by
 have q := lv_place hR hd
 refine ⟨by unfold k2; rw [setC_len]; exact q.1, ?_, ?_⟩
 ·unfold k2; rw [ce_setC q.1, if_pos rfl]; exact .inr rfl
 ·unfold k2; rw [ce_setC q.1, if_pos rfl]; exact q.2.2
theorem kill_eq : slab_Kill_store_Obj (k1 s d).S d = some ((k2 s d).S, 0) := by
 have q := lv_place hR hd
 have hR1 := k1_sr hR hd
 have q1 := k1_at hR hd
 have hr := lv_rng hR hd
 have hlen := hR1.len
 have hH : Hnd d := ((fnd_at hR1).2 q1.d).2.1
 have hsl : (d - 1) % 32 = (pls d : Nat) := ((fnd_at hR1).2 q1.d).2.2.1
 have hg : (d - 1) / 32 = (ce s (pls d)).Gen := by
  have := q.2.2
  have h24 := hR.len
  have := q.1
  omega
 unfold slab_Kill_store_Obj slab_Get_store_Obj
 rw [at_find hR1 q1.d, Option.bind_some, if_neg (by simp), ix_ce q1.1, Option.bind_some, q1.2.1, if_neg (by simp), Option.bind_some, if_neg (by simp), handle_Slot_eq (by omega), Option.bind_some, if_pos hH, hsl, handle_Gen_eq (by omega), Option.bind_some, if_pos hH, hg, with_eq_o rfl q1.1 hlen, Option.bind_some]
 have e : (ce (k1 s d) (pls d)).Val = ded (ob s d) := by unfold k1; rw [ce_setC q.1, if_pos rfl]
 rw [e]
 congr 2
 show (setC (k1 s d) (pls d) _).S = (k2 s d).S
 unfold k1 k2
 rw [setC_setC]
theorem gv_gn (hw : (ob s d).Weak = 0) : gvA (k2 s d) (pls d) = gnA s d := by
 have q := lv_place hR hd
 have e : ce (k2 s d) (pls d) = ⟨2, (ce s (pls d)).Gen, ded (ob s d)⟩ := by unfold k2; rw [ce_setC q.1, if_pos rfl]
 unfold gvA gnA gnC
 rw [e]
 rw [at_ob hR q] at hw
 rw [if_pos hw]
 unfold k2
 rw [setC_setC]
 rfl
theorem k2_gn (hw : (ob s d).Weak ≠ 0) : k2 s d = gnA s d := by
 have q := lv_place hR hd
 unfold k2 gnA gnC
 rw [at_ob hR q] at hw ⊢
 rw [if_neg hw]
end
theorem killed_eq {x : Hp} (hR : SR x.S) {d : Int} (hd : d ∈ lv x.S) : settle_killed x d = some (wS x (gnA x.S d)) := by
 unfold settle_killed
 rw [get_lv hR hd, Option.bind_some]
 have e1 : store_Set x.S d (⟨(ob x.S d).Serial, 0, (ob x.S d).Weak, (ob x.S d).Prog, (ob x.S d).Started, []⟩ : store_Obj) = some (k1 x.S d, 0) := by
  rw [← k1_seO hR hd]
  exact seO_set (o := ded (ob x.S d)) hR hd rfl (ded_ok hR hd)
 rw [e1, Option.bind_some, kill_eq hR hd, Option.bind_some]
 by_cases hw : (ob x.S d).Weak = 0
 ·rw [if_pos (by simpa using hw), give_at (k2_sr hR hd) (k2_at hR hd), Option.bind_some, gv_gn hR hd hw]
  rfl
 ·rw [if_neg (by simpa using hw)]
  show some (wS x (k2 x.S d)) = _
  rw [k2_gn hR hd hw]
theorem kill06 {s : store_Store} (hR : SR s) {d : Int} (hd : d ∈ lv s) : r06_Kill (sO (k1 s d)) d = some (sO (k2 s d)) := by
 have q := lv_place hR hd
 have hR1 := k1_sr hR hd
 have q1 := k1_at hR hd
 have hlen := hR1.len
 have hr := lv_rng hR hd
 have hi := q1.1
 have hi2 : pls d < (sO (k1 s d)).Cells.length := by rw [sO_len]; exact hi
 have hpl : pls d < (pl (sO (k1 s d))).Cells.length := by rw [pl_len]; exact hi2
 have hlen2 : (sO (k1 s d)).Cells.length ≤ 24 := by rw [sO_len]; exact hlen
 unfold r06_Kill r03_Kill r03_Get
 rw [plain06 _ (by omega), Option.bind_some, find06 (k1 s d) (by omega), at_find hR1 q1.d, Option.bind_some, if_neg (by simp), pl_at hi2, Option.bind_some]
 have hst : (plc (pls d) (sO (k1 s d)).Cells[pls d]).State = 1 := by
  have := q1.2.1
  rw [ce_lt hi] at this
  simpa [plc, sO, cO] using this
 have hgen : (plc (pls d) (sO (k1 s d)).Cells[pls d]).Gen = (ce s (pls d)).Gen := by
  have : (ce (k1 s d) (pls d)).Gen = (ce s (pls d)).Gen := by unfold k1; rw [ce_setC q.1, if_pos rfl]
  rw [ce_lt hi] at this
  simpa [plc, sO, cO] using this
 rw [hst, if_neg (by simp), Option.bind_some, if_neg (by simp), Option.bind_some]
 dsimp only
 rw [pl_at hi2, Option.bind_some]
 have w3 : ∀ c : r03_Cell, r03_with (pl (sO (k1 s d))) ((pls d : Nat) : Int) c = some ⟨(pl (sO (k1 s d))).Cells.set (pls d) c, (pl (sO (k1 s d))).Last⟩ := fun c => by
  unfold r03_with
  rw [app_nil (by omega) (by rw [pl_len]; omega), Option.bind_some, ix_at hpl, Option.bind_some, Int.toNat_natCast]
 rw [w3, Option.bind_some, Option.bind_some, turned06 _ _ (by omega) (by simp [pl_len]), Option.bind_some, hgen]
 unfold k2
 rw [← setC_setC s (pls d) ⟨1, (ce s (pls d)).Gen, ded (ob s d)⟩, sO_setC]
 show some _ = some (⟨(sO (k1 s d)).Cells.set (pls d) _, _, _⟩ : r06_Store)
 congr 1
 congr 1
 refine List.ext_getElem (by simp) fun k h1 h2 => ?_
 have hk : k < (k1 s d).S.Cells.length := by simpa [sO_len] using h1
 have hk2 : k < (sO (k1 s d)).Cells.length := by rw [sO_len]; exact hk
 have hk3 : k < (pl (sO (k1 s d))).Cells.length := by rw [pl_len]; exact hk2
 simp only [List.getElem_map, List.getElem_range, List.getElem_set]
 rw [getD_set hpl, getD_at hk2, getD_at hk3]
 by_cases e : k = pls d
 ·subst e
  rw [if_pos rfl, if_pos rfl]
  have e2 : (sO (k1 s d)).Cells[pls d].Val = oo (ded (ob s d)) := by
   have : (ce (k1 s d) (pls d)).Val = ded (ob s d) := by unfold k1; rw [ce_setC q.1, if_pos rfl]
   rw [← this, ce_lt hi]
   simp [sO, cO]
  rw [e2]
  rfl
 ·rw [if_neg e, if_neg (Ne.symm e)]
  simp [sO, pl, plc, cO]
theorem gone16 {x : Hp} (hR : SR x.S) {d : Int} (hd : d ∈ lv x.S) : r16_gone (hO x) d = some (hO (wS x (gnA x.S d))) := by
 unfold r16_gone
 rw [show (hO x).S = sO x.S from rfl, get_lv06 hR hd, Option.bind_some]
 have e1 : r06_Set (sO x.S) d (⟨(oo (ob x.S d)).Serial, 0, (oo (ob x.S d)).Weak, (oo (ob x.S d)).Prog, (oo (ob x.S d)).Started, []⟩ : r06_Obj) = some (sO (k1 x.S d), 0) := by
  rw [← k1_seO hR hd]
  exact set_ref (o := ded (ob x.S d)) hR hd rfl (ded_ok hR hd)
 rw [e1, Option.bind_some, kill06 hR hd, Option.bind_some]
 by_cases hw : (ob x.S d).Weak = 0
 ·rw [if_pos (by simpa [oo] using hw), give06 (k2_sr hR hd) (k2_at hR hd), Option.bind_some, gv_gn hR hd hw]
  rfl
 ·rw [if_neg (by simpa [oo] using hw)]
  show some (hO (wS x (k2 x.S d))) = _
  rw [k2_gn hR hd hw]
end Go.Sh
set_option linter.unusedSectionVars false
namespace Go.Sh
set_option linter.unusedVariables false
set_option linter.unusedSimpArgs false
theorem rlsL_sr : ∀ (l : List Int) {x : Hp}, SR x.S → SR (l.foldl rlsH x).S
 | [], x, h => h
 | v :: l, x, h => rlsL_sr l (x := rlsH x v) (rls_sr h v)
theorem rlsL_sl : ∀ (l : List Int) {x : Hp}, SR x.S → SL x → SL (l.foldl rlsH x)
 | [], x, _, h => h
 | v :: l, x, hR, h => rlsL_sl l (x := rlsH x v) (rls_sr hR v) (h.rls hR v)
theorem rlsL_snoc (l : List Int) {k : Nat} (hk : k < l.length) (x : Hp) : (l.take (k + 1)).foldl rlsH x = rlsH ((l.take k).foldl rlsH x) l[k] := by
 rw [take_snoc hk, List.foldl_append]
 rfl
theorem release_loop {y : Hp} (hR : SR y.S) (l : List Int) (hl : l.length ≤ 1000000) (hb : ∀ v ∈ l, v ≤ 9223372036854775807) {K : Hp → Option Hp} : ((lp (S := Int × hold_Heap) (E := hold_Heap) (fun ((s35, s36) : Int × hold_Heap) =>
     if (decide (s35 < (l.length : Int))) then
      (ix l s35).bind fun v39 =>
      (hold_Release s36 v39).bind fun v40 =>
      some (.inl (w64 (s35 + 1), v40))
     else
     some (.inr s36)) (0, y)).bind K) = K (l.foldl rlsH y) := by
 have key := lp_foldl l rlsH id (fun k z => SR z.S) (b0 := y) (f := fun ((s35, s36) : Int × hold_Heap) =>
     if (decide (s35 < (l.length : Int))) then
      (ix l s35).bind fun v39 =>
      (hold_Release s36 v39).bind fun v40 =>
      some (Sum.inl (w64 (s35 + 1), v40))
     else
     some (.inr s36)) (by omega) hR (fun k hk z hz => ?_) (fun z hz => by simp)
 ·rw [key, Option.bind_some]
  rfl
 ·simp only [Int.ofNat_lt, hk, decide_true, if_true, ix_at hk, Option.bind_some, release_eq hz (hb _ (List.getElem_mem hk))]
  rw [w64_nat]
  exact ⟨rfl, rls_sr hz _⟩
theorem release_loop16 {y : Hp} (hR : SR y.S) (l : List Int) (hl : l.length ≤ 1000000) (hb : ∀ v ∈ l, v ≤ 9223372036854775807) {K : r15_Heap → Option r15_Heap} : ((lp (S := Int × r15_Heap) (E := r15_Heap) (fun ((s45, s46) : Int × r15_Heap) =>
      if (decide (s45 < (l.length : Int))) then
       (ix l s45).bind fun v49 =>
       (r15_Release s46 v49).bind fun v50 =>
       some (.inl (w64 (s45 + 1), v50))
      else
      some (.inr s46)) (0, hO y)).bind K) = K (hO (l.foldl rlsH y)) := by
 have key := lp_upS (f := fun ((s45, s46) : Int × r15_Heap) =>
      if (decide (s45 < (l.length : Int))) then
       (ix l s45).bind fun v49 =>
       (r15_Release s46 v49).bind fun v50 =>
       some (Sum.inl (w64 (s45 + 1), v50))
      else
      some (.inr s46)) (t0 := hO y) l.length (fun k z => z = hO ((l.take k).foldl rlsH y)) (fun z => z = hO (l.foldl rlsH y)) (by omega) rfl ?_ ?_
 ·obtain ⟨e, h1, h2⟩ := key
  rw [h1, Option.bind_some, h2]
 ·rintro k z hk rfl
  left
  have hz := rlsL_sr (l.take k) hR
  simp only [Int.ofNat_lt, hk, decide_true, if_true, ix_at hk, Option.bind_some, release15 hz (hb _ (List.getElem_mem hk))]
  rw [w64_nat, ← rlsL_snoc l hk]
  exact ⟨_, rfl, rfl⟩
 ·rintro z rfl
  exact ⟨_, if_neg (by simp), by rw [List.take_length]⟩
theorem gnL_snoc (s : store_Store) (ds : List Int) {k : Nat} (hk : k < ds.length) : gnL s (ds.take (k + 1)) = gnA (gnL s (ds.take k)) ds[k] := by
 unfold gnL
 rw [take_snoc hk, List.foldl_append]
 rfl
section
variable {y : Hp} (hR : SR y.S) {ds : List Int} (hn : ds.Nodup) (hm : ∀ d ∈ ds, d ∈ lv y.S)
include hR hn hm
theorem kill_ready {k : Nat} (hk : k < ds.length) : SR (gnL y.S (ds.take k)) ∧ ds[k] ∈ lv (gnL y.S (ds.take k)) := by
 have g := gnL_gn (ds.take k) hR ((List.take_sublist k ds).nodup hn) fun d hd => hm d (List.mem_of_mem_take hd)
 refine ⟨g.sr, ?_⟩
 rw [g.lv, List.mem_filter, decide_eq_true_iff]
 refine ⟨hm _ (List.getElem_mem hk), fun q => ?_⟩
 rw [← List.take_append_drop k ds, List.nodup_append] at hn
 exact hn.2.2 _ q ds[k] (by rw [List.drop_eq_getElem_cons hk]; exact List.mem_cons_self ..) rfl
theorem kill_loop (hl : ds.length ≤ 1000) {K : Hp → Option Hp} : ((lp (S := Int × hold_Heap) (E := hold_Heap) (fun ((s42, s43) : Int × hold_Heap) =>
    if (decide (s42 < (ds.length : Int))) then
     (ix ds s42).bind fun v46 =>
     (settle_killed s43 v46).bind fun v47 =>
     some (.inl (w64 (s42 + 1), v47))
    else
    some (.inr s43)) (0, y)).bind K) = K (wS y (gnL y.S ds)) := by
 have key := lp_upS (f := fun ((s42, s43) : Int × hold_Heap) =>
    if (decide (s42 < (ds.length : Int))) then
     (ix ds s42).bind fun v46 =>
     (settle_killed s43 v46).bind fun v47 =>
     some (Sum.inl (w64 (s42 + 1), v47))
    else
    some (.inr s43)) (t0 := y) ds.length (fun k z => z = wS y (gnL y.S (ds.take k))) (fun z => z = wS y (gnL y.S ds)) (by omega) rfl ?_ ?_
 ·obtain ⟨e, h1, h2⟩ := key
  rw [h1, Option.bind_some, h2]
 ·rintro k z hk rfl
  left
  obtain ⟨h1, h2⟩ := kill_ready hR hn hm hk
  simp only [Int.ofNat_lt, hk, decide_true, if_true, ix_at hk, Option.bind_some, killed_eq (x := wS y (gnL y.S (ds.take k))) h1 h2]
  rw [w64_nat, gnL_snoc _ _ hk]
  exact ⟨_, rfl, rfl⟩
 ·rintro z rfl
  exact ⟨_, if_neg (by simp), by rw [List.take_length]⟩
theorem kill_loop16 (hl : ds.length ≤ 1000) {K : r15_Heap → Option r15_Heap} : ((lp (S := Int × r15_Heap) (E := r15_Heap) (fun ((s52, s53) : Int × r15_Heap) =>
     if (decide (s52 < (ds.length : Int))) then
      (ix ds s52).bind fun v56 =>
      (r16_gone s53 v56).bind fun v57 =>
      some (.inl (w64 (s52 + 1), v57))
     else
     some (.inr s53)) (0, hO y)).bind K) = K (hO (wS y (gnL y.S ds))) := by
 have key := lp_upS (f := fun ((s52, s53) : Int × r15_Heap) =>
     if (decide (s52 < (ds.length : Int))) then
      (ix ds s52).bind fun v56 =>
      (r16_gone s53 v56).bind fun v57 =>
      some (Sum.inl (w64 (s52 + 1), v57))
     else
     some (.inr s53)) (t0 := hO y) ds.length (fun k z => z = hO (wS y (gnL y.S (ds.take k)))) (fun z => z = hO (wS y (gnL y.S ds))) (by omega) rfl ?_ ?_
 ·obtain ⟨e, h1, h2⟩ := key
  rw [h1, Option.bind_some, h2]
 ·rintro k z hk rfl
  left
  obtain ⟨h1, h2⟩ := kill_ready hR hn hm hk
  simp only [Int.ofNat_lt, hk, decide_true, if_true, ix_at hk, Option.bind_some, gone16 (x := wS y (gnL y.S (ds.take k))) h1 h2]
  rw [w64_nat, gnL_snoc _ _ hk]
  exact ⟨_, rfl, rfl⟩
 ·rintro z rfl
  exact ⟨_, if_neg (by simp), by rw [List.take_length]⟩
end
section
variable {x : Hp} (hx : HpR x) {ds : List Int} (hn : ds.Nodup) (hm : ∀ d ∈ ds, d ∈ lv x.S)
include hx hn hm
theorem ds_len : ds.length ≤ 24 := Nat.le_trans (nodup_le hn hm) (lv_len (rt_iff.2 hx.sh.sr))
theorem fields4 {d : Int} (hd : d ∈ lv x.S) : (ob x.S d).Fields.length ≤ 4 := (lv_okO hx.sh.sr hd).fl
theorem outs_ln {d : Int} (hd : d ∈ lv x.S) : (outs x.S d).length ≤ 4 := Nat.le_trans (nz_len _) (fields4 hx hn hm hd)
theorem flat_len' : ∀ (l : List Int), (∀ d ∈ l, d ∈ lv x.S) → (l.flatMap (outs x.S)).length ≤ 4 * l.length
 | [], _ => by simp
 | d :: l, h => by
  rw [List.flatMap_cons, List.length_append, List.length_cons]
  have := flat_len' l fun e he => h e (List.mem_cons_of_mem _ he)
  have := outs_ln hx hn hm (h d (List.mem_cons_self ..))
  omega
theorem owed_bd : ∀ v ∈ ds.flatMap (outs x.S) ++ (wot x.T ds).2, v ≤ 9223372036854775807 := fun v hv => by
 rcases List.mem_append.1 hv with q | q
 ·obtain ⟨d, hd, q⟩ := List.mem_flatMap.1 q
  obtain ⟨q, _⟩ := nz_mem.1 q
  rcases hx.sh.fl d (hm d hd) v q with e | e
  ·omega
  ·exact lv_mx hx.sh.sr e
 ·by_cases h0 : v = 0
  ·omega
  ·have hl := ds_len hx hn hm
   have h3 := (wot_spec hx.sh.hr ds (by omega)).2.2.2.2.2 v
   have h4 := tms_pos.2 ⟨h0, q⟩
   have h5 : 0 < own x.T v := by omega
   obtain ⟨p, hp, hq⟩ := List.countP_pos_iff.1 h5
   have hq : (v != 0 && p.Val == v) = true := hq
   rw [Bool.and_eq_true, beq_iff_eq] at hq
   have := (hx.sh.pr _ _ (mem_prs.1 hp)).2
   rw [hq.2] at this
   exact lv_mx hx.sh.sr this
theorem owed_len : (ds.flatMap (outs x.S) ++ (wot x.T ds).2).length ≤ 200 := by
 have hl := ds_len hx hn hm
 have h1 := flat_len' hx hn hm ds hm
 have h2 := (wot_spec hx.sh.hr ds (by omega)).2.2.1
 rw [List.length_append]
 omega
theorem bury_of (hq : (x.Q.L ++ clt x.Cells ds).length ≤ 30) {l : List Int} (h1 : settle_livesOnce x l = some ds) : settle_Bury x l = some (buH x ds) := by
 have hl := ds_len hx hn hm
 have hR := hx.sh.sr
 obtain ⟨w1, w2, w3, w4, w5, w6⟩ := wot_spec hx.sh.hr ds (by omega)
 have ol := owed_len hx hn hm
 have fl := flat_len' hx hn hm ds hm
 unfold settle_Bury
 rw [h1, Option.bind_some, cleared_eq (by have := hx.sh.c6; omega) (by omega) hq hx.sh.cap, Option.bind_some]
 simp only [jn]
 have key := lp_foldl ds (fun b d => b ++ outs x.S d) id (fun k b => b.length ≤ 4 * k) (b0 := []) (f := fun ((s49, s50) : Int × (List Int)) =>
   if (decide (s49 < (ds.length : Int))) then
    (ix ds s49).bind fun v53 =>
    (store_Get (clH x ds).S v53).bind fun v54 =>
    (vec_Names v54.1.Fields).bind fun v55 =>
    (app 8 s50 v55).bind fun v56 =>
    some (Sum.inl (w64 (s49 + 1), v56))
   else
   some (.inr s50)) (by omega) (by simp) (fun k hk b hb => ?_) (fun b hb => by simp)
 ·rw [key, Option.bind_some, foldl_flat, List.nil_append]
  dsimp only [id]
  rw [show (clH x ds).T = x.T from rfl, w1, Option.bind_some]
  have ol2 := ol
  rw [List.length_append] at ol2
  rw [app_ok (by omega) (by omega), Option.bind_some]
  have k1 := kill_loop (y := ⟨(clH x ds).S, (clH x ds).Roots, (clH x ds).Cells, (wot x.T ds).1, (clH x ds).Q⟩) hR hn hm (by omega) (K := fun e => (lp (S := Int × hold_Heap) (E := hold_Heap) (fun ((s35, s36) : Int × hold_Heap) =>
     if (decide (s35 < ((ds.flatMap (outs x.S) ++ (wot x.T ds).2).length : Int))) then
      (ix (ds.flatMap (outs x.S) ++ (wot x.T ds).2) s35).bind fun v39 =>
      (hold_Release s36 v39).bind fun v40 =>
      some (.inl (w64 (s35 + 1), v40))
     else
     some (.inr s36)) (0, e)).bind fun e34 => some e34)
  refine Eq.trans k1 ?_
  have g := gnL_gn ds hR hn hm
  have k2 := release_loop (y := wS (⟨(clH x ds).S, (clH x ds).Roots, (clH x ds).Cells, (wot x.T ds).1, (clH x ds).Q⟩ : Hp) (gnL x.S ds)) g.sr _ (by omega) (owed_bd hx hn hm) (K := fun e34 => some e34)
  refine Eq.trans k2 ?_
  rfl
 ·have hd := hm _ (List.getElem_mem hk)
  have f4 := fields4 hx hn hm hd
  have o4 := outs_ln hx hn hm hd
  simp only [Int.ofNat_lt, hk, decide_true, if_true, ix_at hk, Option.bind_some, show (clH x ds).S = x.S from rfl, get_lv hR hd, names_eq _ (by omega : (ob x.S ds[k]).Fields.length ≤ 1000000)]
  have e : nz (ob x.S ds[k]).Fields = outs x.S ds[k] := rfl
  rw [e, app_ok (by omega) (by omega), Option.bind_some, w64_nat]
  exact ⟨rfl, by rw [List.length_append]; omega⟩
theorem bury16_of (hq : (x.Q.L ++ clt x.Cells ds).length ≤ 30) {l : List Int} (h1 : r16_each (hO x) l = some ds) : r16_Bury (hO x) l = some (hO (buH x ds)) := by
 have hl := ds_len hx hn hm
 have hR := hx.sh.sr
 obtain ⟨w1, w2, w3, w4, w5, w6⟩ := wot_spec hx.sh.hr ds (by omega)
 have ol := owed_len hx hn hm
 have fl := flat_len' hx hn hm ds hm
 have c6 := hx.sh.c6
 unfold r16_Bury
 rw [h1, Option.bind_some, show (hO x).Cells = x.Cells.map wcR from rfl, clear09 _ _ (by omega) (by omega), Option.bind_some]
 simp only [jn]
 rw [show (hO x).Q = tqR x.Q from rfl, adds16 (by omega) (by omega) hq hx.sh.cap]
 have key := lp_foldl ds (fun b d => b ++ outs x.S d) id (fun k b => b.length ≤ 4 * k) (b0 := []) (f := fun ((s59, s60) : Int × (List Int)) =>
    if (decide (s59 < (ds.length : Int))) then
     (ix ds s59).bind fun v63 =>
     (r06_Get (hO x).S v63).bind fun v64 =>
     (r05_Names v64.1.Fields).bind fun v65 =>
     (app 8 s60 v65).bind fun v66 =>
     some (Sum.inl (w64 (s59 + 1), v66))
    else
    some (.inr s60)) (by omega) (by simp) (fun k hk b hb => ?_) (fun b hb => by simp)
 ·rw [key, Option.bind_some, foldl_flat, List.nil_append]
  dsimp only [id]
  rw [show (hO x).T = x.T.map hpl from rfl, w4, Option.bind_some]
  dsimp only
  have ol2 := ol
  rw [List.length_append] at ol2
  rw [app_ok (by omega) (by omega), Option.bind_some]
  have k1 := kill_loop16 (y := ⟨(clH x ds).S, (clH x ds).Roots, (clH x ds).Cells, (wot x.T ds).1, (clH x ds).Q⟩) hR hn hm (by omega) (K := fun e => (lp (S := Int × r15_Heap) (E := r15_Heap) (fun ((s45, s46) : Int × r15_Heap) =>
      if (decide (s45 < ((ds.flatMap (outs x.S) ++ (wot x.T ds).2).length : Int))) then
       (ix (ds.flatMap (outs x.S) ++ (wot x.T ds).2) s45).bind fun v49 =>
       (r15_Release s46 v49).bind fun v50 =>
       some (.inl (w64 (s45 + 1), v50))
      else
      some (.inr s46)) (0, e)).bind fun e44 => some e44)
  refine Eq.trans k1 ?_
  have g := gnL_gn ds hR hn hm
  have k2 := release_loop16 (y := wS (⟨(clH x ds).S, (clH x ds).Roots, (clH x ds).Cells, (wot x.T ds).1, (clH x ds).Q⟩ : Hp) (gnL x.S ds)) g.sr _ (by omega) (owed_bd hx hn hm) (K := fun e44 => some e44)
  refine Eq.trans k2 ?_
  rfl
 ·have hd := hm _ (List.getElem_mem hk)
  have f4 := fields4 hx hn hm hd
  have o4 := outs_ln hx hn hm hd
  simp only [Int.ofNat_lt, hk, decide_true, if_true, ix_at hk, Option.bind_some, show (hO x).S = sO x.S from rfl, get_lv06 hR hd]
  have e : r05_Names (oo (ob x.S ds[k])).Fields = some (outs x.S ds[k]) := names05_eq _ (by show (ob x.S ds[k]).Fields.length ≤ _; omega)
  rw [e, Option.bind_some, app_ok (by omega) (by omega), Option.bind_some, w64_nat]
  exact ⟨rfl, by rw [List.length_append]; omega⟩
end
end Go.Sh
set_option linter.unusedSectionVars false
namespace Go.Sh
set_option linter.unusedVariables false
set_option linter.unusedSimpArgs false
theorem bryH_sl {x : Hp} (hR : SR x.S) (hS : SL x) {ds : List Int} (hn : ds.Nodup) (hm : ∀ d ∈ ds, d ∈ lv x.S) (t : Tb) : SL (bryH x ds t) := fun k hk => by
 have g := gnL_gn ds hR hn hm
 have hk : k ∈ lv (gnL x.S ds) := hk
 rw [g.lv, List.mem_filter, decide_eq_true_iff] at hk
 have e : ob (bryH x ds t).S k = ob x.S k := g.ob k hk.1 hk.2
 rw [e]
 exact hS k hk.1
theorem buH_sl {x : Hp} (hR : SR x.S) (hS : SL x) {ds : List Int} (hn : ds.Nodup) (hm : ∀ d ∈ ds, d ∈ lv x.S) : SL (buH x ds) :=
 rlsL_sl _ (x := bryH x ds (wot x.T ds).1) (gnL_gn ds hR hn hm).sr (bryH_sl hR hS hn hm _)
theorem quH_sl {x : Hp} (hR : SR x.S) (hS : SL x) {h : Int} (hh : h ∈ lv x.S) : SL (quH x h) := by
 have hok := srt_okO hR hh
 have r1 := seO_sr (o := srt (ob x.S h)) hR hh rfl hok
 refine SL.rtn (x := ⟨seO x.S h (srt (ob x.S h)), x.Roots, x.Cells, x.T, ⟨x.Q.L ++ [qtk x h], x.Q.Cap⟩⟩) (fun k hk => ?_) r1 h
 dsimp only at hk ⊢
 rw [seO_lv (o := srt (ob x.S h)) hR hh rfl hok] at hk
 rw [seO_ob (o := srt (ob x.S h)) hR hh rfl hok (lv_mx hR hk)]
 split
 ·exact hS h hh
 ·exact hS k hk
theorem stp_sl {x : Hp} (hx : HpR x) (hS : SL x) : SL (stp x) := by
 cases h : zr x with
 | nil => rw [stp_nil h]; exact hS
 | cons z l =>
  have hz := (zr_mem.1 (show z ∈ zr x by rw [h]; exact List.mem_cons_self ..)).1
  rw [stp_cons h]
  split
  ·exact quH_sl hx.sh.sr hS hz
  ·exact buH_sl hx.sh.sr hS (by simp) (by simpa using hz)
theorem stN_sl {x : Hp} (hx : HpR x) (hS : SL x) (n : Nat) : SL (stN n x) := by
 induction n with
 | zero => exact hS
 | succ n ih => rw [stN_succ]; exact stp_sl (stN_right hx n) ih
theorem setl_sl {x : Hp} (hx : HpR x) (hS : SL x) : SL (setl x) := stN_sl hx hS 100
section
variable {x : Hp} (hx : HpR x) (hS : SL x)
include hx hS
theorem zero_room {z : Int} (hz : z ∈ zr x) : (x.Q.L ++ clt x.Cells [z]).length ≤ 30 := by
 have h1 := (zero_right hx hz).sh.q30
 have hzl := (zr_mem.1 hz).1
 rw [(buH_rest hx.sh.sr (ds := [z]) (by simp) (by simpa using hzl)).2.2.2] at h1
 exact h1
theorem round_nil (h : zr x = []) : ((settle_Zero x).bind fun v4 =>
  if ((v4.length : Int) == 0) then
   some (Sum.inr x)
  else
  (ix v4 0).bind fun v5 =>
  (store_Get x.S v5).bind fun v6 =>
  (settle_owesRun v6.1).bind fun v7 =>
  if v7 then
   (settle_Queued x v5).bind fun v8 =>
   some (.inl v8)
  else
  (cut v4 0 1).bind fun v9 =>
  (settle_Bury x v9).bind fun v10 =>
  some (Sum.inl (α := Hp) (β := Hp) v10)) = some (.inr x) := by
 rw [zero_eq hx.sh.sr, Option.bind_some, h]
 rfl
theorem cut1 (z : Int) (l : List Int) : cut (z :: l) 0 1 = some [z] := by
 unfold cut
 rw [if_pos (by simp; omega)]
 simp
theorem round_cons (h : zr x ≠ []) : ((settle_Zero x).bind fun v4 =>
  if ((v4.length : Int) == 0) then
   some (Sum.inr x)
  else
  (ix v4 0).bind fun v5 =>
  (store_Get x.S v5).bind fun v6 =>
  (settle_owesRun v6.1).bind fun v7 =>
  if v7 then
   (settle_Queued x v5).bind fun v8 =>
   some (.inl v8)
  else
  (cut v4 0 1).bind fun v9 =>
  (settle_Bury x v9).bind fun v10 =>
  some (Sum.inl (α := Hp) (β := Hp) v10)) = some (.inl (stp x)) := by
 cases hz : zr x with
 | nil => exact absurd hz h
 | cons z l =>
  have hzm : z ∈ zr x := by rw [hz]; exact List.mem_cons_self ..
  have hzl := (zr_mem.1 hzm).1
  have hR := hx.sh.sr
  rw [zero_eq hR, Option.bind_some, hz, if_neg (by simp; omega), show ix (z :: l) 0 = some z from rfl, Option.bind_some, get_lv hR hzl, Option.bind_some, owes_eq, Option.bind_some, stp_cons hz]
  by_cases hd : due (ob x.S z) = true
  ·rw [if_pos hd, if_pos hd, queued_eq hx hS (lv_mx hR hzl), Option.bind_some]
   unfold quD
   rw [if_pos ⟨hzl, hd⟩]
  ·rw [if_neg hd, if_neg hd, cut1 hx hS, Option.bind_some, bury_of hx (ds := [z]) (by simp) (by simpa using hzl) (zero_room hx hS hzm) (by rw [livesOnce_eq hR [z] (by simp) (by simpa using lv_mx hR hzl), lvo_self hzl]), Option.bind_some]
theorem settle_eq : settle_Settle x = some (setl x) := by
 obtain ⟨n, hn, h1, h2, h3⟩ := setl_road hx
 unfold settle_Settle
 refine lpb_road (fun j => stN j x) rfl n (fun _ => True) (by omega) trivial (fun k hk _ => .inl ⟨?_, trivial⟩) (fun _ => ⟨stN n x, ?_, by rw [h3]⟩)
 ·have := round_cons (stN_right hx k) (stN_sl hx hS k) (h2 k hk)
  rw [← stN_succ] at this
  exact this
 ·exact round_nil (stN_right hx n) (stN_sl hx hS n) h1
theorem round16 {k : Nat} (hk : k < 100) (h : zr x ≠ []) {E : Type} {e : E} : ((r16_Zero (hO x)).bind fun v35 =>
     if ((v35.length : Int) == 0) then
      some (Sum.inr e)
     else
     (ix v35 0).bind fun v36 =>
     (r16_Due (hO x) v36).bind fun v37 =>
     if v37 then
      (r16_Queued (hO x) v36).bind fun v38 =>
      some (.inl (w64 ((k : Int) + 1), v38))
     else
     (cut v35 0 1).bind fun v39 =>
     (r16_Bury (hO x) v39).bind fun v40 =>
     some (Sum.inl (w64 ((k : Int) + 1), v40))) = some (.inl (((k + 1 : Nat) : Int), hO (stp x))) := by
 cases hz : zr x with
 | nil => exact absurd hz h
 | cons z l =>
  have hzm : z ∈ zr x := by rw [hz]; exact List.mem_cons_self ..
  have hzl := (zr_mem.1 hzm).1
  have hR := hx.sh.sr
  rw [zero16 hR, Option.bind_some, hz, if_neg (by simp; omega), show ix (z :: l) 0 = some z from rfl, Option.bind_some, due16 hx hS (lv_mx hR hzl), Option.bind_some, decide_eq_true hzl, Bool.true_and, stp_cons hz, w64_nat]
  by_cases hd : due (ob x.S z) = true
  ·rw [if_pos hd, if_pos hd, queued16 hx hS (lv_mx hR hzl), Option.bind_some]
   unfold quD
   rw [if_pos ⟨hzl, hd⟩]
  ·rw [if_neg hd, if_neg hd, cut1 hx hS, Option.bind_some, bury16_of hx (ds := [z]) (by simp) (by simpa using hzl) (zero_room hx hS hzm) (by rw [each16 hR [z] (by simp) (by simpa using lv_mx hR hzl), lvo_self hzl]), Option.bind_some]
theorem settle16 : r16_Settle (hO x) = some (hO (setl x)) := by
 obtain ⟨n, hn, h1, h2, h3⟩ := setl_road hx
 unfold r16_Settle
 simp only [jn]
 refine lpb_road (fun j => ((j : Int), hO (stN j x))) (by rfl) n (fun _ => True) (by omega) trivial (fun k hk _ => .inl ⟨?_, trivial⟩) (fun _ => ⟨.inl (hO (stN n x)), ?_, by rw [h3]⟩)
 ·dsimp only
  rw [if_pos (by simp; omega)]
  have := round16 (stN_right hx k) (stN_sl hx hS k) (k := k) (by omega) (h2 k hk) (e := (Sum.inl (hO (stN k x)) : r15_Heap ⊕ r15_Heap))
  rw [← stN_succ] at this
  exact this
 ·dsimp only
  rw [if_pos (by simp; omega), zero16 (stN_right hx n).sh.sr, Option.bind_some, h1]
  rfl
end
end Go.Sh
namespace Go.Sh
set_option linter.unusedVariables false
set_option linter.unusedSimpArgs false
end Go.Sh
namespace Go.Sh
set_option linter.unusedVariables false
set_option linter.unusedSimpArgs false
end Go.Sh
set_option linter.unusedSectionVars false
namespace Go.Sh
set_option linter.unusedVariables false
set_option linter.unusedSimpArgs false
end Go.Sh
set_option linter.unusedSectionVars false
namespace Go.Sh
set_option linter.unusedVariables false
set_option linter.unusedSimpArgs false
def ooI (o : r06_Obj) : store_Obj := ⟨o.Serial, o.Strong, o.Weak, o.Prog, o.Started, o.Fields⟩
def sOI (s : r06_Store) : store_Store := ⟨⟨s.Cells.map fun c => ⟨c.State, c.Gen, ooI c.Val⟩, s.Last⟩, s.Serial⟩
def hOI (x : r15_Heap) : Hp := ⟨sOI x.S, x.Roots, x.Cells.map fun c => ⟨c.Target, c.Intact, c.Call⟩, x.T.map fun p => ⟨p.State, p.Key, p.Val⟩, ⟨x.Q.L.map fun t => ⟨t.Kind, t.At, t.Prog⟩, x.Q.Cap⟩⟩
theorem hOI_hO (x : Hp) : hOI (hO x) = x := by
 obtain ⟨⟨⟨cs, l⟩, n⟩, r, w, t, ⟨q, c⟩⟩ := x
 unfold hOI hO sOI sO tqR
 dsimp only
 have a1 : (cs.map cO).map (fun c => (⟨c.State, c.Gen, ooI c.Val⟩ : slab_Cell_store_Obj)) = cs := by
  rw [List.map_map]
  refine Eq.trans (List.map_congr_left fun a _ => ?_) (List.map_id cs)
  rfl
 have a2 : (w.map wcR).map (fun c => (⟨c.Target, c.Intact, c.Call⟩ : weak_Cell)) = w := by
  rw [List.map_map]
  refine Eq.trans (List.map_congr_left fun a _ => ?_) (List.map_id w)
  rfl
 have a3 : (t.map hpl).map (fun p => (⟨p.State, p.Key, p.Val⟩ : hash_Place)) = t := by
  rw [List.map_map]
  refine Eq.trans (List.map_congr_left fun a _ => ?_) (List.map_id t)
  rfl
 have a4 : (q.map tkR).map (fun t => (⟨t.Kind, t.At, t.Prog⟩ : task_Task)) = q := by
  rw [List.map_map]
  refine Eq.trans (List.map_congr_left fun a _ => ?_) (List.map_id q)
  rfl
 rw [a1, a2, a3, a4]
theorem live_c {s : store_Store} (hR : SR s) : store_Live s = r06_Live (sO s) := by rw [lv_live (rt_iff.2 hR), live06 (rt_iff.2 hR)]
theorem zero_c {x : Hp} (hR : SR x.S) : settle_Zero x = r16_Zero (hO x) := by rw [zero_eq hR, zero16 hR]
theorem settled_c {x : Hp} (hR : SR x.S) : settle_Settled x = r16_Settled (hO x) := by rw [settled_eq hR, settled16 hR]
theorem settle_c {x : Hp} (hx : HpR x) (hS : SL x) : settle_Settle x = (r16_Settle (hO x)).map hOI := by
 rw [settle_eq hx hS, settle16 hx hS, Option.map_some, hOI_hO]
def ex16_1 : Hp := (hold_New 4 2 8).getD hz15
def ex16_2 : store_Store × Int × Int := (store_Make ex16_1.S 1 (-1)).getD (hz15.S, 0, 0)
def ex16_3 : store_Store × Int × Int := (store_Make ex16_2.1 1 (-1)).getD (hz15.S, 0, 0)
def ex16_4 : store_Store × Int × Int := (store_Make ex16_3.1 0 3).getD (hz15.S, 0, 0)
def ex16_5 : Hp × Int := (hold_Field (⟨ex16_4.1, ex16_1.Roots, ex16_1.Cells, ex16_1.T, ex16_1.Q⟩ : hold_Heap) ex16_2.2.1 0 ex16_3.2.1).getD (hz15, 0)
def ex16_6 : Hp × Int := (hold_Field ex16_5.1 ex16_3.2.1 0 ex16_4.2.1).getD (hz15, 0)
def ex16_7 : Hp × Int := (hold_Weak ex16_6.1 0 ex16_3.2.1 2).getD (hz15, 0)
def ex16_9 : Hp := hOI ((r16_Settle (hO ex16_7.1)).getD (hO hz15))
theorem shown16 : w16_shown = some true := by
 have hB : HB ex16_7.1 := hb_all (by kernel_rfl)
 have hx : HpR ex16_7.1 := by
  obtain ⟨b, h1, h2⟩ := heapRight15 ex16_7.1 hB (by decide +kernel) (by decide +kernel) (by decide +kernel) (by decide +kernel) (by decide +kernel)
  have : r15_Right (hO ex16_7.1) = some true := by kernel_rfl
  rw [this] at h1
  exact h2.1 (Option.some.inj h1).symm
 have hS : SL ex16_7.1 := SB.sl hx.sh.sr hB.sb
 have e9 : settle_Settle ex16_7.1 = some ex16_9 := by
  rw [settle_c hx hS]
  kernel_rfl
 have e9' : setl ex16_7.1 = ex16_9 := by
  rw [settle_eq hx hS] at e9
  exact Option.some.inj e9
 have hy : HpR ex16_9 := e9' ▸ setl_right hx
 have hT : SL ex16_9 := e9' ▸ setl_sl hx hS
 unfold w16_shown
 refine bnd (a := ex16_1) (by kernel_rfl) ?_
 refine bnd (a := ex16_2) (by kernel_rfl) ?_
 refine bnd (a := ex16_3) (by kernel_rfl) ?_
 refine bnd (a := ex16_4) (by kernel_rfl) ?_
 refine bnd (a := ex16_5) (by kernel_rfl) ?_
 refine bnd (a := ex16_6) (by kernel_rfl) ?_
 refine bnd (a := ex16_7) (by kernel_rfl) ?_
 rw [zero_c hx.sh.sr]
 refine bnd (a := (r16_Zero (hO ex16_7.1)).getD []) (by kernel_rfl) ?_
 refine bnd e9 ?_
 refine bnd (a := (store_Get ex16_9.S ex16_4.2.1).getD (z0, 0)) (by kernel_rfl) ?_
 refine bnd (a := (store_Get ex16_9.S ex16_2.2.1).getD (z0, 0)) (by kernel_rfl) ?_
 rw [live_c hy.sh.sr, settled_c hy.sh.sr, hold_right_true hy (hb_of hy hT)]
 kernel_rfl
section
variable {x : Hp} (hB : HB x)
include hB
end
end Go.Sh
set_option linter.unusedSectionVars false
namespace Go.Sh
set_option linter.unusedVariables false
set_option linter.unusedSimpArgs false
structure Stl (x y : Hp) : Prop where
 lv : ∀ h ∈ lv y.S, h ∈ lv x.S
 ser : y.S.Serial = x.S.Serial
 len : y.S.S.Cells.length = x.S.S.Cells.length
 ob : ∀ h ∈ Sh.lv y.S, (ob y.S h).Serial = (ob x.S h).Serial ∧ (Sh.ob y.S h).Prog = (Sh.ob x.S h).Prog ∧ (Sh.ob y.S h).Fields = (Sh.ob x.S h).Fields ∧ ((Sh.ob x.S h).Started = true → (Sh.ob y.S h).Started = true)
 rt : y.Roots = x.Roots
 cn : y.Cells.length = x.Cells.length
 cl : ∀ i (h : i < y.Cells.length) (h' : i < x.Cells.length), y.Cells[i] = ⟨x.Cells[i].Target, x.Cells[i].Intact && decide (x.Cells[i].Target ∈ Sh.lv y.S), x.Cells[i].Call⟩
 q : ∃ l, y.Q = ⟨x.Q.L ++ l, x.Q.Cap⟩ ∧ (∀ t ∈ l, t.Kind = 1 → t.At ∈ Sh.lv x.S ∧ (Sh.ob x.S t.At).Started = false) ∧ ∀ h ∈ Sh.lv y.S, (Sh.ob y.S h).Started = true → (Sh.ob x.S h).Started = false → ∃ t ∈ l, t.Kind = 1 ∧ t.At = h
 rc : ∀ h, FRch x.S x.T (otr x) h → FRch y.S y.T (otr y) h
 has : ∀ k v, Has y.T k v → Has x.T k v
theorem Stl.refl {x : Hp} (hx : HpS x) : Stl x x := by
 refine ⟨fun _ h => h, rfl, rfl, fun h _ => ⟨rfl, rfl, rfl, id⟩, rfl, rfl, fun i h h' => ?_, ⟨[], by simp, by simp, fun h _ a b => ?_⟩, fun _ h => h, fun _ _ h => h⟩
 ·have := (hx.cl i h).2.2.2.2
  cases hI : x.Cells[i].Intact
  ·rw [Bool.false_and, ← hI]
  ·rw [decide_eq_true (this hI).1, Bool.and_self, ← hI]
 ·rw [a] at b; cases b
theorem Stl.trans {x y z : Hp} (a : Stl x y) (b : Stl y z) : Stl x z := by
 obtain ⟨l1, q1, q2, q3⟩ := a.q
 obtain ⟨l2, r1, r2, r3⟩ := b.q
 refine ⟨fun h hh => a.lv h (b.lv h hh), b.ser.trans a.ser, b.len.trans a.len, fun h hh => ?_, b.rt.trans a.rt, b.cn.trans a.cn, fun i h h' => ?_, ⟨l1 ++ l2, ?_, fun t ht hk => ?_, fun h hh s1 s2 => ?_⟩, fun h hh => b.rc h (a.rc h hh), fun k v hh => a.has k v (b.has k v hh)⟩
 ·obtain ⟨b1, b2, b3, b4⟩ := b.ob h hh
  obtain ⟨a1, a2, a3, a4⟩ := a.ob h (b.lv h hh)
  exact ⟨b1.trans a1, b2.trans a2, b3.trans a3, fun q => b4 (a4 q)⟩
 ·have hy : i < y.Cells.length := by rw [a.cn]; exact h'
  rw [b.cl i h hy, a.cl i hy h']
  dsimp only
  congr 1
  rw [Bool.and_assoc]
  congr 1
  by_cases q : x.Cells[i].Target ∈ Sh.lv z.S
  ·rw [decide_eq_true q, decide_eq_true (b.lv _ q)]; rfl
  ·rw [decide_eq_false q, Bool.and_false]
 ·rw [r1, q1, List.append_assoc]
 ·rcases List.mem_append.1 ht with q | q
  ·exact q2 t q hk
  ·obtain ⟨e1, e2⟩ := r2 t q hk
   refine ⟨a.lv _ e1, ?_⟩
   cases hs : (Sh.ob x.S t.At).Started
   ·rfl
   ·rw [(a.ob _ e1).2.2.2 hs] at e2; cases e2
 ·cases hs : (Sh.ob y.S h).Started
  ·obtain ⟨t, ht, e⟩ := r3 h hh s1 hs
   exact ⟨t, List.mem_append_right _ ht, e⟩
  ·obtain ⟨t, ht, e⟩ := q3 h (b.lv h hh) hs s2
   exact ⟨t, List.mem_append_left _ ht, e⟩
end Go.Sh
set_option linter.unusedSectionVars false
namespace Go.Sh
set_option linter.unusedVariables false
set_option linter.unusedSimpArgs false
section
variable {x : Hp} (hB : HB x)
include hB
end
end Go.Sh
namespace Go.Sh
set_option linter.unusedVariables false
set_option linter.unusedSimpArgs false
def ch0 : Hp := (hold_New 24 3 8).getD hz15
def chStep (i : Nat) (x : Hp) : Hp :=
 let m := (store_Make x.S 1 (-1)).getD (hz15.S, 0, 0)
 let y : Hp := ⟨m.1, x.Roots, x.Cells, x.T, x.Q⟩
 let y2 := if 0 < i then ((hold_Field y m.2.1 0 (x.Roots.getD 0 0)).getD (hz15, 0)).1 else y
 ((hold_Root y2 0 m.2.1).getD (hz15, 0)).1
def chn : Nat → Hp
 | 0 => ch0
 | i + 1 => chStep i (chn i)
def chb (k : Nat) : Hp := ((hold_Root (chn k) 0 0).getD (hz15, 0)).1
def chBody (s27 : Int) (s28 : Hp) : Option ((Int × Hp) ⊕ (Bool ⊕ Hp)) :=
 (store_Make s28.S 1 (-1)).bind fun v31 =>
    if (v31.2.2 != 0) then
     some (.inr (.inl false))
    else
    if ((s28.Roots.length : Int) != 6) then
     some (.inr (.inl false))
    else
     if (decide (s27 > 0)) then
      (ix s28.Roots 0).bind fun v37 =>
      (hold_Field (⟨v31.1, s28.Roots, s28.Cells, s28.T, s28.Q⟩ : hold_Heap) v31.2.1 0 v37).bind fun v38 =>
      (hold_Root v38.1 0 v31.2.1).bind fun v36 =>
      some (.inl (w64 (s27 + 1), v36.1))
     else
      (hold_Root (⟨v31.1, s28.Roots, s28.Cells, s28.T, s28.Q⟩ : hold_Heap) 0 v31.2.1).bind fun v36 =>
      some (.inl (w64 (s27 + 1), v36.1))
theorem ch_rounds : (List.range 24).map (fun i : Nat => chBody (i : Int) (chn i)) = (List.range 24).map (fun i : Nat => some (.inl (((i + 1 : Nat) : Int), chn (i + 1)))) := by kernel_rfl
theorem ch_round {i : Nat} (h : i < 24) : chBody (i : Int) (chn i) = some (.inl (((i + 1 : Nat) : Int), chn (i + 1))) := List.map_inj_left.1 ch_rounds i (List.mem_range.2 h)
theorem ch_rights : (List.range 25).map (fun k => (r15_Right (hO (chn k)), allB (chn k), (chn k).S.S.Cells.length, (chn k).Roots.length, (chn k).Cells.length, (chn k).T.length, (chn k).Q.L.length)) = (List.range 25).map (fun k => (some true, true, 24, 6, 6, 8, 0)) := by kernel_rfl
theorem ch_right {k : Nat} (h : k ≤ 24) : HpR (chn k) ∧ HB (chn k) := by
 have e := List.map_inj_left.1 ch_rights k (List.mem_range.2 (by omega))
 simp only [Prod.mk.injEq] at e
 obtain ⟨e1, e2, e3, e4, e5, e6, e7⟩ := e
 have hB := hb_all e2
 obtain ⟨b, h1, h2⟩ := heapRight15 (chn k) hB (by omega) (by omega) (by omega) (by omega) (by omega)
 rw [e1] at h1
 exact ⟨h2.1 (Option.some.inj h1).symm, hB⟩
def chTail (k : Nat) : Option Bool :=
 (r16_Zero (hO (chn k))).bind fun v0 =>
 (r06_Live (sO (chn k).S)).bind fun v21 =>
 (r16_Zero (hO (chb k))).bind fun v22 =>
 (r16_Settle (hO (chb k))).bind fun c =>
 (r06_Live c.S).bind fun v23 =>
 (r16_Settled c).bind fun v24 =>
 some ((v0.length == 0 && v21.length == k && v22.length == 1 && v23.length == 0) && (v24 && c.S.Serial == (k : Int)))
theorem ch_t1 : chTail 1 = some true := by kernel_rfl
theorem ch_t2 : chTail 2 = some true := by kernel_rfl
theorem ch_t3 : chTail 3 = some true := by kernel_rfl
theorem ch_t4 : chTail 4 = some true := by kernel_rfl
theorem ch_t5 : chTail 5 = some true := by kernel_rfl
theorem ch_t6 : chTail 6 = some true := by kernel_rfl
theorem ch_t7 : chTail 7 = some true := by kernel_rfl
theorem ch_t8 : chTail 8 = some true := by kernel_rfl
theorem ch_t9 : chTail 9 = some true := by kernel_rfl
theorem ch_t10 : chTail 10 = some true := by kernel_rfl
theorem ch_t11 : chTail 11 = some true := by kernel_rfl
theorem ch_t12 : chTail 12 = some true := by kernel_rfl
theorem ch_t13 : chTail 13 = some true := by kernel_rfl
theorem ch_t14 : chTail 14 = some true := by kernel_rfl
theorem ch_t15 : chTail 15 = some true := by kernel_rfl
theorem ch_t16 : chTail 16 = some true := by kernel_rfl
theorem ch_t17 : chTail 17 = some true := by kernel_rfl
theorem ch_t18 : chTail 18 = some true := by kernel_rfl
theorem ch_t19 : chTail 19 = some true := by kernel_rfl
theorem ch_t20 : chTail 20 = some true := by kernel_rfl
theorem ch_t21 : chTail 21 = some true := by kernel_rfl
theorem ch_t22 : chTail 22 = some true := by kernel_rfl
theorem ch_t23 : chTail 23 = some true := by kernel_rfl
theorem ch_t24 : chTail 24 = some true := by kernel_rfl
theorem ch_tail {k : Nat} (h1 : 1 ≤ k) (h2 : k ≤ 24) : chTail k = some true := by
 rcases (by omega : k = 1 ∨ k = 2 ∨ k = 3 ∨ k = 4 ∨ k = 5 ∨ k = 6 ∨ k = 7 ∨ k = 8 ∨ k = 9 ∨ k = 10 ∨ k = 11 ∨ k = 12 ∨ k = 13 ∨ k = 14 ∨ k = 15 ∨ k = 16 ∨ k = 17 ∨ k = 18 ∨ k = 19 ∨ k = 20 ∨ k = 21 ∨ k = 22 ∨ k = 23 ∨ k = 24) with rfl | rfl | rfl | rfl | rfl | rfl | rfl | rfl | rfl | rfl | rfl | rfl | rfl | rfl | rfl | rfl | rfl | rfl | rfl | rfl | rfl | rfl | rfl | rfl
 ·exact ch_t1
 ·exact ch_t2
 ·exact ch_t3
 ·exact ch_t4
 ·exact ch_t5
 ·exact ch_t6
 ·exact ch_t7
 ·exact ch_t8
 ·exact ch_t9
 ·exact ch_t10
 ·exact ch_t11
 ·exact ch_t12
 ·exact ch_t13
 ·exact ch_t14
 ·exact ch_t15
 ·exact ch_t16
 ·exact ch_t17
 ·exact ch_t18
 ·exact ch_t19
 ·exact ch_t20
 ·exact ch_t21
 ·exact ch_t22
 ·exact ch_t23
 ·exact ch_t24
theorem settleChain {n : Int} (h0 : 0 ≤ n) (h1 : n ≤ 255) : w16_SettleChain n = some true := by
 unfold w16_SettleChain
 rw [w64_in (by omega) (by omega), rem_pos h0 (by omega), Option.bind_some]
 obtain ⟨k, hk, hk1, hk2⟩ : ∃ k : Nat, w64 (1 + n % 24) = (k : Int) ∧ 1 ≤ k ∧ k ≤ 24 := ⟨(1 + n % 24).toNat, by rw [w64_in (by omega) (by omega)]; omega, by omega, by omega⟩
 rw [hk]
 refine bnd (a := ch0) (by kernel_rfl) ?_
 simp only [jn]
 refine lpb_upS k (fun i x => x = chn i) (by omega) rfl (fun i x hi hx => .inl ⟨_, ?_, rfl⟩) (fun x hx => ⟨.inr (chn k), by rw [if_neg (by simp), hx], ?_⟩)
 ·subst hx
  dsimp only
  rw [if_pos (by simpa using hi)]
  exact ch_round (by omega)
 ·obtain ⟨hx, hB⟩ := ch_right hk2
  have hR := hx.sh.sr
  have hS := SB.sl hR hB.sb
  have t := ch_tail hk1 hk2
  unfold chTail at t
  rw [zero16 hR, Option.bind_some, live06 (rt_iff.2 hR), Option.bind_some] at t
  obtain ⟨y, e, hy, hyS, hroot⟩ := rootP hx hS 0 (h := 0) (by omega)
  have eb : chb k = y := by unfold chb; rw [hroot]; rfl
  rw [eb] at t
  have hyR := hy.sh.sr
  have hc := setl_right hy
  have hcS := setl_sl hy hyS
  rw [zero16 hyR, Option.bind_some, settle16 hy hyS, Option.bind_some, show (hO (setl y)).S = sO (setl y).S from rfl, live06 (rt_iff.2 hc.sh.sr), Option.bind_some, settled16 hc.sh.sr, Option.bind_some] at t
  have t := Option.some.inj t
  simp only [Bool.and_eq_true, beq_iff_eq] at t
  obtain ⟨⟨⟨⟨t0, t1⟩, t2⟩, t3⟩, t4, t5⟩ := t
  have z0 : zr (chn k) = [] := List.eq_nil_of_length_eq_zero t0
  dsimp only
  rw [settle_eq hx hS, setl_nil z0, Option.bind_some, hroot, Option.bind_some, settle_eq hy hyS, Option.bind_some, lv_live (rt_iff.2 hR), Option.bind_some]
  have c1 : (((lv (chn k).S).length : Int) == (k : Int)) = true := by rw [t1]; simp
  rw [c1]
  refine bnd (zero_eq hyR) ?_
  have c2 : (((zr y).length : Int) == 1) = true := by rw [t2]; rfl
  rw [c2]
  refine bnd (lv_live (rt_iff.2 hc.sh.sr)) ?_
  have c3 : (((lv (setl y).S).length : Int) == 0) = true := by rw [t3]; rfl
  rw [c3]
  refine bnd (settled_eq hc.sh.sr) ?_
  have c5 : ((setl y).S.Serial == (k : Int)) = true := by
   have : (sO (setl y).S).Serial = (setl y).S.Serial := rfl
   rw [this] at t5
   simpa using t5
  rw [t4, c5]
  refine bnd shown16 ?_
  rfl
end Go.Sh
