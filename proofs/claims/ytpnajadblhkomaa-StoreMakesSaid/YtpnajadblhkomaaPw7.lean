/-
  Whatever an operation of the state does, the operation of the program does (II): those that only look.
-/
import Derived.Test.YtpnajadblhkomaaPw6
namespace Go.Pw
open Go.RowKit
set_option linter.unusedVariables false

section
variable {X : Ctx} {g : Gh} {st : St} {a : Act} {w : World}

theorem drop_get {α : Type} {l : List α} {k j : Nat} {y : α} (h : (l.drop k)[j]? = some y) : l[k + j]? = some y := by rwa [List.getElem?_drop] at h

/-- What stays readable behind an address goes on further on. -/
theorem Rd.rptr_drop {w : World} {imm : Nat → Nat → Prop} {b o k : Nat} {cs : List PV} {u : Nat → Value} (hsc : cs.all PV.sc = true)
    (hc : ∀ (j : Nat) y, cs[j]? = some y → imm b (o + j) ∧ w.cell? ⟨b, o + j, none⟩ = some (u j) ∧ Rd0 w imm (u j) y) :
    Rd0 w imm (.pointer (some ⟨b, o + k, none⟩)) (.rptr (cs.drop k)) := by
  refine .rptr b (o + k) _ (fun j => u (k + j)) ?_ (fun j y hy => ?_) (fun j y hy => (hc _ y (drop_get hy)).2.2)
  · rw [List.all_eq_true] at hsc ⊢
    exact fun c hc => hsc c (List.mem_of_mem_drop hc)
  · have := hc _ y (drop_get hy)
    rw [Nat.add_assoc]
    exact ⟨this.1, this.2.1⟩

theorem run_indexAt_sl {P : Program} {T E : TypeId} {z b s len c : Nat} {k : IntKind} {m : Int} (hE : telem P T = some E) (hz : tsize P E = some z) (h0 : 0 ≤ m) (hm : m < len) :
    (Instr.indexAt T (.slice (some ⟨b, s, none⟩) len c) (.int k m)).run P w = .ok (.pointer (some ⟨b, s + m.toNat * z, none⟩)) w := by
  have hu := telem_inv hE
  simp only [Instr.indexAt, asIntOf, Sem.run_bind, Sem.run_pure, Result.andThen_ok, run_underlying hu]
  rw [if_pos ⟨h0, hm⟩]
  simp only [Sem.run_bind, run_sizeOf' hz, Result.andThen_ok, addr_add]
  rfl

theorem run_indexAt_arr {P : Program} {T E : TypeId} {z b s len : Nat} {k : IntKind} {m : Int} (hE : tarr P T = some (len, E)) (hz : tsize P E = some z) (h0 : 0 ≤ m) (hm : m < len) :
    (Instr.indexAt T (.pointer (some ⟨b, s, none⟩)) (.int k m)).run P w = .ok (.pointer (some ⟨b, s + m.toNat * z, none⟩)) w := by
  have hu := tarr_inv hE
  simp only [Instr.indexAt, asIntOf, Sem.run_bind, Sem.run_pure, Result.andThen_ok, run_underlying hu, Instr.sureAddr]
  rw [if_pos ⟨h0, hm⟩]
  simp only [Sem.run_bind, run_sizeOf' hz, Result.andThen_ok, addr_add]
  rfl

set_option maxHeartbeats 2000000 in
/-- Operations that only look. -/
theorem op_look {o : Oper} {σF : Nat → Option Row} {d : PV} {e : Eff} (h : Sim X g st a w) (hop : OpR X.P σF (evP st.env) o.dst o.op d e) (hs : Same st.σ σF)
    (hlook : match o.op with | .move _ | .assign _ | .pick .. | .load .. | .nilCheck _ | .unOp .. | .binOp .. | .convert .. | .fieldAddr .. | .field .. | .indexAddr .. | .extract .. | .makeFunc .. => True | _ => False) :
    e = .none ∧ ∃ u, (execOp a.eval o).run X.P w = .ok (.value u) w ∧ Rd w g.imm g.μ st.pres u d := by
  obtain ⟨dst, op, ty, pos, after, guard⟩ := o
  simp only at hop hlook
  cases hop <;> first | (exact hlook.elim) | refine ⟨rfl, ?_⟩
  case pureV hnd hnl hc => exact hc _ w g.imm g.μ st.pres a.eval rfl fun x _ => h.eval x
  case move x => exact ⟨_, rfl, h.eval x⟩
  case assign x => exact ⟨_, rfl, h.eval x⟩
  case pick c p q t hc =>
    have hv := h.eval c
    rw [hc] at hv
    have hb := hv.bool_inv
    refine ⟨if t then a.eval p else a.eval q, ?_, ?_⟩
    · simp only [execOp, hb]
      cases t <;> rfl
    · cases t
      · exact h.eval q
      · exact h.eval p
  case loadA T x l i f r y m hx hl hy ha hsz hf =>
    have hv := h.eval x
    rw [hx] at hv
    obtain ⟨r0, h1, h2, h3, h4⟩ := hs.at hv.ptr_inv.1 hl
    obtain ⟨u, hr, hu⟩ := h.loadA hv h1 (by rw [h2]; exact hy) ha hsz hf
    exact ⟨u, run_v hr, hu⟩
  case loadS T x l i f r y hx hl hy ha hf =>
    have hv := h.eval x
    rw [hx] at hv
    obtain ⟨r0, h1, h2, h3, h4⟩ := hs.at hv.ptr_inv.1 hl
    obtain ⟨u, hr, hu⟩ := h.loadS hv h1 (by rw [h2]; exact hy) ha hf
    exact ⟨u, run_v hr, hu⟩
  case loadRA T x cs m hx ha hsz hf =>
    have hv := h.eval x
    rw [hx] at hv
    obtain ⟨u, hr, hu⟩ := h.loadRA hv ha hsz hf
    exact ⟨u, run_v hr, hu⟩
  case loadRS T x cs hx ha hf =>
    have hv := h.eval x
    rw [hx] at hv
    obtain ⟨u, hr, hu⟩ := h.loadRS hv ha hf
    exact ⟨u, run_v hr, hu⟩
  case nilCheckP x l i f hx =>
    have hv := h.eval x
    refine ⟨_, ?_, hv⟩
    rw [hx] at hv
    obtain ⟨_, b, s, _, e⟩ := hv.ptr_inv
    simp only [execOp, e]
    rfl
  case nilCheckR x cs hx =>
    have hv := h.eval x
    refine ⟨_, ?_, hv⟩
    rw [hx] at hv
    obtain ⟨b, s, _, e, _⟩ := hv.rptr_inv
    simp only [execOp, e]
    rfl
  case not t x b hx =>
    have hv := h.eval x
    rw [hx] at hv
    refine ⟨.bool (!b), ?_, .cl (.bool _)⟩
    simp only [execOp, hv.bool_inv, Op.unary]
    rfl
  case neg t x k m hx =>
    have hv := h.eval x
    rw [hx] at hv
    refine ⟨.int k (k.wrap (0 - m)), ?_, .cl (.int _ _)⟩
    simp only [execOp, hv.int_inv, Op.unary, Op.intArith]
    rfl
  case ari bop t t2 x y k p q r hx hy hr =>
    have hv := h.eval x
    have hu := h.eval y
    rw [hx] at hv
    rw [hy] at hu
    refine ⟨.int k r, ?_, .cl (.int _ _)⟩
    simp only [execOp, hv.int_inv, hu.int_inv]
    exact run_bin ⟨fun _ q => (by cases q), fun q => (by cases q)⟩ (run_ari hr)
  case cmp bop t t2 x y k p q r hx hy hr =>
    have hv := h.eval x
    have hu := h.eval y
    rw [hx] at hv
    rw [hy] at hu
    refine ⟨.bool r, ?_, .cl (.bool _)⟩
    simp only [execOp, hv.int_inv, hu.int_inv]
    exact run_bin ⟨fun _ q => (by cases q), fun q => (by cases q)⟩ (run_cmp hr)
  case eqB t t2 x y p q hx hy ht =>
    have hv := h.eval x
    have hu := h.eval y
    rw [hx] at hv
    rw [hy] at hu
    refine ⟨.bool (p == q), ?_, .cl (.bool _)⟩
    simp only [execOp, hv.bool_inv, hu.bool_inv]
    refine run_bin ⟨fun _ q => (by cases q), fun q => (by cases q)⟩ ?_
    have e : (binOp .eql t (.bool p) (.bool q) : Sem Value) = (do pure (.bool (← Op.equal t (.bool p) (.bool q)))) := rfl
    rw [e, Sem.run_bind, run_equal_bool ht]
    rfl
  case neB t t2 x y p q hx hy ht =>
    have hv := h.eval x
    have hu := h.eval y
    rw [hx] at hv
    rw [hy] at hu
    refine ⟨.bool (p != q), ?_, .cl (.bool _)⟩
    simp only [execOp, hv.bool_inv, hu.bool_inv]
    refine run_bin ⟨fun _ q => (by cases q), fun q => (by cases q)⟩ ?_
    have e : (binOp .neq t (.bool p) (.bool q) : Sem Value) = (do pure (.bool (!(← Op.equal t (.bool p) (.bool q))))) := rfl
    rw [e, Sem.run_bind, run_equal_bool ht]
    rfl
  case eqS t t2 x y p q hx hy =>
    have hv := h.eval x
    have hu := h.eval y
    rw [hx] at hv
    rw [hy] at hu
    refine ⟨.bool (p.toList == q.toList), ?_, .cl (.bool _)⟩
    simp only [execOp, hv.str_inv, hu.str_inv]
    exact run_bin ⟨fun _ q => (by cases q), fun q => (by cases q)⟩ (by simp [binOp, Op.stringOp])
  case neS t t2 x y p q hx hy =>
    have hv := h.eval x
    have hu := h.eval y
    rw [hx] at hv
    rw [hy] at hu
    refine ⟨.bool (!(p.toList == q.toList)), ?_, .cl (.bool _)⟩
    simp only [execOp, hv.str_inv, hu.str_inv]
    exact run_bin ⟨fun _ q => (by cases q), fun q => (by cases q)⟩ (by simp [binOp, Op.stringOp])
  case conv s t x k k' m hx h1 h2 =>
    have hv := h.eval x
    rw [hx] at hv
    refine ⟨.int k (k.wrap m), ?_, .cl (.int _ _)⟩
    simp only [execOp, hv.int_inv]
    refine run_v ?_
    obtain ⟨D, hD⟩ := Option.isSome_iff_exists.1 h1
    simp only [convert, Sem.run_bind, run_underlying hD, run_underlying (tint_inv h2), Result.andThen_ok]
    simp [Conv.intToInt]
  case fieldAddrP T x f l i q off ft hx ho =>
    have hv := h.eval x
    rw [hx] at hv
    obtain ⟨hp, b, s, hA, e⟩ := hv.ptr_inv
    refine ⟨_, ?_, .ptr l i (q + off) b s hp hA⟩
    simp only [execOp, e]
    rw [run_v (run_fieldPlace ho)]
    rw [Nat.add_assoc]
  case fieldAddrR T x f cs off ft hx ho =>
    have hv := h.eval x
    rw [hx] at hv
    obtain ⟨b, o, u, e, hsc, hc⟩ := hv.rptr_inv
    refine ⟨_, ?_, .cl (Rd.rptr_drop (k := off) hsc hc)⟩
    simp only [execOp, e]
    exact run_v (run_fieldPlace ho)
  case fieldA T x f cs off ft m hx ho ha hsz hn =>
    have hv := h.eval x
    rw [hx] at hv
    obtain ⟨vs, e, hlen, hc⟩ := hv.agg_inv
    obtain ⟨fs, fd, h1, h2, rfl, rfl⟩ := foff_inv ho
    refine ⟨.agg (vs.extract fd.offset (fd.offset + m)), ?_, ?_⟩
    · simp only [execOp, e]
      refine run_v ?_
      simp only [Instr.field, Sem.run_bind, run_underlying h1, Result.andThen_ok, h2, asAgg, Sem.run_pure, run_part ha hsz]
    · refine .agg _ _ ?_ (by simp; omega) fun j v c hv' hc' => ?_
      · skip
        have hsc : cs.all PV.sc = true := hv.agg_sc
        rw [List.all_eq_true] at hsc ⊢
        exact fun c hc => hsc c (List.mem_of_mem_drop (List.mem_of_mem_take hc))
      · have hj : j < m := by have := lt_of_get hc'; simp at this; omega
        rw [List.getElem?_take_of_lt hj, List.getElem?_drop] at hc'
        have : vs[fd.offset + j]? = some v := by
          rw [Array.getElem?_extract] at hv'
          split at hv'
          · exact hv'
          · cases hv'
        exact hc _ v c this hc'
  case fieldS T x f cs off ft hx ho ha hd =>
    have hv := h.eval x
    rw [hx] at hv
    obtain ⟨vs, e, hlen, hc⟩ := hv.agg_inv
    obtain ⟨fs, fd, h1, h2, rfl, rfl⟩ := foff_inv ho
    have hlt : fd.offset < vs.size := by rw [hlen]; exact lt_of_get hd
    refine ⟨vs[fd.offset], ?_, hc _ _ d (Array.getElem?_eq_getElem hlt) hd⟩
    simp only [execOp, e]
    refine run_v ?_
    simp only [Instr.field, Sem.run_bind, run_underlying h1, Result.andThen_ok, h2, asAgg, Sem.run_pure, run_part1 ha (Array.getElem?_eq_getElem hlt)]
  case idxL T x y t xs k m e0 E hx hy h0 he hE hz =>
    have hv := h.eval x
    have hu := h.eval y
    rw [hx] at hv
    rw [hy] at hu
    obtain ⟨A, c, z, u, e, h1, h2, h3, h4, h5, h6⟩ := hv.lst_inv
    have hlt := lt_of_get he
    obtain ⟨b, s, rfl, h7⟩ := h5 (by omega)
    have hz' := (h4 e0 (List.mem_of_getElem? he)).2
    rw [hz'] at hz
    refine ⟨.pointer (some ⟨b, s + m.toNat * z, none⟩), ?_, .cl (.rptr b _ _ (fun j => u m.toNat j) ?_ (fun j y hy' => h7 m.toNat e0 j y he hy') (fun j y hy' => h6 m.toNat e0 j y he hy'))⟩
    · simp only [execOp, e, hu.int_inv]
      exact run_v (run_indexAt_sl hE hz h0 (by omega))
    · rw [List.all_eq_true]
      exact PV.el_cells (h4 e0 (List.mem_of_getElem? he)).1
  case idxR T x y l r k m E hx hl hy h0 hm hE hz =>
    have hv := h.eval x
    have hu := h.eval y
    rw [hx] at hv
    rw [hy] at hu
    obtain ⟨hp, e⟩ := hv.sl_inv
    obtain ⟨r0, k1, k2, k3, k4⟩ := hs.at hp hl
    have hR := h.rows l r0 k1
    obtain ⟨b, s, hA⟩ := hR.spot (by have := hR.C; have := hR.n; rw [k2] at this; omega)
    refine ⟨_, ?_, .ptr l m.toNat 0 b s hp hA⟩
    simp only [execOp, e, hu.int_inv, hA]
    refine run_v ?_
    rw [run_indexAt_sl hE hz h0 (by rw [hR.n, k2]; omega), hR.z, k3]
    rfl
  case idxA T x y l i f k m len E z hx hy h0 hm hE hz =>
    have hv := h.eval x
    have hu := h.eval y
    rw [hx] at hv
    rw [hy] at hu
    obtain ⟨hp, b, s, hA, e⟩ := hv.ptr_inv
    refine ⟨_, ?_, .ptr l i (f + m.toNat * z) b s hp hA⟩
    simp only [execOp, e, hu.int_inv]
    refine run_v ?_
    rw [run_indexAt_arr hE hz h0 hm, Nat.add_assoc]
  case idxRA T x y cs k m len E z hx hy h0 hm hE hz =>
    have hv := h.eval x
    have hu := h.eval y
    rw [hx] at hv
    rw [hy] at hu
    obtain ⟨b, o, u, e, hsc, hc⟩ := hv.rptr_inv
    refine ⟨_, ?_, .cl (Rd.rptr_drop (k := m.toNat * z) hsc hc)⟩
    simp only [execOp, e, hu.int_inv]
    exact run_v (run_indexAt_arr hE hz h0 hm)
  case extract x i ds hx hd =>
    have hv := h.eval x
    rw [hx] at hv
    obtain ⟨vs, e, hlen, hc⟩ := hv.tup_inv
    have hlt : i < vs.size := by rw [hlen]; exact lt_of_get hd
    refine ⟨vs[i], ?_, hc _ _ d (Array.getElem?_eq_getElem hlt) hd⟩
    simp only [execOp, e]
    refine run_v ?_
    simp only [Instr.extract, Array.getElem?_eq_getElem hlt]
    rfl
  case mkFunc fn cap =>
    refine ⟨.func fn #[] (cap.map a.eval), by simp [execOp, Instr.makeFunc], .fn fn _ _ (by simp) fun i v c hv hc => ?_⟩
    rw [Array.getElem?_map] at hv
    rw [List.getElem?_map, Array.getElem?_toList] at hc
    cases hq : cap[i]? with
    | none => rw [hq] at hv; cases hv
    | some x =>
      rw [hq] at hv hc
      cases hv
      cases hc
      exact h.eval x

end
end Go.Pw
