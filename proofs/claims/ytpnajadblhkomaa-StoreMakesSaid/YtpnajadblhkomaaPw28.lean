/-
  Maps: made, read, written, and let go.
-/
import Derived.Test.YtpnajadblhkomaaPw27
import Derived.MapKept
import Derived.Carry
namespace Go.Pw
open Go.RowKit Go.Sh Go.Instr
set_option linter.unusedVariables false
set_option linter.unusedSectionVars false

/-- The place of a key. -/
def kidx {K : Type} [BEq K] : List K → K → Option Nat
  | [], _ => none
  | a :: ks, k => if k == a then some 0 else (kidx ks k).map (· + 1)

theorem mget_kidx {K V : Type} [BEq K] : ∀ (es : List (K × V)) (k : K), mget es k = (kidx (es.map (·.1)) k).bind fun i => es[i]?.map (·.2)
  | [], _ => rfl
  | p :: es, k => by
    unfold mget
    rw [List.map_cons, kidx]
    split
    · rfl
    · rw [mget_kidx es k]
      cases kidx (es.map (·.1)) k <;> rfl
theorem mput_kidx {K V : Type} [BEq K] : ∀ (es : List (K × V)) (k : K) (v : V), mput es k v = match kidx (es.map (·.1)) k with
    | some i => es.set i (k, v)
    | none => es ++ [(k, v)]
  | [], _, _ => rfl
  | p :: es, k, v => by
    unfold mput
    rw [List.map_cons, kidx]
    split
    · rfl
    · rw [mput_kidx es k v]
      cases kidx (es.map (·.1)) k <;> rfl
theorem mdel_kidx {K V : Type} [BEq K] : ∀ (es : List (K × V)) (k : K), mdel es k = match kidx (es.map (·.1)) k with
    | some i => es.eraseIdx i
    | none => es
  | [], _ => rfl
  | p :: es, k => by
    unfold mdel
    rw [List.map_cons, kidx]
    split
    · rfl
    · rw [mdel_kidx es k]
      cases kidx (es.map (·.1)) k <;> rfl

theorem kidx_lt {K : Type} [BEq K] : ∀ (ks : List K) (k : K) (i : Nat), kidx ks k = some i → ∃ h : i < ks.length, (k == ks[i]) = true
  | [], _, _, h => by cases h
  | a :: ks, k, i, h => by
    rw [kidx] at h
    split at h
    · rename_i q
      cases h
      exact ⟨Nat.zero_lt_succ _, q⟩
    · rw [Option.map_eq_some_iff] at h
      obtain ⟨j, h1, rfl⟩ := h
      obtain ⟨h2, h3⟩ := kidx_lt ks k j h1
      exact ⟨Nat.succ_lt_succ h2, by simpa using h3⟩

/-- The entries read as keys of a kind. -/
def Keys {K : Type} (EK : K → PV) (ents : List MapEntry) (ks : List K) (w : World) (imm : Nat → Nat → Prop) : Prop :=
  ents.length = ks.length ∧ ∀ (i : Nat) e k, ents[i]? = some e → ks[i]? = some k → Rd0 w imm e.key (EK k)

/-- A type of keys. -/
structure KeyT (P : Program) (kt : TypeId) {K : Type} [BEq K] (EK : K → PV) : Prop where
  check : ∀ {w : World} {imm : Nat → Nat → Prop} {kv : Value} {k : K} (b : Bool), Rd0 w imm kv (EK k) → (checkKey b 10000 kt kv).run P w = .ok () w
  find : ∀ {w : World} {imm : Nat → Nat → Prop} {kv : Value} {k : K} (ents : List MapEntry) (ks : List K), Rd0 w imm kv (EK k) → Keys EK ents ks w imm → (findKey kt kv ents).run P w = .ok ((kidx ks k).bind fun i => ents[i]?.map fun e => (i, e.val)) w
  stays : ∀ {w : World} {imm : Nat → Nat → Prop} {kv ku : Value} {k u : K}, Rd0 w imm kv (EK k) → Rd0 w imm ku (EK u) → (k == u) = true → (keyThatStays ku kv).run P w = .ok kv w
  clo : ∀ k : K, (EK k).clo = true ∧ (EK k).w1 = EK k
  eq : ∀ k u : K, (k == u) = true → k = u

theorem findNow_int {ik : IntKind} {n : Int} : ∀ (ents : List MapEntry) (ks : List Int) (i0 : Nat), ents.length = ks.length → (∀ (i : Nat) e k, ents[i]? = some e → ks[i]? = some k → e.key = .int ik k) →
    findNow (.int ik) (.int ik n) ents i0 = some ((kidx ks n).bind fun i => ents[i]?.map fun e => (i0 + i, e.val))
  | [], [], i0, _, _ => rfl
  | e :: ents, [], _, h, _ => by simp at h
  | [], k :: ks, _, h, _ => by simp at h
  | e :: ents, k :: ks, i0, hl, h => by
    have h0 := h 0 e k rfl rfl
    rw [findNow, h0, kidx]
    simp only [sameNow, if_true]
    by_cases q : n = k
    · subst q
      simp
    · have q1 : (n == k) = false := by simpa using q
      rw [q1]
      simp only [Bool.false_eq_true, if_false]
      rw [findNow_int ents ks (i0 + 1) (by simpa using hl) fun i e' k' h1 h2 => h (i + 1) e' k' (by simpa using h1) (by simpa using h2)]
      cases kidx ks n with
      | none => rfl
      | some j =>
        simp only [Option.bind_some, Option.map_some, List.getElem?_cons_succ]
        rw [Nat.add_assoc, Nat.add_comm 1 j]

theorem keyT_int {P : Program} {kt : TypeId} {ik : IntKind} (h : P.underlying kt = some (.int ik)) : KeyT P kt (PV.int ik) where
  check b hr := by
    cases hr
    unfold checkKey
    simp only [Sem.run_bind, run_underlying h, Result.andThen_ok]
    rfl
  find ents ks hr hk := by
    cases hr
    unfold findKey
    simp only [Sem.run_bind, run_underlying h, Result.andThen_ok]
    rw [findNow_int ents ks 0 hk.1 fun i e k h1 h2 => by
      have := hk.2 i e k h1 h2
      cases hq : e.key <;> rw [hq] at this <;> cases this
      rfl]
    simp only [Nat.zero_add]
    rfl
  stays h1 h2 he := by
    cases h1
    cases h2
    rename_i k u
    have : k = u := by simpa using he
    subst this
    unfold keyThatStays
    rw [if_pos (by simp [sameBits])]
    rfl
  clo k := ⟨rfl, rfl⟩
  eq k u h := by simpa using h

theorem getObj_map {P : Program} {w : World} {b : Nat} {ents : Array MapEntry} {clock : Nat} (h : w.heap[b]? = some (.map ents clock)) : (getObj b).run P w = .ok (.map ents clock) w := by
  simp [getObj, Sem.run, h]
theorem setObj_map {P : Program} {w : World} {b : Nat} {ents : Array MapEntry} {clock : Nat} (o : Obj) (h : w.heap[b]? = some (.map ents clock)) : (setObj b o).run P w = .ok () (w.putObj b o) := by
  simp [setObj, Sem.run, h, World.putObj]

/-- An entry. -/
def ent {K V : Type} (EK : K → PV) (E : V → PV) (p : K × V) : PV := .tup [EK p.1, E p.2]

def tmap (P : Program) (t : TypeId) : Option (TypeId × TypeId) := match P.underlying t with | some (.map k e) => some (k, e) | _ => none
theorem tmap_inv {P : Program} {t k e : TypeId} (h : tmap P t = some (k, e)) : P.underlying t = some (.map k e) := by
  unfold tmap at h
  split at h
  · rename_i h'; cases h; exact h'
  · cases h

section
variable {P : Program} {w : World} {imm : Nat → Nat → Prop} {K V : Type} [BEq K] {EK : K → PV} {E : V → PV}

theorem MapAt.keys {b : Nat} {es : List (K × V)} (h : MapAt w imm b (es.map (ent EK E))) : ∃ ents clock, w.heap[b]? = some (.map ents clock) ∧ ents.toList.length = es.length ∧ Keys EK ents.toList (es.map (·.1)) w imm ∧
    ∀ (i : Nat) e p, ents.toList[i]? = some e → es[i]? = some p → Rd0 w imm e.val (E p.2) := by
  obtain ⟨ents, clock, h1, h2, h3⟩ := h
  have hl : ents.toList.length = es.length := by simpa using h2
  refine ⟨ents, clock, h1, hl, ⟨by simpa using hl, fun i e k q1 q2 => ?_⟩, fun i e p q1 q2 => ?_⟩
  · obtain ⟨kk, vv, k1, k2, k3⟩ := h3 i e (by simpa using q1)
    rw [List.getElem?_map] at k1 q2
    cases hq : es[i]? with
    | none => rw [hq] at q2; cases q2
    | some p =>
      rw [hq] at k1 q2
      cases q2
      cases k1
      exact k2
  · obtain ⟨kk, vv, k1, k2, k3⟩ := h3 i e (by simpa using q1)
    rw [List.getElem?_map, q2] at k1
    cases k1
    exact k3

theorem MapAt.find {b : Nat} {es : List (K × V)} (h : MapAt w imm b (es.map (ent EK E))) {kt : TypeId} (hK : KeyT P kt EK) {kv : Value} {k : K} (hk : Rd0 w imm kv (EK k)) :
    ∃ ents clock, w.heap[b]? = some (.map ents clock) ∧ (∀ e, (checkKey e 10000 kt kv).run P w = .ok () w) ∧ ((mget es k = none ∧ kidx (es.map (·.1)) k = none ∧ (findKey kt kv ents.toList).run P w = .ok none w) ∨
      ∃ i e p, kidx (es.map (·.1)) k = some i ∧ ents[i]? = some e ∧ es[i]? = some p ∧ mget es k = some p.2 ∧ (k == p.1) = true ∧ Rd0 w imm e.val (E p.2) ∧ Rd0 w imm e.key (EK p.1) ∧ (findKey kt kv ents.toList).run P w = .ok (some (i, e.val)) w) := by
  obtain ⟨ents, clock, h1, h2, h3, h4⟩ := h.keys
  refine ⟨ents, clock, h1, fun e => hK.check e hk, ?_⟩
  have hf := hK.find ents.toList (es.map (·.1)) hk h3
  rw [mget_kidx]
  cases hi : kidx (es.map (·.1)) k with
  | none => rw [hi] at hf; exact .inl ⟨rfl, rfl, hf⟩
  | some i =>
    obtain ⟨q1, q2⟩ := kidx_lt _ _ _ hi
    have q1' : i < es.length := by simpa using q1
    have q3 : i < ents.toList.length := by omega
    rw [hi] at hf
    rw [Option.bind_some, List.getElem?_eq_getElem q3] at hf
    refine .inr ⟨i, ents.toList[i], es[i], rfl, ?_, List.getElem?_eq_getElem q1', ?_, by simpa using q2, h4 i _ _ (List.getElem?_eq_getElem q3) (List.getElem?_eq_getElem q1'), h3.2 i _ _ (List.getElem?_eq_getElem q3) (by rw [List.getElem?_map, List.getElem?_eq_getElem q1']; rfl), hf⟩
    · rw [← Array.getElem?_toList, List.getElem?_eq_getElem q3]
    · rw [Option.bind_some, List.getElem?_eq_getElem q1']; rfl

/-- What a look-up gives. -/
def lkV (E : V → PV) (r : Option V) (z : PV) (ok : Bool) : PV :=
  if ok then .tup [match r with | some v => E v | none => z, .bool r.isSome] else match r with | some v => E v | none => z

theorem andFr {p q : Bool} (h : (p && q) = false) (hp : p = true) : q = false := by
  subst hp; simpa using h
theorem lk1 (E : V → PV) (r : Option V) (z : V) : lkV E r (E z) false = E (r.getD z) := by cases r <;> rfl
theorem lk2 (E : V → PV) (r : Option V) (z : V) : lkV E r (E z) true = .tup [E (r.getD z), .bool r.isSome] := by cases r <;> rfl

theorem run_lookup {b : Nat} {es : List (K × V)} (h : MapAt w imm b (es.map (ent EK E))) {T kt et : TypeId} (hT : tmap P T = some (kt, et)) (hK : KeyT P kt EK) {kv : Value} {k : K} (hk : Rd0 w imm kv (EK k)) {zv : Value} (hz : tzero P et = some zv) (ok : Bool) :
    ∃ v, (Instr.lookup T (.map (some b)) kv ok).run P w = .ok v w ∧ Rd0 w imm v (lkV E (mget es k) (PV.ofV zv) ok) := by
  obtain ⟨ents, clock, h1, h2, h3⟩ := h.find hK hk
  unfold Instr.lookup
  simp only [Sem.run_bind, run_underlying (tmap_inv hT), Result.andThen_ok, getObj_map h1, Sem.run_pure, h2]
  rcases h3 with ⟨q1, _, q2⟩ | ⟨i, e, p, _, _, _, q1, _, q3, _, q4⟩
  · rw [q1, q2]
    simp only [Result.andThen_ok, Sem.run_bind, run_zero' hz, Sem.run_pure]
    cases ok
    · exact ⟨_, rfl, rd_ofV _ _ _⟩
    · refine ⟨_, rfl, .tup _ _ rfl fun i v c hv hc => ?_⟩
      match i with
      | 0 => simp at hv hc; subst hv; subst hc; exact rd_ofV _ _ _
      | 1 => simp at hv hc; subst hv; subst hc; exact .bool _
      | _ + 2 => simp at hv
  · rw [q1, q4]
    simp only [Result.andThen_ok, Sem.run_bind, Sem.run_pure]
    cases ok
    · exact ⟨_, rfl, q3⟩
    · refine ⟨_, rfl, .tup _ _ rfl fun i v c hv hc => ?_⟩
      match i with
      | 0 => simp at hv hc; subst hv; subst hc; exact q3
      | 1 => simp at hv hc; subst hv; subst hc; exact .bool _
      | _ + 2 => simp at hv
end

section
variable {X : Ctx} {g : Gh} {st : St} {a : Act} {w : World} {K V : Type} [BEq K] {EK : K → PV} {E : V → PV}

/-- What lies in a block that is no block of cells is turned: cells are as they were. -/
theorem cell_put {l : Nat} {o o' : Obj} (hl : w.heap[l]? = some o) (hc : o.isCells = false) (hc' : o'.isCells = false) (b i : Nat) : (w.putObj l o').cell? ⟨b, i, none⟩ = w.cell? ⟨b, i, none⟩ := by
  have hlt : l < w.heap.size := (Array.getElem?_eq_some_iff.1 hl).1
  by_cases e : b = l
  · subst e
    have none_of : ∀ (W : World) (o : Obj), W.heap[b]? = some o → o.isCells = false → W.cell? ⟨b, i, none⟩ = none := by
      intro W o hW ho
      cases hq : W.cell? ⟨b, i, none⟩ with
      | none => rfl
      | some u =>
        obtain ⟨o2, k1, k2⟩ := cells_of_cell hq
        rw [show W.heap[b]? = some o2 from k1] at hW
        cases hW
        rw [k2] at ho
        cases ho
    rw [none_of _ _ (World.putObj_heap_same hlt) hc', none_of _ _ hl hc]
  · exact World.cell?_of_block (by rw [World.putObj_heap_other e])

/-- A map of one's own is turned. -/
theorem Sim.mset (h : Sim X g st a w) {l b : Nat} {r : Row} {ents' : Array MapEntry} {clock' : Nat} {es' : List PV} (hl : MB ≤ l) (hr : st.σ l = some r) (hrc : r.cl = false) (hA : (g.μ l).A = some ⟨b, 0, none⟩)
    (hn : ents'.size = es'.length) (hm : ∀ (i : Nat) e, ents'[i]? = some e → ∃ k v, es'[i]? = some (.tup [k, v]) ∧ Rd0 w g.imm e.key k ∧ Rd0 w g.imm e.val v) :
    Sim X g ⟨st.env, upd st.σ l (some { r with els := [.mapc es'] })⟩ a (w.putObj b (.map ents' clock')) := by
  obtain ⟨b', es0, m1, m2, m3, m4, m5, m6⟩ := h.maps.at_ l r hl hr
  rw [hA] at m2
  cases m2
  obtain ⟨ents0, clock0, q0, _, _⟩ := m4
  have hni := m5 hrc
  have hlt : b < w.heap.size := (Array.getElem?_eq_some_iff.1 q0).1
  have hcell := cell_put (w := w) (o' := .map ents' clock') q0 rfl rfl
  have hx : Ext w g.imm (w.putObj b (.map ents' clock')) g.imm := ⟨fun _ _ q => q, fun b i _ => hcell b i, fun b2 i x q hx' hm' => by
    by_cases e : b2 = b
    · subst e; exact absurd q (hni i)
    · rw [World.putObj_heap_other e]; exact hx'⟩
  have hp : ∀ l', st.pres l' → St.pres ⟨st.env, upd st.σ l (some { r with els := [.mapc es'] })⟩ l' ∧ g.μ l' = g.μ l' := by
    rintro l' ⟨r', hr'⟩
    refine ⟨?_, rfl⟩
    by_cases e : l' = l
    · exact ⟨_, by rw [e]; exact upd_same _ _ _⟩
    · exact ⟨r', by rw [show (St.mk st.env (upd st.σ l (some { r with els := [.mapc es'] }))).σ l' = st.σ l' from upd_other _ _ e]; exact hr'⟩
  have hcase : ∀ l' r', upd st.σ l (some { r with els := [.mapc es'] }) l' = some r' → (l' = l ∧ r' = { r with els := [.mapc es'] }) ∨ (l' ≠ l ∧ st.σ l' = some r') := by
    intro l' r' q
    by_cases e : l' = l
    · subst e; rw [upd_same] at q; cases q; exact .inl ⟨rfl, rfl⟩
    · rw [upd_other _ _ e] at q; exact .inr ⟨e, q⟩
  have hfro : ∀ l' r', st.σ l' = some r' → ∀ b2 i, OwnR (g.μ l') r' b2 i → (w.putObj b (.map ents' clock')).frozen? ⟨b2, i, none⟩ = w.frozen? ⟨b2, i, none⟩ := fun l' r' q b2 i ho => by
    have e : b2 ≠ b := fun e => by
      subst e
      have := own_no_map (h.rows l' r' q) ho q0
      cases this
    unfold World.frozen?
    simp only
    rw [World.putObj_heap_other e]
  have hR := h.rows l r hr
  refine ⟨h.size, fun i => (h.env i).mono hx hp, fun l' r' q => ?_, fun l1 l2 r1 r2 hne q1 q2 b' o' ho => ?_, fun l' r' b' o' q ho => ?_, fun b2 i q => ?_, h.immsub, h.immsup, ?_, ?_, fun p hp => ?_, h.big, ⟨fun l' r' hl' q => ?_, fun l1 l2 r1 r2 h1 h2 hne q1 q2 q3 => ?_⟩⟩
  · rcases hcase l' r' q with ⟨rfl, rfl⟩ | ⟨e, q'⟩
    · refine ⟨?_, hR.z, hR.C, ?_, fun x hx' => ?_, hR.nil, hR.spot, fun i x j y hx' hy => ?_, fun b2 o2 ho => ?_⟩
      · rw [hR.n, m1]; rfl
      · exact hR.lo
      · simp only [List.mem_singleton] at hx'
        subst hx'
        refine ⟨rfl, ?_⟩
        have := (hR.el _ (by rw [m1]; exact List.mem_cons_self ..)).2
        rw [← this]; rfl
      · have : x = .mapc es' := by
          cases i with
          | zero => simp at hx'; exact hx'.symm
          | succ i => simp at hx'
        subst this
        cases hy
      · obtain ⟨k1, k2, k3⟩ := hR.own b2 o2 ho
        exact ⟨k1, by rw [hcell]; exact k2, by rw [hfro _ _ hr _ _ ho]; exact k3⟩
    · exact (h.rows l' r' q').mono hx hp fun b2 i ho => ⟨hcell b2 i, hfro l' r' q' b2 i ho⟩
  · rcases hcase l1 r1 q1 with ⟨rfl, rfl⟩ | ⟨e1, q1'⟩ <;> rcases hcase l2 r2 q2 with ⟨rfl, rfl⟩ | ⟨e2, q2'⟩
    · exact absurd rfl hne
    · exact fun k => h.disj l1 l2 r r2 hne hr q2' b' o' ho k
    · exact fun k => h.disj l1 l2 r1 r hne q1' hr b' o' ho k
    · exact h.disj l1 l2 r1 r2 hne q1' q2' b' o' ho
  · rcases hcase l' r' q with ⟨rfl, rfl⟩ | ⟨e, q'⟩
    · exact h.ownimm l' r b' o' hr ho
    · exact h.ownimm l' r' b' o' q' ho
  · have := h.immlt b2 i q
    simpa [World.putObj] using this
  · exact h.below.trans ⟨⟨rfl, rfl, rfl, by simp [World.putObj], fun k hk => World.putObj_heap_other (by omega)⟩, Nat.le_refl _⟩
  · obtain ⟨rs, h1, h2, h3⟩ := h.marks
    refine ⟨rs, h1, h2, fun r hr => ⟨?_, (h3 r hr).2⟩⟩
    rw [World.putObj_heap_other (fun e => by subst e; have h4 := (h3 _ hr).1; rw [q0] at h4; cases h4)]
    exact (h3 r hr).1
  · obtain ⟨k1, k2, k3⟩ := h.obs p hp
    refine ⟨?_, k2, k3⟩
    rw [World.putObj_heap_other (fun e => by rw [e, q0] at k1; rw [← Option.some.inj k1] at k3; cases k3)]
    exact k1
  · have apart' := h.maps.apart
    rcases hcase l' r' q with ⟨rfl, rfl⟩ | ⟨e, q'⟩
    · refine ⟨b, es', rfl, hA, m3, ⟨ents', clock', World.putObj_heap_same hlt, hn, fun i e hi => ?_⟩, m5, m6⟩
      obtain ⟨k, v, k1, k2, k3⟩ := hm i e hi
      exact ⟨k, v, k1, k2.mono hx, k3.mono hx⟩
    · obtain ⟨b2, es2, n1, n2, n3, n4, n5, n6⟩ := h.maps.at_ l' r' hl' q'
      have hne : b2 ≠ b := fun e2 => by
        subst e2
        exact h.maps.apart l l' r r' hl hl' (Ne.symm e) hr q' hrc (by rw [hA, n2])
      exact ⟨b2, es2, n1, n2, n3, n4.mono hx fun o k1 k2 => by rw [World.putObj_heap_other hne]; exact k1, n5, n6⟩
  · have f : ∀ l' q, upd st.σ l (some { r with els := [.mapc es'] }) l' = some q → ∃ q', st.σ l' = some q' ∧ q'.cl = q.cl := fun l' q hq => by
      rcases hcase l' q hq with ⟨rfl, rfl⟩ | ⟨e, q'⟩
      · exact ⟨r, hr, rfl⟩
      · exact ⟨q, q', rfl⟩
    obtain ⟨s1, k1, k2⟩ := f l1 r1 q1
    obtain ⟨s2, k3, _⟩ := f l2 r2 q2
    exact h.maps.apart l1 l2 s1 s2 h1 h2 hne k1 k3 (by rw [k2]; exact q3)

/-- A map is made. -/
theorem Sim.mnew (h : Sim X g st a w) {l : Nat} (hl : MB ≤ l) (hn : st.σ l = none) :
    Sim X ⟨g.imm, upd g.μ l ⟨some ⟨w.heap.size, 0, none⟩, 1, 1, 0⟩⟩ ⟨st.env, upd st.σ l (some ⟨[.mapc []], 0, false, 0, false⟩)⟩ a (w.alloc (.map #[] 0)) := by
  have h1 := h.alloc (.map #[] 0)
  have hno : ∀ b o, ¬ OwnR ⟨some ⟨w.heap.size, 0, none⟩, 1, 1, 0⟩ ⟨[.mapc []], 0, false, 0, false⟩ b o := by
    rintro b o ⟨s, _, k1, k2⟩
    simp only [Nat.mul_zero, Nat.add_zero] at k1 k2
    omega
  have hp : ∀ l', st.pres l' → St.pres ⟨st.env, upd st.σ l (some ⟨[.mapc []], 0, false, 0, false⟩)⟩ l' ∧ upd g.μ l ⟨some ⟨w.heap.size, 0, none⟩, 1, 1, 0⟩ l' = g.μ l' := by
    rintro l' ⟨r', hr'⟩
    have hne : l' ≠ l := fun e => by subst e; rw [hn] at hr'; cases hr'
    exact ⟨⟨r', by simpa [upd_other _ _ hne] using hr'⟩, upd_other _ _ hne⟩
  have hcase : ∀ l' r', upd st.σ l (some ⟨[.mapc []], 0, false, 0, false⟩) l' = some r' → (l' = l ∧ r' = ⟨[.mapc []], 0, false, 0, false⟩) ∨ (l' ≠ l ∧ st.σ l' = some r') := by
    intro l' r' q
    by_cases e : l' = l
    · subst e; rw [upd_same] at q; cases q; exact .inl ⟨rfl, rfl⟩
    · rw [upd_other _ _ e] at q; exact .inr ⟨e, q⟩
  have hnew : (w.alloc (.map #[] 0)).heap[w.heap.size]? = some (.map #[] 0) := World.alloc_heap_new ..
  refine ⟨h1.size, fun i => (h1.env i).mono (Ext.refl _ _) hp, fun l' r' q => ?_, fun l1 l2 r1 r2 hne q1 q2 b o ho => ?_, fun l' r' b o q ho => ?_, h1.immlt, h1.immsub, h1.immsup, h1.below, h1.marks, h1.obs, h1.big, ⟨fun l' r' hl' q => ?_, fun l1 l2 r1 r2 k1 k2 hne q1 q2 q3 => ?_⟩⟩
  · rcases hcase l' r' q with ⟨rfl, rfl⟩ | ⟨e, q'⟩
    · simp only [upd_same]
      refine ⟨rfl, rfl, Nat.le_refl _, Nat.zero_le _, fun x hx => ?_, (fun q => by cases q), fun _ => ⟨_, _, rfl⟩, fun i x j y hx hy => ?_, fun b o ho => absurd ho (hno b o)⟩
      · simp only [List.mem_singleton] at hx; subst hx; exact ⟨rfl, rfl⟩
      · have : x = .mapc [] := by
          cases i with
          | zero => simp at hx; exact hx.symm
          | succ i => simp at hx
        subst this
        cases hy
    · simp only [upd_other _ _ e]
      exact (h1.rows l' r' q').mono (Ext.refl _ _) hp fun _ _ _ => ⟨rfl, rfl⟩
  · rcases hcase l1 r1 q1 with ⟨rfl, rfl⟩ | ⟨e1, q1'⟩ <;> rcases hcase l2 r2 q2 with ⟨rfl, rfl⟩ | ⟨e2, q2'⟩
    · exact absurd rfl hne
    · simp only [upd_same] at ho; exact absurd ho (hno b o)
    · simp only [upd_same]; exact hno b o
    · simp only [upd_other _ _ e1, upd_other _ _ e2] at ho ⊢
      exact h1.disj l1 l2 r1 r2 hne q1' q2' b o ho
  · rcases hcase l' r' q with ⟨rfl, rfl⟩ | ⟨e, q'⟩
    · simp only [upd_same] at ho; exact absurd ho (hno b o)
    · simp only [upd_other _ _ e] at ho
      exact h1.ownimm l' r' b o q' ho
  · rcases hcase l' r' q with ⟨rfl, rfl⟩ | ⟨e, q'⟩
    · simp only [upd_same]
      refine ⟨w.heap.size, [], rfl, rfl, h.below.size, ⟨#[], 0, hnew, rfl, fun i e hi => by simp at hi⟩, fun _ o q => ?_, fun q => by cases q⟩
      exact absurd (h.immlt _ _ q) (Nat.lt_irrefl _)
    · simp only [upd_other _ _ e]
      exact h1.maps.at_ l' r' hl' q'
  · have old : ∀ l' r', MB ≤ l' → st.σ l' = some r' → (g.μ l').A ≠ some ⟨w.heap.size, 0, none⟩ := fun l' r' hl' q e => by
      obtain ⟨b, es, _, n2, _, n4, _⟩ := h.maps.at_ l' r' hl' q
      rw [e] at n2
      cases n2
      obtain ⟨_, _, n5, _⟩ := n4
      exact absurd (Array.getElem?_eq_some_iff.1 n5).1 (Nat.lt_irrefl _)
    rcases hcase l1 r1 q1 with ⟨rfl, rfl⟩ | ⟨e1, q1'⟩ <;> rcases hcase l2 r2 q2 with ⟨rfl, rfl⟩ | ⟨e2, q2'⟩
    · exact absurd rfl hne
    · simp only [upd_same, upd_other _ _ e2]
      exact fun q => old l2 r2 k2 q2' q.symm
    · simp only [upd_same, upd_other _ _ e1]
      exact old l1 r1 k1 q1'
    · simp only [upd_other _ _ e1, upd_other _ _ e2]
      exact h1.maps.apart l1 l2 r1 r2 k1 k2 hne q1' q2' q3

/-- A map of one's own is let go: nobody turns it any more. -/
theorem wk_mfz {s : St} (t l : Nat) {es : List PV} {lo z : Nat} {opn : Bool} (ht : s.env t = .mp l) (hr : s.σ l = some ⟨[.mapc es], lo, opn, z, false⟩) :
    Wk s ⟨upd s.env t (.abs (ImMap es)), upd s.σ l (some ⟨[.mapc es], lo, opn, z, true⟩)⟩ := fun X g a w h => by
  have hv := h.env t
  rw [ht] at hv
  obtain ⟨_, hl, b, hA, hb⟩ := hv.mp_inv
  obtain ⟨b', es0, m1, m2, m3, m4, m5, m6⟩ := h.maps.at_ l _ hl hr
  rw [hA] at m2
  cases m2
  cases m1
  obtain ⟨ents0, clock0, q0, q1, q2⟩ := m4
  have hx : Ext w g.imm w (fun b2 o => g.imm b2 o ∨ b2 = b) := ⟨fun _ _ q => .inl q, fun _ _ _ => rfl, fun _ _ _ _ q _ => q⟩
  have hp : ∀ l', s.pres l' → St.pres ⟨upd s.env t (.abs (ImMap es)), upd s.σ l (some ⟨[.mapc es], lo, opn, z, true⟩)⟩ l' ∧ g.μ l' = g.μ l' := by
    rintro l' ⟨r', hr'⟩
    refine ⟨?_, rfl⟩
    by_cases e : l' = l
    · exact ⟨_, by rw [e]; exact upd_same _ _ _⟩
    · exact ⟨r', by rw [show (St.mk (upd s.env t (.abs (ImMap es))) (upd s.σ l (some ⟨[.mapc es], lo, opn, z, true⟩))).σ l' = s.σ l' from upd_other _ _ e]; exact hr'⟩
  have hcase : ∀ l' r', upd s.σ l (some ⟨[.mapc es], lo, opn, z, true⟩) l' = some r' → (l' = l ∧ r' = ⟨[.mapc es], lo, opn, z, true⟩) ∨ (l' ≠ l ∧ s.σ l' = some r') := by
    intro l' r' q
    by_cases e : l' = l
    · subst e; rw [upd_same] at q; cases q; exact .inl ⟨rfl, rfl⟩
    · rw [upd_other _ _ e] at q; exact .inr ⟨e, q⟩
  have hR := h.rows l _ hr
  have hlt : b < w.heap.size := (Array.getElem?_eq_some_iff.1 q0).1
  refine ⟨⟨fun b2 o => g.imm b2 o ∨ b2 = b, g.μ⟩, ⟨h.size, fun i => ?_, fun l' r' q => ?_, fun l1 l2 r1 r2 hne q1 q2 b' o' ho => ?_, fun l' r' b' o' q ho => ?_, fun b2 o q => ?_, fun b2 o q => ?_, fun b2 o q => .inl (h.immsup b2 o q), h.below, h.marks, h.obs, h.big, ⟨fun l' r' hl' q => ?_, fun l1 l2 r1 r2 h1 h2 hne q1 q2 q3 => ?_⟩⟩⟩
  · by_cases e : i = t
    · subst e
      rw [show (St.mk (upd s.env i (.abs (ImMap es))) (upd s.σ l (some ⟨[.mapc es], lo, opn, z, true⟩))).env i = .abs (ImMap es) from upd_same _ _ _, hb]
      exact .cl (rd_imMap ⟨b, rfl, .inr rfl, ⟨ents0, clock0, q0, q1, fun i e hi => by
        obtain ⟨k, v, k1, k2, k3⟩ := q2 i e hi
        exact ⟨k, v, k1, k2.mono hx, k3.mono hx⟩⟩⟩)
    · rw [show (St.mk (upd s.env t (.abs (ImMap es))) (upd s.σ l (some ⟨[.mapc es], lo, opn, z, true⟩))).env i = s.env i from upd_other _ _ e]
      exact (h.env i).mono hx hp
  · rcases hcase l' r' q with ⟨rfl, rfl⟩ | ⟨e, q'⟩
    · refine ⟨hR.n, hR.z, hR.C, hR.lo, hR.el, hR.nil, hR.spot, fun i x j y hx' hy => ?_, fun b2 o2 ho => hR.own b2 o2 ho⟩
      have : x = .mapc es := by
        cases i with
        | zero => simp at hx'; exact hx'.symm
        | succ i => simp at hx'
      subst this
      cases hy
    · exact (h.rows l' r' q').mono hx hp fun _ _ _ => ⟨rfl, rfl⟩
  · rcases hcase l1 r1 q1 with ⟨rfl, rfl⟩ | ⟨e1, q1'⟩ <;> rcases hcase l2 r2 q2 with ⟨rfl, rfl⟩ | ⟨e2, q2'⟩
    · exact absurd rfl hne
    · exact fun k => h.disj l1 l2 _ r2 hne hr q2' b' o' ho k
    · exact fun k => h.disj l1 l2 r1 _ hne q1' hr b' o' ho k
    · exact h.disj l1 l2 r1 r2 hne q1' q2' b' o' ho
  · have own' : ∀ r0, s.σ l' = some r0 → OwnR (g.μ l') r0 b' o' → ¬ (g.imm b' o' ∨ b' = b) := fun r0 q0' ho' k => by
      rcases k with k | k
      · exact h.ownimm l' r0 b' o' q0' ho' k
      · subst k
        have := own_no_map (h.rows l' r0 q0') ho' q0
        cases this
    rcases hcase l' r' q with ⟨rfl, rfl⟩ | ⟨e, q'⟩
    · exact own' _ hr ho
    · exact own' _ q' ho
  · rcases q with q | rfl
    · exact h.immlt b2 o q
    · exact hlt
  · rcases q with q | rfl
    · exact h.immsub b2 o q
    · exact .inr m3
  · rcases hcase l' r' q with ⟨rfl, rfl⟩ | ⟨e, q'⟩
    · exact ⟨b, es, rfl, hA, m3, ⟨ents0, clock0, q0, q1, fun i e hi => by
        obtain ⟨k, v, k1, k2, k3⟩ := q2 i e hi
        exact ⟨k, v, k1, k2.mono hx, k3.mono hx⟩⟩, fun q => (by cases q), fun _ => .inr rfl⟩
    · obtain ⟨b2, es2, n1, n2, n3, n4, n5, n6⟩ := h.maps.at_ l' r' hl' q'
      have hne : b2 ≠ b := fun e2 => by
        subst e2
        exact h.maps.apart l l' _ r' hl hl' (Ne.symm e) hr q' rfl (by rw [hA, n2])
      exact ⟨b2, es2, n1, n2, n3, n4.mono hx fun o k1 k2 => k1, fun c o k => k.elim (n5 c o) hne, fun c => .inl (n6 c)⟩
  · rcases hcase l1 r1 q1 with ⟨rfl, rfl⟩ | ⟨e1, q1'⟩
    · cases q3
    · rcases hcase l2 r2 q2 with ⟨rfl, rfl⟩ | ⟨e2, q2'⟩
      · exact h.maps.apart l1 l2 r1 _ h1 h2 hne q1' hr q3
      · exact h.maps.apart l1 l2 r1 r2 h1 h2 hne q1' q2' q3
end

theorem Rd.abs_inv {w : World} {imm : Nat → Nat → Prop} {μ : Nat → RLoc} {pres : Nat → Prop} {v : Value} {R : World → (Nat → Nat → Prop) → Value → Prop} (h : Rd w imm μ pres v (.abs R)) : R w imm v := by
  generalize hd : PV.abs R = d at h
  cases h <;> try cases hd
  rename_i h
  generalize hd' : PV.abs R = d' at h
  cases h <;> cases hd'
  rename_i _ h
  exact h w imm (Ext.refl _ _)

/-! ### The operations, in regions in the order of the text -/
section
variable {X : Ctx} {ops : Array Oper} {i : Nat} {os : List Oper} {K : Ctx → St → Prop} {env : Nat → PV} {σ : Nat → Option Row} {ty : TypeId} {pos : String} {after : Array Edge} {gd : Option (Nat × Bool)} {t : Tmp} {KT VT : Type} [BEq KT] {EK : KT → PV} {E : VT → PV}

/-- One operation that is done at once. -/
theorem opq_value {o : Oper} {st : St} (ho : ops[i]? = some o) (hw : wantP ops st.env o = some true) (hnd : ∀ c, o.op ≠ .defer c)
    (h : ∀ g a w, Sim X g st a w → ∃ v w' g' st' d, (execOp a.eval o).run X.P w = .ok (.value v) w' ∧ Sim X g' st' a w' ∧ Rd w' g'.imm g'.μ st'.pres v d ∧ K X ⟨putE st'.env o.dst d, st'.σ⟩) : Opq X ops i K st := by
  intro hd n g a w next Qo hs hq
  unfold wpOpIn
  rw [ho]
  simp only
  rw [if_pos (want_sound hs hw)]
  obtain ⟨v, w', g', st', d, h1, h2, h3, h4⟩ := h g a w hs
  exact wpIn_value hnd h1 (hq X _ _ _ _ (h2.put (dstOK_spec hd ho) h3) ⟨⟨rfl, rfl⟩, rfl⟩ h4)

theorem opq_skip {o : Oper} {st : St} (ho : ops[i]? = some o) (hw : wantP ops st.env o = some true) (hnd : ∀ c, o.op ≠ .defer c) (hdst : o.dst = none)
    (h : ∀ g a w, Sim X g st a w → ∃ w' g' st', (execOp a.eval o).run X.P w = .ok .skip w' ∧ Sim X g' st' a w' ∧ K X st') : Opq X ops i K st := by
  intro hd n g a w next Qo hs hq
  unfold wpOpIn
  rw [ho]
  simp only
  rw [if_pos (want_sound hs hw)]
  obtain ⟨w', g', st', h1, h2, h4⟩ := h g a w hs
  refine opIn_skip hnd h1 ?_
  rw [hdst]
  exact hq X _ _ _ _ h2 ⟨⟨rfl, rfl⟩, rfl⟩ h4

theorem y_mkM {T : TypeId} (l : Nat) (hw : wantP ops env ⟨some t, .makeMap T none, ty, pos, after, gd⟩ = some true) (hn : σ l = none) (k : Sq X ops (i + 1) os K ⟨upd env t (.mp l), upd σ l (some ⟨[.mapc (([] : List (KT × VT)).map (ent EK E))], 0, false, 0, false⟩)⟩) (hl : MB ≤ l := by exact Nat.le_of_ble_eq_true rfl) :
    Sq X ops i (⟨some t, .makeMap T none, ty, pos, after, gd⟩ :: os) K ⟨env, σ⟩ := sq_of_opq' fun ho => opq_value ho hw (fun c q => by cases q) fun g a w hs =>
  ⟨_, _, _, _, .mp l, run_v (run_makeMap T w), hs.mnew hl hn, .mp l _ ⟨_, upd_same _ _ _⟩ hl (congrArg RLoc.A (upd_same _ _ _)), k⟩

/-- A look-up in a map of one's own. -/
theorem y_lkM {T kt et : TypeId} {x y : Operand} {ok : Bool} {l lo z : Nat} {opn cl : Bool} {es : List (KT × VT)} {k : KT} {zv : Value} {d z0 : PV} (hw : wantP ops env ⟨some t, .lookup T x y ok, ty, pos, after, gd⟩ = some true) (hx : evP env x = .mp l) (hl : σ l = some ⟨[.mapc (es.map (ent EK E))], lo, opn, z, cl⟩)
    (hy : evP env y = EK k) (hT : tmap X.P T = some (kt, et)) (hK : KeyT X.P kt EK) (hz : tzero X.P et = some zv) (hz0 : (PV.ofV zv).w1 = z0) (hd : (lkV E (mget es k) z0 ok) = d)
    (kk : Sq X ops (i + 1) os K ⟨upd env t d, σ⟩) : Sq X ops i (⟨some t, .lookup T x y ok, ty, pos, after, gd⟩ :: os) K ⟨env, σ⟩ := sq_of_opq' fun ho => opq_value ho hw (fun c q => by cases q) fun g a w hs => by
  have hxv := hs.eval x
  rw [show evP (St.env ⟨env, σ⟩) x = _ from hx] at hxv
  obtain ⟨_, hlm, b, hA, e⟩ := hxv.mp_inv
  have hyv := hs.eval y
  rw [show evP (St.env ⟨env, σ⟩) y = _ from hy] at hyv
  obtain ⟨b', es0, m1, m2, m3, m4, _⟩ := hs.maps.at_ l _ hlm hl
  rw [hA] at m2
  cases m2
  cases m1
  obtain ⟨v, h1, h2⟩ := run_lookup (P := X.P) m4 hT hK (hyv.clo (hK.clo k).1) hz ok
  refine ⟨v, w, g, _, d, run_v (by rw [e]; exact h1), hs, ?_, kk⟩
  rw [← hd, ← hz0]
  cases hm : mget es k with
  | some u => rw [hm] at h2; cases ok <;> exact .cl h2
  | none =>
    rw [hm] at h2
    cases ok
    · exact .cl h2.w1
    · refine .cl ?_
      cases h2 with
      | tup vs _ hn h =>
        refine .tup vs _ hn fun i v c hv hc => ?_
        match i with
        | 0 => simp at hc; subst hc; exact (h 0 v _ hv rfl).w1
        | 1 => simp at hc; subst hc; exact h 1 v _ hv rfl
        | _ + 2 => simp at hc

theorem keys_map {es : List (KT × VT)} : (es.map (ent EK E)).length = es.length := by simp

/-- A map of one's own is written to. -/
theorem y_setM {op : Op} {T kt et : TypeId} {x y u : Operand} {l lo z : Nat} {opn : Bool} {es : List (KT × VT)} {k : KT} {v : VT} (hop : op = .mapUpdate T x y u ∨ op = .insert T x y u) (hw : wantP ops env ⟨none, op, ty, pos, after, gd⟩ = some true) (hx : evP env x = .mp l)
    (hl : σ l = some ⟨[.mapc (es.map (ent EK E))], lo, opn, z, false⟩) (hy : evP env y = EK k) (hu : (evP env u).w1 = E v) (hE : (E v).clo = true) (hT : tmap X.P T = some (kt, et)) (hK : KeyT X.P kt EK)
    (kk : Sq X ops (i + 1) os K ⟨env, upd σ l (some ⟨[.mapc ((mput es k v).map (ent EK E))], lo, opn, z, false⟩)⟩) : Sq X ops i (⟨none, op, ty, pos, after, gd⟩ :: os) K ⟨env, σ⟩ := sq_of_opq' fun ho => opq_skip ho hw (fun c q => by rcases hop with rfl | rfl <;> cases q) rfl fun g a w hs => by
  have hxv := hs.eval x
  rw [show evP (St.env ⟨env, σ⟩) x = _ from hx] at hxv
  obtain ⟨_, hlm, b, hA, e⟩ := hxv.mp_inv
  have hyv := hs.eval y
  rw [show evP (St.env ⟨env, σ⟩) y = _ from hy] at hyv
  have hy0 := hyv.clo (hK.clo k).1
  have huv := (hs.eval u).w1
  rw [show (evP (St.env ⟨env, σ⟩) u).w1 = _ from hu] at huv
  have hu0 := huv.clo hE
  obtain ⟨b', es0, m1, m2, m3, m4, _⟩ := hs.maps.at_ l _ hlm hl
  rw [hA] at m2
  cases m2
  cases m1
  have hrun : ∃ ents' clock', (Instr.mapUpdate T (.map (some b)) (a.eval y) (a.eval u)).run X.P w = .ok () (w.putObj b (.map ents' clock')) ∧ ents'.size = ((mput es k v).map (ent EK E)).length ∧
      ∀ (i : Nat) e, ents'[i]? = some e → ∃ k' v', ((mput es k v).map (ent EK E))[i]? = some (.tup [k', v']) ∧ Rd0 w g.imm e.key k' ∧ Rd0 w g.imm e.val v' := by
    obtain ⟨ents, clock, h1, h2, h3⟩ := m4.find hK hy0
    obtain ⟨ents2, clock2, g1, g2, g3, g4⟩ := m4.keys
    rw [h1] at g1
    cases g1
    unfold Instr.mapUpdate
    simp only [Sem.run_bind, run_underlying (tmap_inv hT), Result.andThen_ok, getObj_map h1, h2]
    have hsz : ents.size = es.length := by simpa using g2
    have old : ∀ (i : Nat) e, ents[i]? = some e → ∃ p, es[i]? = some p ∧ Rd0 w g.imm e.key (EK p.1) ∧ Rd0 w g.imm e.val (E p.2) := fun i e hi => by
      have hlt : i < es.length := by rw [← hsz]; exact (Array.getElem?_eq_some_iff.1 hi).1
      have hi' : ents.toList[i]? = some e := by simpa using hi
      exact ⟨es[i], List.getElem?_eq_getElem hlt, g3.2 i e _ hi' (by rw [List.getElem?_map, List.getElem?_eq_getElem hlt]; rfl), g4 i e _ hi' (List.getElem?_eq_getElem hlt)⟩
    rcases h3 with ⟨q1, q2, q3⟩ | ⟨j, e1, p, q1, q2, q3, q4, q5, q6, q7, q8⟩
    · rw [q3, mput_kidx, q2]
      simp only [Result.andThen_ok, setObj_map _ h1]
      refine ⟨_, _, rfl, by simp [hsz], fun i e' hi => ?_⟩
      rw [Array.getElem?_push] at hi
      split at hi
      · rename_i hie
        cases hi
        refine ⟨EK k, E v, ?_, hy0, hu0⟩
        rw [List.getElem?_map, hie, hsz, List.getElem?_append_right (Nat.le_refl _), Nat.sub_self]
        rfl
      · obtain ⟨p, k1, k2, k3⟩ := old i e' hi
        refine ⟨_, _, ?_, k2, k3⟩
        rw [List.getElem?_map, List.getElem?_append_left (lt_of_get k1), k1]
        rfl
    · have hst := hK.stays hy0 q7 q5
      rw [q8, mput_kidx, q1]
      refine ⟨ents.modify j fun e => { e with key := a.eval y, val := a.eval u }, clock, ?_, by simp [hsz], fun i e' hi => ?_⟩
      · simp only [Result.andThen_ok, q2, Option.map_some, Option.getD_some, Sem.run_bind, hst, setObj_map _ h1]
      rw [Array.getElem?_modify] at hi
      split at hi
      · rename_i hji
        subst hji
        rw [q2] at hi
        cases hi
        refine ⟨EK k, E v, ?_, hy0, hu0⟩
        rw [List.getElem?_map, List.getElem?_set_self (lt_of_get q3)]
        rfl
      · rename_i hji
        obtain ⟨p, k1, k2, k3⟩ := old i e' hi
        refine ⟨_, _, ?_, k2, k3⟩
        rw [List.getElem?_map, List.getElem?_set_ne hji, k1]
        rfl
  obtain ⟨ents', clock', h1, h2, h3⟩ := hrun
  refine ⟨_, g, _, ?_, hs.mset (clock' := clock') hlm hl rfl hA h2 h3, kk⟩
  rcases hop with rfl | rfl
  · exact run_u (by rw [e]; exact h1)
  · exact run_u (by rw [e]; exact h1)

/-- How much stands in a map of one's own. -/
theorem y_lnM {T kt et : TypeId} {x : Operand} {ts : Array TypeId} {l lo z : Nat} {opn cl : Bool} {es : List (KT × VT)} (hw : wantP ops env ⟨some t, .call { callee := .builtin .len, args := #[x], argTypes := ts }, ty, pos, after, gd⟩ = some true) (hx : evP env x = .mp l)
    (hl : σ l = some ⟨[.mapc (es.map (ent EK E))], lo, opn, z, cl⟩) (hts : ts[0]? = some T) (hT : tmap X.P T = some (kt, et)) (kk : Sq X ops (i + 1) os K ⟨upd env t (.int .i64 es.length), σ⟩) :
    Sq X ops i (⟨some t, .call { callee := .builtin .len, args := #[x], argTypes := ts }, ty, pos, after, gd⟩ :: os) K ⟨env, σ⟩ := sq_of_opq' fun ho => opq_value ho hw (fun c q => by cases q) fun g a w hs => by
  have hxv := hs.eval x
  rw [show evP (St.env ⟨env, σ⟩) x = _ from hx] at hxv
  obtain ⟨_, hlm, b, hA, e⟩ := hxv.mp_inv
  obtain ⟨b', es0, m1, m2, m3, m4, _⟩ := hs.maps.at_ l _ hlm hl
  rw [hA] at m2
  cases m2
  cases m1
  obtain ⟨ents, clock, h1, h2, _⟩ := m4
  obtain ⟨cs, hc⟩ := exec_builtin (a := a) (o := ⟨some t, .call { callee := .builtin .len, args := #[x], argTypes := ts }, ty, pos, after, gd⟩) rfl
  refine ⟨.int .i64 es.length, w, g, _, _, ?_, hs, .cl (.int _ _), kk⟩
  rw [hc]
  refine run_v ?_
  have hn : ents.size = es.length := by simpa using h2
  simp [Builtin.len_, hts, e, run_underlying (tmap_inv hT), getObj_map h1, goInt, hn]

/-- What stands under a key of a map of one's own is taken away. -/
theorem y_delM {T kt et : TypeId} {x y : Operand} {ts : Array TypeId} {l lo z : Nat} {opn : Bool} {es : List (KT × VT)} {k : KT} (hw : wantP ops env ⟨none, .call { callee := .builtin .delete, args := #[x, y], argTypes := ts }, ty, pos, after, gd⟩ = some true) (hx : evP env x = .mp l)
    (hl : σ l = some ⟨[.mapc (es.map (ent EK E))], lo, opn, z, false⟩) (hy : evP env y = EK k) (hts : ts[0]? = some T) (hT : tmap X.P T = some (kt, et)) (hK : KeyT X.P kt EK)
    (kk : Sq X ops (i + 1) os K ⟨env, upd σ l (some ⟨[.mapc ((mdel es k).map (ent EK E))], lo, opn, z, false⟩)⟩) :
    Sq X ops i (⟨none, .call { callee := .builtin .delete, args := #[x, y], argTypes := ts }, ty, pos, after, gd⟩ :: os) K ⟨env, σ⟩ := sq_of_opq' fun ho => opq_value ho hw (fun c q => by cases q) fun g a w hs => by
  have hxv := hs.eval x
  rw [show evP (St.env ⟨env, σ⟩) x = _ from hx] at hxv
  obtain ⟨_, hlm, b, hA, e⟩ := hxv.mp_inv
  have hyv := hs.eval y
  rw [show evP (St.env ⟨env, σ⟩) y = _ from hy] at hyv
  have hy0 := hyv.clo (hK.clo k).1
  obtain ⟨b', es0, m1, m2, m3, m4, _⟩ := hs.maps.at_ l _ hlm hl
  rw [hA] at m2
  cases m2
  cases m1
  obtain ⟨cs, hc⟩ := exec_builtin (a := a) (o := ⟨none, .call { callee := .builtin .delete, args := #[x, y], argTypes := ts }, ty, pos, after, gd⟩) rfl
  have hrun : ∃ ents' clock', (Builtin.delete_ ts ty #[.map (some b), a.eval y]).run X.P w = .ok (.tuple #[]) (w.putObj b (.map ents' clock')) ∧ ents'.size = ((mdel es k).map (ent EK E)).length ∧
      ∀ (i : Nat) e, ents'[i]? = some e → ∃ k' v', ((mdel es k).map (ent EK E))[i]? = some (.tup [k', v']) ∧ Rd0 w g.imm e.key k' ∧ Rd0 w g.imm e.val v' := by
    obtain ⟨ents, clock, h1, h2, h3⟩ := m4.find hK hy0
    obtain ⟨ents2, clock2, g1, g2, g3, g4⟩ := m4.keys
    rw [h1] at g1
    cases g1
    have hsz : ents.size = es.length := by simpa using g2
    have old : ∀ (i : Nat) e, ents[i]? = some e → ∃ p, es[i]? = some p ∧ Rd0 w g.imm e.key (EK p.1) ∧ Rd0 w g.imm e.val (E p.2) := fun i e hi => by
      have hlt : i < es.length := by rw [← hsz]; exact (Array.getElem?_eq_some_iff.1 hi).1
      have hi' : ents.toList[i]? = some e := by simpa using hi
      exact ⟨es[i], List.getElem?_eq_getElem hlt, g3.2 i e _ hi' (by rw [List.getElem?_map, List.getElem?_eq_getElem hlt]; rfl), g4 i e _ hi' (List.getElem?_eq_getElem hlt)⟩
    unfold Builtin.delete_
    rw [mdel_kidx]
    rcases h3 with ⟨q1, q2, q3⟩ | ⟨j, e1, p, q1, q2, q3, q4, q5, q6, q7, q8⟩
    · rw [q2]
      refine ⟨ents, clock, ?_, by simp [hsz], fun i e' hi => ?_⟩
      · simp [hts, run_underlying (tmap_inv hT), getObj_map h1, h2, q3, setObj_map _ h1]
      · obtain ⟨p, k1, k2, k3⟩ := old i e' hi
        exact ⟨_, _, by rw [List.getElem?_map, k1]; rfl, k2, k3⟩
    · rw [q1]
      refine ⟨ents.eraseIdxIfInBounds j, clock, ?_, ?_, fun i e' hi => ?_⟩
      · simp [hts, run_underlying (tmap_inv hT), getObj_map h1, h2, q8, setObj_map _ h1]
      · have hj := lt_of_get q3
        simp [Array.eraseIdxIfInBounds, hsz, hj, List.length_eraseIdx]
      · have hj := lt_of_get q3
        have hi' : (ents.toList.eraseIdx j)[i]? = some e' := by
          have : (ents.eraseIdxIfInBounds j).toList = ents.toList.eraseIdx j := by
            simp [Array.eraseIdxIfInBounds, hsz, hj]
          rw [← this, Array.getElem?_toList]
          exact hi
        rw [List.getElem?_eraseIdx] at hi'
        simp only [List.getElem?_map, List.getElem?_eraseIdx]
        split at hi'
        · rename_i hij
          obtain ⟨p, k1, k2, k3⟩ := old i e' (by simpa using hi')
          exact ⟨_, _, by rw [if_pos hij, k1]; rfl, k2, k3⟩
        · rename_i hij
          obtain ⟨p, k1, k2, k3⟩ := old (i + 1) e' (by simpa using hi')
          exact ⟨_, _, by rw [if_neg hij, k1]; rfl, k2, k3⟩
  obtain ⟨ents', clock', h1, h2, h3⟩ := hrun
  refine ⟨.tuple #[], _, g, _, _, ?_, hs.mset (clock' := clock') hlm hl rfl hA h2 h3, .cl (.tup #[] [] rfl fun i v c hv hc => by simp at hc), kk⟩
  rw [hc]
  refine run_v ?_
  have : (#[x, y] : Array Operand).map a.eval = #[.map (some b), a.eval y] := by simp [e]
  rw [this]
  exact h1
end

section
variable {P : Program} {σ : Nat → Option Row} {ρ : Operand → PV} {dst : Option Tmp} {KT VT : Type} [BEq KT] {EK : KT → PV} {E : VT → PV}
/-- A look-up in a map that nobody turns any more. -/
theorem o_lkI {T kt et : TypeId} {x y : Operand} {ok : Bool} {es : List (KT × VT)} {k : KT} {zv : Value} {d z0 : PV} (hx : ρ x = .abs (ImMap (es.map (ent EK E)))) (hy : ρ y = EK k) (hT : tmap P T = some (kt, et)) (hK : KeyT P kt EK) (hz : tzero P et = some zv)
    (hz0 : (PV.ofV zv).w1 = z0) (hd : (lkV E (mget es k) z0 ok) = d) : OpR P σ ρ dst (.lookup T x y ok) d .none := by
  refine .pureV _ _ (fun c q => by cases q) (fun T x q => by cases q) fun o w imm μ pres ev ho hev => ?_
  have hxv := hev x (by simp [Op.operands])
  have hyv := hev y (by simp [Op.operands])
  rw [hx] at hxv
  rw [hy] at hyv
  have hy0 := hyv.clo (hK.clo k).1
  have : ImMap (es.map (ent EK E)) w imm (ev x) := hxv.abs_inv
  obtain ⟨b, e, _, m4⟩ := this
  obtain ⟨v, h1, h2⟩ := run_lookup (P := P) m4 hT hK hy0 hz ok
  obtain ⟨dst, op, ty, pos, after, guard⟩ := o
  simp only at ho
  subst ho
  refine ⟨v, run_v (by rw [e]; exact h1), ?_⟩
  rw [← hd, ← hz0]
  cases hm : mget es k with
  | some u => rw [hm] at h2; cases ok <;> exact .cl h2
  | none =>
    rw [hm] at h2
    cases ok
    · exact .cl h2.w1
    · refine .cl ?_
      cases h2 with
      | tup vs _ hn h =>
        refine .tup vs _ hn fun i v c hv hc => ?_
        match i with
        | 0 => simp at hc; subst hc; exact (h 0 v _ hv rfl).w1
        | 1 => simp at hc; subst hc; exact h 1 v _ hv rfl
        | _ + 2 => simp at hc
end
end Go.Pw
