/-
  Regions, whatever order is drawn.
-/
import Derived.Test.YtpnajadblhkomaaPw14
namespace Go.Pw
open Go.RowKit
set_option linter.unusedVariables false

/-! ### What is read goes on being read -/

theorem v0_mono {σ σ' : Nat → Option Row} (hs : Same σ σ') {d : PV} (h : d.v0ok σ = true) : d.v0 σ' = d.v0 σ ∧ d.v0ok σ' = true := by
  cases d <;> first | exact ⟨rfl, h⟩ | skip
  rename_i l
  simp only [PV.v0ok] at h
  cases hl : σ l with
  | none => rw [hl] at h; cases h
  | some r =>
    rw [hl] at h
    obtain ⟨r', h1, h2, h3, h4⟩ := hs l r hl
    simp only [PV.v0, PV.v0ok, hl, h1, h2, h4]
    exact ⟨trivial, h⟩

theorem v2_mono {σ σ' : Nat → Option Row} (hs : Same σ σ') {d : PV} (h : d.v2ok σ = true) : d.v2 σ' = d.v2 σ ∧ d.v2ok σ' = true ∧ d.v2refs σ' = d.v2refs σ := by
  by_cases hd : ∃ l i f, d = .ptr l i f
  · obtain ⟨l, i, f, rfl⟩ := hd
    simp only [PV.v2ok] at h
    cases hl : σ l with
    | none => rw [hl] at h; cases h
    | some r =>
      rw [hl] at h
      obtain ⟨r', h1, h2, h3, h4⟩ := hs l r hl
      simp only [PV.v2, PV.v2ok, PV.v2refs, hl, h1, h2]
      cases hx : r.els[i]? with
      | none => simp only [hx] at h; cases h
      | some x =>
        simp only [hx, List.all_eq_true, Bool.and_eq_true] at h
        simp only [List.all_eq_true, Bool.and_eq_true]
        exact ⟨by rw [List.map_congr_left fun y hy => (v0_mono hs (h y hy).1).1], fun y hy => ⟨(v0_mono hs (h y hy).1).2, (h y hy).2⟩, trivial⟩
  · have e : d.v2 σ' = d.v0 σ' := by cases d <;> first | rfl | exact absurd ⟨_, _, _, rfl⟩ hd
    have e1 : d.v2 σ = d.v0 σ := by cases d <;> first | rfl | exact absurd ⟨_, _, _, rfl⟩ hd
    have e2 : d.v2ok σ' = d.v0ok σ' := by cases d <;> first | rfl | exact absurd ⟨_, _, _, rfl⟩ hd
    have e3 : d.v2ok σ = d.v0ok σ := by cases d <;> first | rfl | exact absurd ⟨_, _, _, rfl⟩ hd
    have e4 : d.v2refs σ' = d.v2refs σ := by cases d <;> first | rfl | exact absurd ⟨_, _, _, rfl⟩ hd
    rw [e, e1, e2, e4]
    rw [e3] at h
    exact ⟨(v0_mono hs h).1, (v0_mono hs h).2, rfl⟩

theorem v3_mono {σ σ' : Nat → Option Row} (hs : Same σ σ') {d : PV} (h : d.v3ok σ = true) : d.v3 σ' = d.v3 σ ∧ d.v3ok σ' = true ∧ d.v3refs σ' = d.v3refs σ := by
  cases d
  case agg cs =>
    simp only [PV.v3ok, List.all_eq_true, Bool.and_eq_true] at h
    simp only [PV.v3, PV.v3ok, PV.v3refs, List.all_eq_true, Bool.and_eq_true]
    exact ⟨by rw [List.map_congr_left fun y hy => (v0_mono hs (h y hy).1).1], fun y hy => ⟨(v0_mono hs (h y hy).1).2, (h y hy).2⟩, trivial⟩
  case fn f cap =>
    simp only [PV.v3ok, List.all_eq_true] at h
    simp only [PV.v3, PV.v3ok, PV.v3refs, List.all_eq_true]
    exact ⟨by rw [List.map_congr_left fun y hy => (v2_mono hs (h y hy)).1], fun y hy => (v2_mono hs (h y hy)).2.1, flatMap_congr' fun y hy => (v2_mono hs (h y hy)).2.2⟩
  case tup vs => exact v2_mono (d := .tup vs) hs h
  case bool b => exact v2_mono (d := .bool b) hs h
  case int k m => exact v2_mono (d := .int k m) hs h
  case str s => exact v2_mono (d := .str s) hs h
  case lst t xs => exact v2_mono (d := .lst t xs) hs h
  case sl l => exact v2_mono (d := .sl l) hs h
  case ptr l i f => exact v2_mono (d := .ptr l i f) hs h
  case rptr cs => exact v2_mono (d := .rptr cs) hs h
  case nilfn => exact v2_mono (d := .nilfn) hs h
  case abs R => exact v2_mono (d := .abs R) hs h
  case mp l => exact v2_mono (d := .mp l) hs h
  case mapc es => exact v2_mono (d := .mapc es) hs h
  case junk => exact v2_mono (d := .junk) hs h

theorem view_mono {σ σ' : Nat → Option Row} (hs : Same σ σ') {d : PV} (h : d.vok σ = true) : d.view σ' = d.view σ ∧ d.vok σ' = true ∧ d.vrefs σ' = d.vrefs σ := by
  cases d
  case tup cs =>
    simp only [PV.vok, List.all_eq_true] at h
    simp only [PV.view, PV.vok, PV.vrefs, List.all_eq_true]
    exact ⟨by rw [List.map_congr_left fun y hy => (v3_mono hs (h y hy)).1], fun y hy => (v3_mono hs (h y hy)).2.1, flatMap_congr' fun y hy => (v3_mono hs (h y hy)).2.2⟩
  case bool b => exact v3_mono (d := .bool b) hs h
  case int k m => exact v3_mono (d := .int k m) hs h
  case str s => exact v3_mono (d := .str s) hs h
  case lst t xs => exact v3_mono (d := .lst t xs) hs h
  case sl l => exact v3_mono (d := .sl l) hs h
  case ptr l i f => exact v3_mono (d := .ptr l i f) hs h
  case rptr cs => exact v3_mono (d := .rptr cs) hs h
  case nilfn => exact v3_mono (d := .nilfn) hs h
  case abs R => exact v3_mono (d := .abs R) hs h
  case mp l => exact v3_mono (d := .mp l) hs h
  case mapc es => exact v3_mono (d := .mapc es) hs h
  case junk => exact v3_mono (d := .junk) hs h
  case agg cs => exact v3_mono (d := .agg cs) hs h
  case fn f cap => exact v3_mono (d := .fn f cap) hs h

theorem views_mono {σ σ' : Nat → Option Row} (hs : Same σ σ') {ds : List PV} (h : ds.all (PV.vok σ) = true) :
    ds.map (PV.view σ') = ds.map (PV.view σ) ∧ ds.all (PV.vok σ') = true ∧ ds.flatMap (PV.vrefs σ') = ds.flatMap (PV.vrefs σ) := by
  rw [List.all_eq_true] at h
  exact ⟨List.map_congr_left fun d hd => (view_mono hs (h d hd)).1, List.all_eq_true.2 fun d hd => (view_mono hs (h d hd)).2.1, flatMap_congr' fun d hd => (view_mono hs (h d hd)).2.2⟩

theorem vws_mono {σ σ' : Nat → Option Row} (hs : Same σ σ') {ds : List PV} (h : ds.all (PV.vok σ) = true) : ds.map (PV.vw σ') = ds.map (PV.vw σ) := by
  rw [List.all_eq_true] at h
  exact List.map_congr_left fun d hd => by unfold PV.vw; rw [(view_mono hs (h d hd)).1]

theorem Src.mono {σ σ' : Nat → Option Row} (hs : Same σ σ') {d : PV} {ys : List PV} {cl : Bool} (h : Src σ d ys cl) : Src σ' d ys cl := by
  rcases h with h | ⟨l, r, h1, h2, h3, h4⟩
  · exact .inl h
  · obtain ⟨r', k1, k2, k3, k4⟩ := hs l r h2
    exact .inr ⟨l, r', h1, k1, by rw [h3, k2], by rw [h4, k4]⟩

theorem OpR.mono {P : Program} {σ σ' : Nat → Option Row} {ρ : Operand → PV} {dst : Option Tmp} {op : Op} {d : PV} {e : Eff} (hs : Same σ σ') (h : OpR P σ ρ dst op d e) : OpR P σ' ρ dst op d e := by
  cases h
  case loadA T x l i f r y n hx hl hy ha hsz hf =>
    obtain ⟨r', k1, k2, k3, k4⟩ := hs l r hl
    exact .loadA T x l i f r' y n hx k1 (by rw [k2]; exact hy) ha hsz hf
  case loadS T x l i f r y hx hl hy ha hf =>
    obtain ⟨r', k1, k2, k3, k4⟩ := hs l r hl
    exact .loadS T x l i f r' y _ hx k1 (by rw [k2]; exact hy) ha hf
  case idxR T x y l r k n E hx hl hy h0 hn hE hz =>
    obtain ⟨r', k1, k2, k3, k4⟩ := hs l r hl
    exact .idxR T x y l r' k n E hx k1 hy h0 (by rw [k2]; exact hn) hE (by rw [k3]; exact hz)
  case lenR x l r T hx hl hT ts hts =>
    obtain ⟨r', k1, k2, k3, k4⟩ := hs l r hl
    rw [← k2]
    exact .lenR x l r' T hx k1 hT ts hts
  case call f args ts cap x hf hb hok hc hfl =>
    obtain ⟨k1, k2, k3⟩ := views_mono hs hok
    exact .call f args ts cap _ x hf hb k2 (by rw [vws_mono hs hok]; exact hc) hfl
  case callF f args ts cap x hf hb hok hc =>
    obtain ⟨k1, k2, k3⟩ := views_mono hs hok
    rw [← k3]
    exact .callF f args ts cap _ x hf hb k2 (by rw [vws_mono hs hok]; exact hc)
  case callN f args ts cap l r x hd hf hb hok hc hcl =>
    obtain ⟨k1, k2, k3⟩ := views_mono hs hok
    rw [← k3]
    exact .callN f args ts cap l r x hd hf hb k2 (by rw [vws_mono hs hok]; exact hc) hcl
  case appT x y T E xs ys cl z by_ l zv hd hx hy hE hz hb hzv hzz hel hfit h63 => exact .appT x y T E xs ys cl z by_ l zv hd hx (hy.mono hs) hE hz hb hzv hzz hel hfit h63
  case appR x y T E s r ys cl z by_ l zv hd hx hs' hy hE hz hb hzv hzz hel hrz hfit h63 =>
    obtain ⟨r', k1, k2, k3, k4⟩ := hs s r hs'
    rw [← k2, ← k4]
    exact .appR x y T E s r' ys cl z by_ l zv hd hx k1 (hy.mono hs) hE hz hb hzv hzz (by rw [k2]; exact hel) (by rw [k3]; exact hrz) (by rw [k2]; exact hfit) (by rw [k2]; exact h63)
  case sliceR T E z x lo s r i l hd hx hs' hE hz hrz hlo hi =>
    obtain ⟨r', k1, k2, k3, k4⟩ := hs s r hs'
    rw [← k2, ← k4]
    exact .sliceR T E z x lo s r' i l hd hx k1 hE hz (by rw [k3]; exact hrz) hlo (by rw [k2]; exact hi)
  case sliceF T E z x lo hi s r i j hx hs' hcl hE hz hrz hlo hhi hij hj =>
    obtain ⟨r', k1, k2, k3, k4⟩ := hs s r hs'
    rw [← k2]
    exact .sliceF T E z x lo hi s r' i j hx k1 (by rw [k4]; exact hcl) hE hz (by rw [k3]; exact hrz) hlo (by rw [k2]; exact hhi) hij (by rw [k2]; exact hj)
  case copy x y T U E l r ys z hx hl hcl hy hE hz hrz hel hn hzp =>
    obtain ⟨r', k1, k2, k3, k4⟩ := hs l r hl
    exact .copy x y T U E l r' ys z hx k1 (by rw [k4]; exact hcl) (hy.mono hs) hE hz (by rw [k3]; exact hrz) hel (by rw [k2]; exact hn) hzp
  case move x => exact .move x
  case assign x => exact .assign x
  case pick c a b t h => exact .pick c a b t h
  case box T x l hd hx => exact .box T x l hd hx
  case alloc T l v hd hz hx => exact .alloc T l v hd hz hx
  case loadRA T x cs n hx ha hsz hf => exact .loadRA T x cs n hx ha hsz hf
  case loadRS T x cs hx ha hf => exact .loadRS T x cs _ hx ha hf
  case store T x y l i f d hx hd hy hsz hpos => exact .store T x y l i f d hx hd hy hsz hpos
  case pureV hnd hnl h => exact .pureV _ _ hnd hnl h
  case nilCheckP x l i f hx => exact .nilCheckP x l i f hx
  case nilCheckR x cs hx => exact .nilCheckR x cs hx
  case not t x b hx => exact .not t x b hx
  case neg t x k n hx => exact .neg t x k n hx
  case ari op t u x y k a b r hx hy hr => exact .ari op t u x y k a b r hx hy hr
  case cmp op t u x y k a b r hx hy hr => exact .cmp op t u x y k a b r hx hy hr
  case eqB t u x y a b hx hy ht => exact .eqB t u x y a b hx hy ht
  case neB t u x y a b hx hy ht => exact .neB t u x y a b hx hy ht
  case eqS t u x y a b hx hy => exact .eqS t u x y a b hx hy
  case neS t u x y a b hx hy => exact .neS t u x y a b hx hy
  case conv s t x k k' n hx h1 ht => exact .conv s t x k k' n hx h1 ht
  case fieldAddrP T x f l i q off ft hx ho => exact .fieldAddrP T x f l i q off ft hx ho
  case fieldAddrR T x f cs off ft hx ho => exact .fieldAddrR T x f cs off ft hx ho
  case fieldA T x f cs off ft n hx ho ha hsz hn => exact .fieldA T x f cs off ft n hx ho ha hsz hn
  case fieldS T x f cs off ft hx ho ha hd => exact .fieldS T x f cs off ft _ hx ho ha hd
  case idxL T x y t xs k n e E hx hy h0 he hE hz => exact .idxL T x y t xs k n e E hx hy h0 he hE hz
  case idxA T x y l i f k n len E z hx hy h0 hn hE hz => exact .idxA T x y l i f k n len E z hx hy h0 hn hE hz
  case idxRA T x y cs k n len E z hx hy h0 hn hE hz => exact .idxRA T x y cs k n len E z hx hy h0 hn hE hz
  case extract x i ds hx hd => exact .extract x i ds _ hx hd
  case build T parts pl z zs cs hpl hz hzs hsc hf => exact .build T parts pl z zs cs hpl hz hzs hsc hf
  case mkFunc fn cap => exact .mkFunc fn cap
  case mkSlice T x y l k k' n E z v hd hx hy h0 hE hz hv hel hvz b hb hbm hn => exact .mkSlice T x y l k k' n E z v hd hx hy h0 hE hz hv hel hvz b hb hbm hn
  case lenL x t xs T hx hT ts hts => exact .lenL x t xs T hx hT ts hts
  case lenS x s T hx hT ts hts => exact .lenS x s T hx hT ts hts
  case min2 x y k a b ts hx hy => exact .min2 x y k a b ts hx hy
  case max2 x y k a b ts hx hy => exact .max2 x y k a b ts hx hy
  case buildSlice T E parts len z l zv els cl hd hE hz hzv hlen hel hbig hf hcl => exact .buildSlice T E parts len z l zv els cl hd hE hz hzv hlen hel hbig hf hcl
  case nilSlice T E parts l z hd hE hz hp => exact .nilSlice T E parts l z hd hE hz hp
  case buildI T E parts len z zv els hE hz hzv hlen hel hbig hf hcl => exact .buildI T E parts len z zv els hE hz hzv hlen hel hbig hf hcl
  case sliceL T E z x lo hi mx t xs i j k hx hE hz hel hlo hhi hmx hmh hij hjk hk => exact .sliceL T E z x lo hi mx t xs i j k hx hE hz hel hlo hhi hmx hmh hij hjk hk

/-- What is new is named by what is written. -/
def Eff.key : Eff → Option Nat
  | .new l _ | .app _ l _ | .frzN _ l _ => some l
  | _ => Option.none

theorem OpR.key {P : Program} {σ : Nat → Option Row} {ρ : Operand → PV} {dst : Option Tmp} {op : Op} {d : PV} {e : Eff} (h : OpR P σ ρ dst op d e) : ∀ l, e.key = some l → dst = some l := by
  intro l hl
  cases h <;> first | (cases hl; done) | (cases hl; assumption)

theorem evP_put {env : Nat → PV} {dst : Option Tmp} {d : PV} {x : Operand} (h : ∀ t, dst = some t → x ≠ .tmp t) : evP (putE env dst d) x = evP env x := by
  cases dst with
  | none => rfl
  | some t =>
    cases x with
    | tmp u =>
      have : u ≠ t := fun e => h t rfl (by rw [e])
      simp only [evP, putE, upd_other _ _ this]
    | _ => rfl

/-- An operation's word hangs on its operands alone. -/
theorem OpR.congr {P : Program} {σ : Nat → Option Row} {ρ ρ' : Operand → PV} {dst : Option Tmp} {op : Op} {d : PV} {e : Eff} (hρ : ∀ x ∈ op.operands, ρ x = ρ' x) (h : OpR P σ ρ dst op d e) : OpR P σ ρ' dst op d e := by
  have key : ∃ ρ'' : Operand → PV, (∀ x ∈ op.operands, ρ'' x = ρ' x) ∧ ρ'' = ρ := ⟨ρ, hρ, rfl⟩
  clear key
  cases h
  case move x => rw [hρ x (by simp [Op.operands])]; exact .move x
  case assign x => rw [hρ x (by simp [Op.operands])]; exact .assign x
  case pick c a b t h =>
    rw [hρ c (by simp [Op.operands])] at h
    rw [hρ a (by simp [Op.operands]), hρ b (by simp [Op.operands])]
    exact .pick c a b t h
  case box T x l hd hx =>
    rw [hρ x (by simp [Op.operands])] at hx ⊢
    exact .box T x l hd hx
  case alloc T l v hd hz hx => exact .alloc T l v hd hz hx
  case loadA T x l i f r y n hx hl hy ha hsz hf => exact .loadA T x l i f r y n (by rw [← hρ x (by simp [Op.operands])]; exact hx) hl hy ha hsz hf
  case loadS T x l i f r y hx hl hy ha hf => exact .loadS T x l i f r y _ (by rw [← hρ x (by simp [Op.operands])]; exact hx) hl hy ha hf
  case loadRA T x cs n hx ha hsz hf => exact .loadRA T x cs n (by rw [← hρ x (by simp [Op.operands])]; exact hx) ha hsz hf
  case loadRS T x cs hx ha hf => exact .loadRS T x cs _ (by rw [← hρ x (by simp [Op.operands])]; exact hx) ha hf
  case store T x y l i f d hx hd hy hsz hpos =>
    rw [hρ y (by simp [Op.operands])] at hd
    exact .store T x y l i f d (by rw [← hρ x (by simp [Op.operands])]; exact hx) hd hy hsz hpos
  case pureV hnd hnl h =>
    exact .pureV _ _ hnd hnl fun o w imm μ pres ev ho hx => h o w imm μ pres ev ho fun x hm => by rw [hρ x hm]; exact hx x hm
  case nilCheckP x l i f hx =>
    rw [hρ x (by simp [Op.operands])] at hx ⊢
    exact .nilCheckP x l i f hx
  case nilCheckR x cs hx =>
    rw [hρ x (by simp [Op.operands])] at hx ⊢
    exact .nilCheckR x cs hx
  case not t x b hx => exact .not t x b (by rw [← hρ x (by simp [Op.operands])]; exact hx)
  case neg t x k n hx => exact .neg t x k n (by rw [← hρ x (by simp [Op.operands])]; exact hx)
  case ari op t u x y k a b r hx hy hr => exact .ari op t u x y k a b r (by rw [← hρ x (by simp [Op.operands])]; exact hx) (by rw [← hρ y (by simp [Op.operands])]; exact hy) hr
  case cmp op t u x y k a b r hx hy hr => exact .cmp op t u x y k a b r (by rw [← hρ x (by simp [Op.operands])]; exact hx) (by rw [← hρ y (by simp [Op.operands])]; exact hy) hr
  case eqB t u x y a b hx hy ht => exact .eqB t u x y a b (by rw [← hρ x (by simp [Op.operands])]; exact hx) (by rw [← hρ y (by simp [Op.operands])]; exact hy) ht
  case neB t u x y a b hx hy ht => exact .neB t u x y a b (by rw [← hρ x (by simp [Op.operands])]; exact hx) (by rw [← hρ y (by simp [Op.operands])]; exact hy) ht
  case eqS t u x y a b hx hy => exact .eqS t u x y a b (by rw [← hρ x (by simp [Op.operands])]; exact hx) (by rw [← hρ y (by simp [Op.operands])]; exact hy)
  case neS t u x y a b hx hy => exact .neS t u x y a b (by rw [← hρ x (by simp [Op.operands])]; exact hx) (by rw [← hρ y (by simp [Op.operands])]; exact hy)
  case conv s t x k k' n hx h1 ht => exact .conv s t x k k' n (by rw [← hρ x (by simp [Op.operands])]; exact hx) h1 ht
  case fieldAddrP T x f l i q off ft hx ho => exact .fieldAddrP T x f l i q off ft (by rw [← hρ x (by simp [Op.operands])]; exact hx) ho
  case fieldAddrR T x f cs off ft hx ho => exact .fieldAddrR T x f cs off ft (by rw [← hρ x (by simp [Op.operands])]; exact hx) ho
  case fieldA T x f cs off ft n hx ho ha hsz hn => exact .fieldA T x f cs off ft n (by rw [← hρ x (by simp [Op.operands])]; exact hx) ho ha hsz hn
  case fieldS T x f cs off ft hx ho ha hd => exact .fieldS T x f cs off ft _ (by rw [← hρ x (by simp [Op.operands])]; exact hx) ho ha hd
  case idxL T x y t xs k n e E hx hy h0 he hE hz => exact .idxL T x y t xs k n e E (by rw [← hρ x (by simp [Op.operands])]; exact hx) (by rw [← hρ y (by simp [Op.operands])]; exact hy) h0 he hE hz
  case idxR T x y l r k n E hx hl hy h0 hn hE hz => exact .idxR T x y l r k n E (by rw [← hρ x (by simp [Op.operands])]; exact hx) hl (by rw [← hρ y (by simp [Op.operands])]; exact hy) h0 hn hE hz
  case idxA T x y l i f k n len E z hx hy h0 hn hE hz => exact .idxA T x y l i f k n len E z (by rw [← hρ x (by simp [Op.operands])]; exact hx) (by rw [← hρ y (by simp [Op.operands])]; exact hy) h0 hn hE hz
  case idxRA T x y cs k n len E z hx hy h0 hn hE hz => exact .idxRA T x y cs k n len E z (by rw [← hρ x (by simp [Op.operands])]; exact hx) (by rw [← hρ y (by simp [Op.operands])]; exact hy) h0 hn hE hz
  case extract x i ds hx hd => exact .extract x i ds _ (by rw [← hρ x (by simp [Op.operands])]; exact hx) hd
  case build T parts pl z zs cs hpl hz hzs hsc hf =>
    refine .build T parts pl z zs cs hpl hz hzs hsc ?_
    rw [← hf]
    congr 1
    refine List.map_congr_left fun p hp => ?_
    rw [hρ p.2 (by simp only [Op.operands, List.mem_toArray, List.mem_map]; exact (by simp; exact ⟨p.1, by simpa using hp⟩))]
  case mkFunc fn cap =>
    rw [List.map_congr_left fun x hx => hρ x (by simp only [Op.operands]; simpa using hx)]
    exact .mkFunc fn cap
  case mkSlice T x y l k k' n E z v hd hx hy h0 hE hz hv hel hvz b hb hbm hn =>
    exact .mkSlice T x y l k k' n E z v hd (by rw [← hρ x (by simp [Op.operands])]; exact hx) (by rw [← hρ y (by simp [Op.operands])]; exact hy) h0 hE hz hv hel hvz b hb hbm hn
  case lenL x t xs T hx hT ts hts => exact .lenL x t xs T (by rw [← hρ x (by simp [Op.operands, Call.operands])]; exact hx) hT ts hts
  case lenR x l r T hx hl hT ts hts => exact .lenR x l r T (by rw [← hρ x (by simp [Op.operands, Call.operands])]; exact hx) hl hT ts hts
  case lenS x s T hx hT ts hts => exact .lenS x s T (by rw [← hρ x (by simp [Op.operands, Call.operands])]; exact hx) hT ts hts
  case min2 x y k a b ts hx hy => exact .min2 x y k a b ts (by rw [← hρ x (by simp [Op.operands, Call.operands])]; exact hx) (by rw [← hρ y (by simp [Op.operands, Call.operands])]; exact hy)
  case max2 x y k a b ts hx hy => exact .max2 x y k a b ts (by rw [← hρ x (by simp [Op.operands, Call.operands])]; exact hx) (by rw [← hρ y (by simp [Op.operands, Call.operands])]; exact hy)
  case call f args ts cap x hf hb hok hc hfl =>
    have e : args.toList.map ρ = args.toList.map ρ' := List.map_congr_left fun y hy => hρ y (by simp [Op.operands, Call.operands]; right; simpa using hy)
    rw [e] at hok hc
    exact .call f args ts cap _ x (by rw [← hρ x (by simp [Op.operands, Call.operands])]; exact hf) hb hok hc hfl
  case callF f args ts cap x hf hb hok hc =>
    have e : args.toList.map ρ = args.toList.map ρ' := List.map_congr_left fun y hy => hρ y (by simp [Op.operands, Call.operands]; right; simpa using hy)
    rw [e] at hok hc ⊢
    exact .callF f args ts cap _ x (by rw [← hρ x (by simp [Op.operands, Call.operands])]; exact hf) hb hok hc
  case callN f args ts cap l r x hd hf hb hok hc hcl =>
    have e : args.toList.map ρ = args.toList.map ρ' := List.map_congr_left fun y hy => hρ y (by simp [Op.operands, Call.operands]; right; simpa using hy)
    rw [e] at hok hc ⊢
    exact .callN f args ts cap l r x hd (by rw [← hρ x (by simp [Op.operands, Call.operands])]; exact hf) hb hok hc hcl
  case appT x y T E xs ys cl z by_ l zv hd hx hy hE hz hb hzv hzz hel hfit h63 =>
    exact .appT x y T E xs ys cl z by_ l zv hd (by rw [← hρ x (by simp [Op.operands, Call.operands])]; exact hx) (by rw [← hρ y (by simp [Op.operands, Call.operands])]; exact hy) hE hz hb hzv hzz hel hfit h63
  case appR x y T E s r ys cl z by_ l zv hd hx hs' hy hE hz hb hzv hzz hel hrz hfit h63 =>
    exact .appR x y T E s r ys cl z by_ l zv hd (by rw [← hρ x (by simp [Op.operands, Call.operands])]; exact hx) hs' (by rw [← hρ y (by simp [Op.operands, Call.operands])]; exact hy) hE hz hb hzv hzz hel hrz hfit h63
  case buildSlice T E parts len z l zv els cl hd hE hz hzv hlen hel hbig hf hcl =>
    refine .buildSlice T E parts len z l zv els cl hd hE hz hzv hlen hel hbig ?_ hcl
    rw [← hf]
    congr 1
    refine List.map_congr_left fun p hp => ?_
    rw [hρ p.2 (by simp only [Op.operands, List.mem_toArray, List.mem_map]; exact (by simp; exact ⟨p.1, by simpa using hp⟩))]
  case buildI T E parts len z zv els hE hz hzv hlen hel hbig hf hcl =>
    refine .buildI T E parts len z zv els hE hz hzv hlen hel hbig ?_ hcl
    rw [← hf]
    congr 1
    refine List.map_congr_left fun p hp => ?_
    rw [hρ p.2 (by simp only [Op.operands, List.mem_toArray, List.mem_map]; exact (by simp; exact ⟨p.1, by simpa using hp⟩))]
  case nilSlice T E parts l z hd hE hz hp => exact .nilSlice T E parts l z hd hE hz hp
  case sliceL T E z x lo hi mx t xs i j k hx hE hz hel hlo hhi hmx hmh hij hjk hk =>
    have hb : ∀ {y : Option Operand} {d m : Nat}, (∀ o, y = some o → o ∈ (Op.slice T x lo hi mx).operands) → Bnd ρ y d m → Bnd ρ' y d m := by
      intro y d m hm h
      cases y with
      | none => exact h
      | some o => obtain ⟨q, hq⟩ := h; exact ⟨q, by rw [← hρ o (hm o rfl)]; exact hq⟩
    exact .sliceL T E z x lo hi mx t xs i j k (by rw [← hρ x (by simp [Op.operands])]; exact hx) hE hz hel (hb (fun o e => by subst e; simp [Op.operands]) hlo) (hb (fun o e => by subst e; simp [Op.operands]) hhi)
      (hb (fun o e => by subst e; simp [Op.operands]) hmx) hmh hij hjk hk
  case sliceR T E z x lo s r i l hd hx hs' hE hz hrz hlo hi =>
    refine .sliceR T E z x lo s r i l hd (by rw [← hρ x (by simp [Op.operands])]; exact hx) hs' hE hz hrz ?_ hi
    cases lo with
    | none => exact hlo
    | some o => obtain ⟨q, hq⟩ := hlo; exact ⟨q, by rw [← hρ o (by simp [Op.operands])]; exact hq⟩
  case sliceF T E z x lo hi s r i j hx hs' hcl hE hz hrz hlo hhi hij hj =>
    refine .sliceF T E z x lo hi s r i j (by rw [← hρ x (by simp [Op.operands])]; exact hx) hs' hcl hE hz hrz ?_ ?_ hij hj
    · cases lo with
      | none => exact hlo
      | some o => obtain ⟨q, hq⟩ := hlo; exact ⟨q, by rw [← hρ o (by simp [Op.operands])]; exact hq⟩
    · cases hi with
      | none => exact hhi
      | some o => obtain ⟨q, hq⟩ := hhi; exact ⟨q, by rw [← hρ o (by simp [Op.operands])]; exact hq⟩
  case copy x y T U E l r ys z hx hl hcl hy hE hz hrz hel hn hzp =>
    exact .copy x y T U E l r ys z (by rw [← hρ x (by simp [Op.operands, Call.operands])]; exact hx) hl hcl (by rw [← hρ y (by simp [Op.operands, Call.operands])]; exact hy) hE hz hrz hel hn hzp

/-! ### Steps -/

def yieldP (ops : Array Oper) (env : Nat → PV) (j : Nat) : Option Bool :=
  match (ops[j]?).bind (·.dst) with
  | some t => match env t with
    | .bool b => some b
    | _ => none
  | none => none

/-- Is it to be carried out? -/
def wantP (ops : Array Oper) (env : Nat → PV) (o : Oper) : Option Bool :=
  match o.guard with
  | none => some true
  | some (j, want) => match (ops[j]?).bind (·.dst) with
    | some t => match evP env (.tmp t) with
      | .bool b => some (b == want)
      | .tup [] => some false
      | _ => none
    | none => none

/-- Kinds of operations, by what they may do beside each other. -/
def cls (bar : List Nat) (i : Nat) : Op → Nat
  | .move _ | .assign _ | .pick .. | .nilCheck _ | .unOp .. | .binOp .. | .convert .. | .fieldAddr .. | .field .. | .extract .. | .makeFunc .. | .build .. => 7
  | .load .. | .indexAddr .. | .slice .. => if bar.contains i then 7 else 0
  | .alloc _ | .box .. | .buildSlice .. | .makeSlice .. => 1
  | .call { callee := .builtin .len, .. } => if bar.contains i then 7 else 0
  | .call { callee := .builtin .min, .. } | .call { callee := .builtin .max, .. } => 7
  | .call { callee := .builtin .append, .. } => 3
  | .call { callee := .value _, .. } => if bar.contains i then 5 else 2
  | _ => 4

def clsOK : Nat → Eff → Prop → Prop
  | 0, e, _ => e = .none
  | 1, e, _ => e = .none ∨ ∃ l r, e = .new l r
  | 2, e, _ => e = .none ∨ e = .frz [] ∨ ∃ l r, e = .frzN [] l r
  | 3, e, _ => (∃ l r, e = .new l r) ∨ ∃ s l r, e = .app s l r
  | 5, e, _ => e = .none ∨ (∃ ls, e = .frz ls) ∨ ∃ ls l r, e = .frzN ls l r
  | 7, e, F => e = .none ∧ F
  | _, _, _ => True

/-- May the two come either way round? -/
def allowed : Nat → Nat → Bool
  | 7, _ | _, 7 => true
  | 0, 0 | 0, 1 | 1, 0 | 0, 2 | 2, 0 | 1, 1 | 1, 2 | 2, 1 | 0, 3 | 3, 0 | 3, 1 | 0, 5 | 5, 0 => true
  | _, _ => false

/-- Rows that nothing in the region turns. -/
def kept (bar : List Nat) : List Nat := bar.filterMap fun n => if 1000 ≤ n then some (n - 1000) else none

def core (r : Row) : List PV × Nat × Bool := (r.els, r.z, r.cl)

def NearT (T : List Nat) (σ σ' : Nat → Option Row) : Prop := ∀ l, T.contains l = true → (σ l).map core = (σ' l).map core

theorem NearT.refl {T : List Nat} (σ : Nat → Option Row) : NearT T σ σ := fun _ _ => rfl
theorem NearT.symm {T : List Nat} {σ σ' : Nat → Option Row} (h : NearT T σ σ') : NearT T σ' σ := fun l q => (h l q).symm
theorem NearT.trans {T : List Nat} {σ σ' σ'' : Nat → Option Row} (h : NearT T σ σ') (k : NearT T σ' σ'') : NearT T σ σ'' := fun l q => (h l q).trans (k l q)

def Eff.off (T : List Nat) : Eff → Bool
  | .none | .frz _ => true
  | .new l _ | .app _ l _ | .frzN _ l _ | .sto l _ _ _ | .cpy l _ => !T.contains l

theorem frz1_core (σ : Nat → Option Row) (l k : Nat) : ((frz1 σ l) k).map core = (σ k).map core := by
  unfold frz1
  cases hl : σ l with
  | none => rfl
  | some q =>
    by_cases e : k = l
    · subst e; simp [upd_same, hl, core]
    · simp only; rw [upd_other _ _ e]

theorem frzL_core (ls : List Nat) : ∀ (σ : Nat → Option Row) (k : Nat), ((frzL σ ls) k).map core = (σ k).map core := by
  induction ls with
  | nil => intro σ k; rfl
  | cons l ls ih => intro σ k; exact (ih (frz1 σ l) k).trans (frz1_core σ l k)

theorem Eff.near {T : List Nat} {σ : Nat → Option Row} {e : Eff} (h : e.off T = true) : NearT T σ (e.apply σ) := by
  intro l hl
  have ne : ∀ {k : Nat}, (!T.contains k) = true → l ≠ k := fun {k} q e => by subst e; rw [hl] at q; cases q
  cases e with
  | none => rfl
  | new k r => simp only [Eff.apply]; rw [upd_other _ _ (ne h)]
  | app s k r =>
    simp only [Eff.apply]
    rw [upd_other _ _ (ne h)]
    cases hs : σ s with
    | none => rfl
    | some q =>
      by_cases e : l = s
      · subst e; simp [upd_same, hs, core]
      · simp only; rw [upd_other _ _ e]
  | sto k i f cs =>
    simp only [Eff.apply]
    cases σ k with
    | none => rfl
    | some q => cases hq : q.els[i]? with
      | none => simp only [hq]
      | some x => simp only [hq]; rw [upd_other _ _ (ne h)]
  | cpy k ys =>
    simp only [Eff.apply]
    cases σ k with
    | none => rfl
    | some q => simp only; rw [upd_other _ _ (ne h)]
  | frz ls => exact (frzL_core ls σ l).symm
  | frzN ls k r => simp only [Eff.apply]; rw [upd_other _ _ (ne h)]; exact (frzL_core ls σ l).symm

inductive StpF (P : Program) (ops : Array Oper) (dr : Bool) (T : List Nat) (c : Nat) (σF : Nat → Option Row) (o : Oper) (st : St) : St → Prop
  | run (d e) (hw : wantP ops st.env o = some true) (h : OpR P σF (evP st.env) o.dst o.op d e) (hs : Same st.σ σF ∧ NearT T st.σ σF) (hok : e.ok st.σ) (ht : dr = true → e.off T = true)
    (hc : dr = true → clsOK c e (∀ σ', NearT T σF σ' → OpR P σ' (evP st.env) o.dst o.op d e)) : StpF P ops dr T c σF o st ⟨putE st.env o.dst d, e.apply st.σ⟩
  | skip (hw : wantP ops st.env o = some false) : StpF P ops dr T c σF o st ⟨putE st.env o.dst (.tup []), st.σ⟩

abbrev Stp (P : Program) (ops : Array Oper) (dr : Bool) (T : List Nat) (c : Nat) (o : Oper) (st st' : St) : Prop := StpF P ops dr T c st.σ o st st'

theorem putE_comm {env : Nat → PV} {x y : Option Tmp} {d d' : PV} (h : ∀ t, x = some t → y ≠ some t) : putE (putE env x d) y d' = putE (putE env y d') x d := by
  cases x with
  | none => rfl
  | some t => cases y with
    | none => rfl
    | some u => exact upd_comm _ _ _ (fun e => h t rfl (by rw [e]))

theorem want_put {ops : Array Oper} {env : Nat → PV} {o : Oper} {dst : Option Tmp} {d : PV} (h : ∀ t, dst = some t → t ∉ o.looksAt ops) : wantP ops (putE env dst d) o = wantP ops env o := by
  unfold wantP
  cases hg : o.guard with
  | none => rfl
  | some p =>
    obtain ⟨j, want⟩ := p
    simp only
    cases hd : (ops[j]?).bind (·.dst) with
    | none => rfl
    | some t =>
      simp only
      have : putE env dst d t = env t := by
        cases dst with
        | none => rfl
        | some u =>
          refine upd_other _ _ (fun e => ?_)
          subst e
          refine h t rfl ?_
          unfold Oper.looksAt
          rw [hg]
          simp [hd]
      have this2 : evP (putE env dst d) (.tmp t) = evP env (.tmp t) := by simp only [evP, this]
      rw [this2]

theorem op_put {P : Program} {σ : Nat → Option Row} {ops : Array Oper} {env : Nat → PV} {o : Oper} {dst : Option Tmp} {d d' : PV} {e : Eff} (h : ∀ t, dst = some t → t ∉ o.looksAt ops) :
    OpR P σ (evP (putE env dst d)) o.dst o.op d' e ↔ OpR P σ (evP env) o.dst o.op d' e := by
  have hx : ∀ x ∈ o.op.operands, evP (putE env dst d) x = evP env x := fun x hx => evP_put fun t ht e => by
    subst e
    refine h t ht ?_
    unfold Oper.looksAt
    exact List.mem_append_left _ (List.mem_filterMap.2 ⟨.tmp t, by simpa using hx, rfl⟩)
  exact ⟨fun h => h.congr hx, fun h => h.congr fun x q => (hx x q).symm⟩

/-- What an effect leaves: the contents of all that was there. -/
def keepE : Eff → Bool
  | .sto .. | .cpy .. => false
  | _ => true

theorem frz1_same (σ : Nat → Option Row) (l : Nat) : Same σ (frz1 σ l) := by
  intro k r hk
  unfold frz1
  cases hl : σ l with
  | none => exact ⟨r, hk, rfl, rfl, rfl⟩
  | some q =>
    by_cases e : k = l
    · subst e
      rw [hl] at hk
      cases hk
      exact ⟨_, upd_same _ _ _, rfl, rfl, rfl⟩
    · exact ⟨r, by simp only [upd_other _ _ e]; exact hk, rfl, rfl, rfl⟩

theorem Same.trans {σ σ' σ'' : Nat → Option Row} (h : Same σ σ') (k : Same σ' σ'') : Same σ σ'' := by
  intro l r hl
  obtain ⟨r', h1, h2, h3, h4⟩ := h l r hl
  obtain ⟨r'', k1, k2, k3, k4⟩ := k l r' h1
  exact ⟨r'', k1, by rw [k2, h2], by rw [k3, h3], by rw [k4, h4]⟩

theorem frzL_same (ls : List Nat) : ∀ (σ : Nat → Option Row), Same σ (frzL σ ls) := by
  induction ls with
  | nil => exact fun σ => Same.refl σ
  | cons l ls ih => exact fun σ => (frz1_same σ l).trans (ih (frz1 σ l))

theorem upd_new_same {σ : Nat → Option Row} {l : Nat} {r : Row} (h : σ l = none) : Same σ (upd σ l (some r)) := fun k q hk => by
  have : k ≠ l := fun e => by subst e; rw [h] at hk; cases hk
  exact ⟨q, by rw [upd_other _ _ this]; exact hk, rfl, rfl, rfl⟩

theorem frz1_none {σ : Nat → Option Row} {l k : Nat} (h : σ l = none) : frz1 σ k l = none := by
  unfold frz1
  cases hk : σ k with
  | none => exact h
  | some q =>
    have : l ≠ k := fun e => by subst e; rw [h] at hk; cases hk
    simp only [upd_other _ _ this]
    exact h

theorem frzL_none {l : Nat} : ∀ {ls : List Nat} {σ : Nat → Option Row}, σ l = none → frzL σ ls l = none
  | [], _, h => h
  | k :: ls, σ, h => frzL_none (ls := ls) (σ := frz1 σ k) (frz1_none h)

theorem Eff.same {σ : Nat → Option Row} {e : Eff} (hk : keepE e = true) (hok : e.ok σ) : Same σ (e.apply σ) := by
  cases e with
  | none => exact Same.refl σ
  | new l r => exact upd_new_same hok
  | app s l r =>
    obtain ⟨h1, q, h2, _⟩ := hok
    simp only [Eff.apply, h2]
    have hne : l ≠ s := fun e => by subst e; rw [h1] at h2; cases h2
    intro k p hp
    have hkl : k ≠ l := fun e => by subst e; rw [h1] at hp; cases hp
    rw [upd_other _ _ hkl]
    by_cases e : k = s
    · subst e
      rw [h2] at hp
      cases hp
      exact ⟨_, upd_same _ _ _, rfl, rfl, rfl⟩
    · exact ⟨p, by rw [upd_other _ _ e]; exact hp, rfl, rfl, rfl⟩
  | sto l i f cs => cases hk
  | cpy l ys => cases hk
  | frz ls => exact frzL_same ls σ
  | frzN ls l r => exact (frzL_same ls σ).trans (upd_new_same (frzL_none hok))

theorem clsOK_keep {c : Nat} {e : Eff} {F : Prop} (h : clsOK c e F) (hc : c ≠ 4) (hc' : c ≤ 5) : keepE e = true := by
  match c, hc, hc', h with
  | 0, _, _, h => rw [show e = .none from h]; rfl
  | 1, _, _, h => rcases h with rfl | ⟨l, r, rfl⟩ <;> rfl
  | 2, _, _, h => rcases h with rfl | rfl | ⟨l, r, rfl⟩ <;> rfl
  | 3, _, _, h => rcases h with ⟨l, r, rfl⟩ | ⟨s, l, r, rfl⟩ <;> rfl
  | 5, _, _, h => rcases h with rfl | ⟨ls, rfl⟩ | ⟨ls, l, r, rfl⟩ <;> rfl

/-- Two effects that may come either way round. -/
theorem eff_swap {σ : Nat → Option Row} {cj cx : Nat} {ej ex : Eff} {Fj Fx : Prop} (h7j : cj ≠ 7) (h7x : cx ≠ 7) (ha : allowed cj cx = true) (hj : clsOK cj ej Fj) (hx : clsOK cx ex Fx) (hokj : ej.ok σ) (hokx : ex.ok (ej.apply σ)) (hkey : ∀ l, ej.key = some l → ex.key ≠ some l) :
    ex.ok σ ∧ ej.ok (ex.apply σ) ∧ ej.apply (ex.apply σ) = ex.apply (ej.apply σ) ∧ Same σ (ej.apply σ) ∧ Same σ (ex.apply σ) := by
  have e0 : ∀ (σ : Nat → Option Row), (Eff.frz []).apply σ = σ := fun _ => rfl
  have e1 : ∀ (σ : Nat → Option Row) l r, (Eff.frzN [] l r).apply σ = (Eff.new l r).apply σ := fun _ _ _ => rfl
  -- effects none or new, and what they are beside each other
  have simple : ∀ {e : Eff}, (e = .none ∨ e = .frz [] ∨ (∃ l r, e = .new l r) ∨ ∃ l r, e = .frzN [] l r) → (∀ σ, e.apply σ = σ ∧ e.ok σ) ∨ ∃ l r, e.key = some l ∧ (∀ σ, e.apply σ = upd σ l (some r)) ∧ (∀ σ, e.ok σ ↔ σ l = none) := by
    rintro e (rfl | rfl | ⟨l, r, rfl⟩ | ⟨l, r, rfl⟩)
    · exact .inl fun _ => ⟨rfl, trivial⟩
    · exact .inl fun _ => ⟨rfl, trivial⟩
    · exact .inr ⟨l, r, rfl, fun _ => rfl, fun _ => Iff.rfl⟩
    · exact .inr ⟨l, r, rfl, fun _ => rfl, fun _ => Iff.rfl⟩
  have s0 : ∀ {e : Eff} {F : Prop}, clsOK 0 e F → (e = .none ∨ e = .frz [] ∨ (∃ l r, e = .new l r) ∨ ∃ l r, e = .frzN [] l r) := fun h => .inl h
  have s1 : ∀ {e : Eff} {F : Prop}, clsOK 1 e F → (e = .none ∨ e = .frz [] ∨ (∃ l r, e = .new l r) ∨ ∃ l r, e = .frzN [] l r) := fun h => h.elim .inl fun h => .inr (.inr (.inl h))
  have s2 : ∀ {e : Eff} {F : Prop}, clsOK 2 e F → (e = .none ∨ e = .frz [] ∨ (∃ l r, e = .new l r) ∨ ∃ l r, e = .frzN [] l r) := fun h => h.elim .inl fun h => h.elim (fun h => .inr (.inl h)) fun h => .inr (.inr (.inr h))
  -- both simple
  have both : (ej = .none ∨ ej = .frz [] ∨ (∃ l r, ej = .new l r) ∨ ∃ l r, ej = .frzN [] l r) → (ex = .none ∨ ex = .frz [] ∨ (∃ l r, ex = .new l r) ∨ ∃ l r, ex = .frzN [] l r) →
      ex.ok σ ∧ ej.ok (ex.apply σ) ∧ ej.apply (ex.apply σ) = ex.apply (ej.apply σ) ∧ Same σ (ej.apply σ) ∧ Same σ (ex.apply σ) := by
    intro hj hx
    rcases simple hj with kj | ⟨l, r, kj0, kj1, kj2⟩ <;> rcases simple hx with kx | ⟨l', r', kx0, kx1, kx2⟩
    · rw [(kj σ).1, (kx σ).1]
      exact ⟨(kx σ).2, (kj σ).2, by rw [(kj σ).1], Same.refl _, Same.refl _⟩
    · rw [(kj σ).1] at hokx ⊢
      rw [kx1]
      exact ⟨hokx, (kj _).2, (kj _).1, Same.refl _, upd_new_same ((kx2 σ).1 hokx)⟩
    · exact ⟨(kx σ).2, by rw [(kx σ).1]; exact hokj, by rw [(kx σ).1, (kx _).1], by rw [kj1]; exact upd_new_same ((kj2 σ).1 hokj), by rw [(kx σ).1]; exact Same.refl _⟩
    · have hne : l ≠ l' := fun e => hkey l kj0 (by rw [kx0, e])
      have hl := (kj2 σ).1 hokj
      have hl' : σ l' = none := by
        have := (kx2 _).1 hokx
        rw [kj1, upd_other _ _ (Ne.symm hne)] at this
        exact this
      rw [kj1, kx1, kj1, kx1]
      exact ⟨(kx2 σ).2 hl', (kj2 _).2 (by rw [upd_other _ _ hne]; exact hl), upd_comm _ _ _ (Ne.symm hne), upd_new_same hl, upd_new_same hl'⟩
  -- one of them only looks
  have lookj : ej = .none → ex.ok σ ∧ ej.ok (ex.apply σ) ∧ ej.apply (ex.apply σ) = ex.apply (ej.apply σ) ∧ Same σ (ej.apply σ) ∧ (keepE ex = true → Same σ (ex.apply σ)) := by
    rintro rfl
    exact ⟨hokx, trivial, rfl, Same.refl _, fun q => Eff.same q hokx⟩
  have lookx : ex = .none → keepE ej = true → ex.ok σ ∧ ej.ok (ex.apply σ) ∧ ej.apply (ex.apply σ) = ex.apply (ej.apply σ) ∧ Same σ (ej.apply σ) ∧ Same σ (ex.apply σ) := by
    rintro rfl q
    exact ⟨trivial, hokj, rfl, Eff.same q hokj, Same.refl _⟩
  have look0 : clsOK cj ej Fj → cj = 0 → cx ≠ 4 → cx ≤ 5 → ex.ok σ ∧ ej.ok (ex.apply σ) ∧ ej.apply (ex.apply σ) = ex.apply (ej.apply σ) ∧ Same σ (ej.apply σ) ∧ Same σ (ex.apply σ) := by
    intro h q h4 h5
    subst q
    obtain ⟨k1, k2, k3, k4, k5⟩ := lookj h
    exact ⟨k1, k2, k3, k4, k5 (clsOK_keep hx h4 h5)⟩
  unfold allowed at ha
  split at ha
  · exact absurd rfl h7j
  · exact absurd rfl h7x
  · exact both (s0 hj) (s0 hx)
  · exact both (s0 hj) (s1 hx)
  · exact both (s1 hj) (s0 hx)
  · exact both (s0 hj) (s2 hx)
  · exact both (s2 hj) (s0 hx)
  · exact both (s1 hj) (s1 hx)
  · exact both (s1 hj) (s2 hx)
  · exact both (s2 hj) (s1 hx)
  · exact look0 hj rfl (by omega) (by omega)
  · exact lookx hx (clsOK_keep hj (by omega) (by omega))
  · -- an append, and a row that is new
    rcases hj with ⟨l, r, rfl⟩ | ⟨s, l, r, rfl⟩
    · exact both (.inr (.inr (.inl ⟨l, r, rfl⟩))) (s1 hx)
    · rcases hx with rfl | ⟨l', r', rfl⟩
      · exact lookx rfl rfl
      · obtain ⟨h1, q, h2, h3⟩ := hokj
        have hne : l ≠ l' := fun e => hkey l rfl (by rw [e]; rfl)
        have hsl : s ≠ l := fun e => by subst e; rw [h1] at h2; cases h2
        have hx' : upd (upd σ s (some { q with lo := q.els.length, opn := false })) l (some r) l' = none := by
          have := hokx
          simp only [Eff.ok, Eff.apply, h2] at this
          exact this
        rw [upd_other _ _ (Ne.symm hne)] at hx'
        have hsl' : s ≠ l' := fun e => by subst e; rw [upd_same] at hx'; cases hx'
        rw [upd_other _ _ (Ne.symm hsl')] at hx'
        refine ⟨hx', ⟨by simp only [Eff.apply]; rw [upd_other _ _ hne]; exact h1, q, by simp only [Eff.apply]; rw [upd_other _ _ hsl']; exact h2, h3⟩, ?_, Eff.same rfl ⟨h1, q, h2, h3⟩, upd_new_same hx'⟩
        simp only [Eff.apply, upd_other _ _ hsl', h2]
        rw [upd_comm _ _ _ (Ne.symm hsl'), upd_comm _ _ _ (Ne.symm hne)]
  · exact look0 hj rfl (by omega) (by omega)
  · exact lookx hx (clsOK_keep hj (by omega) (by omega))
  · cases ha

/-- Two operations that may come either way round. -/
theorem step_swap {P : Program} {ops : Array Oper} {T : List Nat} {cj cx : Nat} {oj ox : Oper} {st s s' : St} {σF : Nat → Option Row} (hap : oj.apart ops ox = true) (ha : allowed cj cx = true)
    (hj : Stp P ops true T cj oj st s) (hx : StpF P ops true T cx σF ox s s') : ∃ σF' st', StpF P ops true T cx σF' ox st st' ∧ Stp P ops true T cj oj st' s' := by
  obtain ⟨a1, a2, a3⟩ := Oper.apart_spec hap
  have rr : ∀ σ : Nat → Option Row, Same σ σ ∧ NearT T σ σ := fun σ => ⟨Same.refl _, NearT.refl _⟩
  have weak : ∀ {c : Nat} {e : Eff} {F G : Prop}, (c = 7 → F → G) → clsOK c e F → clsOK c e G := fun {c e F G} hne q => by
    unfold clsOK at q ⊢
    split at q <;> first | exact q | exact ⟨q.1, hne rfl q.2⟩ | trivial
  cases hj with
  | run d e hw h hs hok ht hc =>
    cases hx with
    | run d' e' hw' h' hs' hok' ht' hc' =>
      simp only at hw' h' hs' hok' ⊢
      have hkey : ∀ l, e.key = some l → e'.key ≠ some l := fun l q q' => a2 l (h.key l q) (h'.key l q')
      have near1 : NearT T st.σ (e.apply st.σ) := Eff.near (ht rfl)
      rw [want_put a1] at hw'
      by_cases h7x : cx = 7
      · subst h7x
        obtain ⟨rfl, hfree⟩ := hc' rfl
        have hfree' : ∀ σ', NearT T st.σ σ' → OpR P σ' (evP st.env) ox.dst ox.op d' .none := fun σ' q => (op_put a1).1 (hfree σ' ((near1.trans hs'.2).symm.trans q))
        refine ⟨st.σ, _, .run d' .none hw' (hfree' _ (NearT.refl _)) (rr _) trivial (fun _ => rfl) (fun _ => ⟨rfl, hfree'⟩), ?_⟩
        have := StpF.run (P := P) (ops := ops) (dr := true) (T := T) (c := cj) (σF := st.σ) (o := oj) (st := ⟨putE st.env ox.dst d', st.σ⟩) d e (by rw [want_put a3]; exact hw) ((op_put a3).2 h) (rr _) hok ht
          (fun q => weak (fun _ f σ' hσ => (op_put a3).2 (f σ' hσ)) (hc q))
        rw [putE_comm (x := ox.dst) (y := oj.dst) fun t q q' => a2 t q' q] at this
        exact this
      by_cases h7j : cj = 7
      · subst h7j
        obtain ⟨rfl, hfree⟩ := hc rfl
        rw [op_put a1] at h'
        have near2 : NearT T st.σ (e'.apply st.σ) := Eff.near (ht' rfl)
        refine ⟨σF, _, .run d' e' hw' h' hs' hok' ht' (fun q => weak (fun _ f σ' hσ => (op_put a1).1 (f σ' hσ)) (hc' q)), ?_⟩
        have := StpF.run (P := P) (ops := ops) (dr := true) (T := T) (c := 7) (σF := e'.apply st.σ) (o := oj) (st := ⟨putE st.env ox.dst d', e'.apply st.σ⟩) d .none (by rw [want_put a3]; exact hw) ((op_put a3).2 (hfree _ near2)) (rr _) trivial (fun _ => rfl)
          (fun _ => ⟨rfl, fun σ' q => (op_put a3).2 (hfree σ' (near2.trans q))⟩)
        rw [putE_comm (x := ox.dst) (y := oj.dst) fun t q q' => a2 t q' q] at this
        exact this
      · have fj : clsOK cj e True := weak (fun _ _ => trivial) (hc rfl)
        have fx : clsOK cx e' True := weak (fun _ _ => trivial) (hc' rfl)
        obtain ⟨k1, k2, k3, k4, k5⟩ := eff_swap h7j h7x ha fj fx hok hok' hkey
        rw [op_put a1] at h'
        refine ⟨σF, _, .run d' e' hw' h' ⟨k4.trans hs'.1, near1.trans hs'.2⟩ k1 ht' (fun _ => weak (fun q => absurd q h7x) fx), ?_⟩
        have := StpF.run (P := P) (ops := ops) (dr := true) (T := T) (c := cj) (σF := e'.apply st.σ) (o := oj) (st := ⟨putE st.env ox.dst d', e'.apply st.σ⟩) d e (by rw [want_put a3]; exact hw) ((op_put a3).2 (h.mono k5)) (rr _) k2 ht (fun _ => weak (fun q => absurd q h7j) fj)
        rw [k3, putE_comm (x := ox.dst) (y := oj.dst) fun t q q' => a2 t q' q] at this
        exact this
    | skip hw' =>
      simp only at hw' ⊢
      rw [want_put a1] at hw'
      refine ⟨st.σ, _, .skip hw', ?_⟩
      have := StpF.run (P := P) (ops := ops) (dr := true) (T := T) (c := cj) (σF := st.σ) (o := oj) (st := ⟨putE st.env ox.dst (.tup []), st.σ⟩) d e (by rw [want_put a3]; exact hw) ((op_put a3).2 h) (rr _) hok ht
        (fun q => weak (fun _ f σ' hσ => (op_put a3).2 (f σ' hσ)) (hc q))
      rw [putE_comm (x := ox.dst) (y := oj.dst) fun t q q' => a2 t q' q] at this
      exact this
  | skip hw =>
    cases hx with
    | run d' e' hw' h' hs' hok' ht' hc' =>
      simp only at hw' h' hs' hok' ⊢
      rw [want_put a1] at hw'
      rw [op_put a1] at h'
      refine ⟨σF, _, .run d' e' hw' h' hs' hok' ht' (fun q => weak (fun _ f σ' hσ => (op_put a1).1 (f σ' hσ)) (hc' q)), ?_⟩
      have := StpF.skip (P := P) (ops := ops) (dr := true) (T := T) (c := cj) (σF := e'.apply st.σ) (o := oj) (st := ⟨putE st.env ox.dst d', e'.apply st.σ⟩) (by rw [want_put a3]; exact hw)
      rw [putE_comm (x := ox.dst) (y := oj.dst) fun t q q' => a2 t q' q] at this
      exact this
    | skip hw' =>
      simp only at hw' ⊢
      rw [want_put a1] at hw'
      refine ⟨st.σ, _, .skip hw', ?_⟩
      have := StpF.skip (P := P) (ops := ops) (dr := true) (T := T) (c := cj) (σF := st.σ) (o := oj) (st := ⟨putE st.env ox.dst (.tup []), st.σ⟩) (by rw [want_put a3]; exact hw)
      rw [putE_comm (x := ox.dst) (y := oj.dst) fun t q q' => a2 t q' q] at this
      exact this

/-- A run of operations. -/
def Runs (P : Program) (ops : Array Oper) (bar : List Nat) (dr : Bool) : List Nat → St → St → Prop
  | [], st, st' => st = st'
  | i :: is, st, st' => ∃ o s, ops[i]? = some o ∧ Stp P ops dr (kept bar) (cls bar i o.op) o st s ∧ Runs P ops bar dr is s st'

/-- One of them may come first. -/
theorem runs_first {P : Program} {ops : Array Oper} {bar : List Nat} {x : Nat} {ox : Oper} (hox : ops[x]? = some ox) : ∀ (c1 c2 : List Nat) (st s' : St),
    (∀ j ∈ c1, ∀ oj, ops[j]? = some oj → oj.apart ops ox = true ∧ allowed (cls bar j oj.op) (cls bar x ox.op) = true) → Runs P ops bar true (c1 ++ x :: c2) st s' →
    ∃ σF st', StpF P ops true (kept bar) (cls bar x ox.op) σF ox st st' ∧ Runs P ops bar true (c1 ++ c2) st' s' := by
  intro c1
  induction c1 with
  | nil =>
    intro c2 st s' _ h
    obtain ⟨o, s, ho, hs, hr⟩ := h
    rw [hox] at ho
    cases ho
    exact ⟨_, s, hs, hr⟩
  | cons j c1 ih =>
    intro c2 st s' hj h
    obtain ⟨oj, s, hoj, hs, hr⟩ := h
    obtain ⟨σF, s1, h1, h2⟩ := ih c2 s s' (fun k hk => hj k (List.mem_cons_of_mem _ hk)) hr
    obtain ⟨k1, k2⟩ := hj j (List.mem_cons_self ..) oj hoj
    obtain ⟨σF', st', q1, q2⟩ := step_swap k1 k2 hs h1
    exact ⟨σF', st', q1, oj, s1, hoj, q2, h2⟩

end Go.Pw
