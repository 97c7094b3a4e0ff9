/-
  Short names of theorems.
-/
import Derived.Below
import Derived.Carry
import Derived.ChangeMaps5
import Derived.ChangeOld
import Derived.Deep.Fields
import Derived.Deep.Slices
import Derived.IntWalk
import Derived.KernelRfl
import Derived.Laws.Append
import Derived.Laws.AppendOwn
import Derived.Laws.IdiomCopy
import Derived.Laws.MakeOwn
import Derived.Laws.StructEq
import Derived.Lib.AppendZeros
import Derived.Lib.BitFns
import Derived.Lib.CountLaws
import Derived.Lib.IndexLaws
import Derived.Lib.ItoaNum
import Derived.Lib.LaidTab
import Derived.Lib.RowBridge
import Derived.Lib.Split
import Derived.MapKept
import Derived.OrdersIn
import Derived.RangeFuncIn
import Derived.RangeFuncLeaves
import Derived.RangeFuncOwn
import Derived.RangeFuncRecord
import Derived.Shelf.SlSortCmp.Kit1
import Derived.Shelf.SlSortCmp.Whole1
import Derived.Shelf.SortM.Plain
import Derived.Shelf.SortM.SortNone
import Derived.Shelf.Strconv.Itoa3
import Derived.Shelf.Strings.Split
import Derived.Sort.AssemblyPlain
import Derived.TacticsIn
import Derived.WideShapes
import GoSem.Claims
import GoSem.Core.Utf8
namespace Go
set_option linter.unusedVariables false
theorem za:type_of%@if_neg:=@if_neg
theorem zc:type_of%@if_pos:=@if_pos
theorem zd:type_of%@List.getElem?_eq_getElem:=@List.getElem?_eq_getElem
theorem zf:type_of%@List.all_eq_true:=@List.all_eq_true
theorem zg:type_of%@List.getD_eq_getElem?_getD:=@List.getD_eq_getElem?_getD
theorem zh:type_of%@List.mem_of_getElem?:=@List.mem_of_getElem?
theorem zi:type_of%@Result.andThen_ok:=@Result.andThen_ok
theorem zj:type_of%@Bool.false_eq_true:=@Bool.false_eq_true
theorem zk:type_of%@List.getElem_mem:=@List.getElem_mem
theorem zl:type_of%@List.length_cons:=@List.length_cons
theorem zm:type_of%@List.mem_cons_self:=@List.mem_cons_self
theorem zn:type_of%@List.take_succ_eq_append_getElem:=@List.take_succ_eq_append_getElem
theorem zo:type_of%@Bool.and_eq_true:=@Bool.and_eq_true
theorem zp:type_of%@Nat.mul_le_mul_right:=@Nat.mul_le_mul_right
theorem zq:type_of%@Nat.le_refl:=@Nat.le_refl
theorem zt:type_of%@Sem.run_bind:=@Sem.run_bind
theorem zu:type_of%@Array.getElem?_eq_getElem:=@Array.getElem?_eq_getElem
theorem zx:type_of%@List.mem_cons_of_mem:=@List.mem_cons_of_mem
theorem zy:type_of%@List.mem_filter:=@List.mem_filter
theorem zA:type_of%@List.getElem?_eq_some_iff:=@List.getElem?_eq_some_iff
theorem zB:type_of%@decide_eq_true:=@decide_eq_true
theorem zC:type_of%@List.mem_append:=@List.mem_append
theorem zD:type_of%@List.length_append:=@List.length_append
theorem zE:type_of%@Nat.lt_or_ge:=@Nat.lt_or_ge
theorem zF:type_of%@Nat.le_of_ble_eq_true:=@Nat.le_of_ble_eq_true
theorem zG:type_of%@decide_eq_true_iff:=@decide_eq_true_iff
theorem zH:type_of%@decide_eq_false:=@decide_eq_false
theorem zI:type_of%@decide_eq_true_eq:=@decide_eq_true_eq
theorem zJ:type_of%@List.length_singleton:=@List.length_singleton
theorem zK:type_of%@List.getElem?_append_right:=@List.getElem?_append_right
theorem zL:type_of%@Array.getD_eq_getD_getElem?:=@Array.getD_eq_getD_getElem?
theorem zM:type_of%@List.take_length:=@List.take_length
theorem zN:type_of%@List.eq_nil_of_length_eq_zero:=@List.eq_nil_of_length_eq_zero
theorem zO:type_of%@Int.toNat_natCast:=@Int.toNat_natCast
theorem zP:type_of%@List.mem_map:=@List.mem_map
theorem zQ:type_of%@Int.ofNat_lt:=@Int.ofNat_lt
theorem zR:type_of%@List.mem_singleton:=@List.mem_singleton
theorem zT:type_of%@List.length_nil:=@List.length_nil
theorem zU:type_of%@List.getElem?_append_left:=@List.getElem?_append_left
theorem zV:type_of%@List.mem_cons:=@List.mem_cons
theorem zW:type_of%@List.getElem?_map:=@List.getElem?_map
theorem zX:type_of%@List.length_map:=@List.length_map
theorem zY:type_of%@decide_true:=@decide_true
theorem zZ:type_of%@run_underlying:=@run_underlying
theorem wd:type_of%@if_true:=@if_true
theorem we:type_of%@List.map_congr_left:=@List.map_congr_left
theorem wf:type_of%@if_false:=@if_false
theorem wl:type_of%@beq_iff_eq:=@beq_iff_eq
theorem wp:type_of%@Option.getD_some:=@Option.getD_some
theorem wt:type_of%@List.length_filter_le:=@List.length_filter_le
theorem ww:type_of%@Option.map_some:=@Option.map_some
theorem ul:type_of%@Nat.le_trans:=@Nat.le_trans
theorem un:type_of%@Nat.add_mul:=@Nat.add_mul
theorem ut:type_of%@List.map_cons:=@List.map_cons
theorem t6:type_of%@List.append_nil:=@List.append_nil
theorem t7:type_of%@Array.getElem?_eq_some_iff:=@Array.getElem?_eq_some_iff
theorem t8:type_of%@Option.some.inj:=@Option.some.inj
theorem sm:type_of%@Option.some.injEq:=@Option.some.injEq
theorem so:type_of%@Classical.byContradiction:=@Classical.byContradiction
theorem rg:type_of%@Nat.zero_le:=@Nat.zero_le
theorem rx:type_of%@List.getElem_map:=@List.getElem_map
theorem qr:type_of%@beq_self_eq_true:=@beq_self_eq_true
theorem q9:type_of%@List.pairwise_cons:=@List.pairwise_cons
theorem pi:type_of%@Bool.or_eq_true:=@Bool.or_eq_true
theorem pm:type_of%@List.getElem?_drop:=@List.getElem?_drop
theorem pu:type_of%@List.append_assoc:=@List.append_assoc
theorem p0:type_of%@List.getElem?_eq_none:=@List.getElem?_eq_none
theorem or:type_of%@Sem.run_pure:=@Sem.run_pure
theorem n7:type_of%@List.map_append:=@List.map_append
theorem n8:type_of%@Nat.add_assoc:=@Nat.add_assoc
theorem n9:type_of%@List.length_take:=@List.length_take
theorem md:type_of%@Int.le_refl:=@Int.le_refl
theorem me:type_of%@World.cell?_setCells_out:=@World.cell?_setCells_out
theorem ms:type_of%@Array.getElem?_append_left:=@Array.getElem?_append_left
theorem mt:type_of%@List.mem_flatMap:=@List.mem_flatMap
theorem my:type_of%@List.filter_cons:=@List.filter_cons
theorem m7:type_of%@Nat.zero_add:=@Nat.zero_add
theorem m8:type_of%@Nat.eq_zero_or_pos:=@Nat.eq_zero_or_pos
theorem m9:type_of%@congrArg:=@congrArg
theorem zaa:type_of%@List.getElem?_set_self:=@List.getElem?_set_self
theorem zab:type_of%@decide_false:=@decide_false
theorem zac:type_of%@List.mem_append_left:=@List.mem_append_left
theorem zad:type_of%@World.cell?_setCells_in:=@World.cell?_setCells_in
theorem zae:type_of%@List.getElem?_cons_zero:=@List.getElem?_cons_zero
theorem zaf:type_of%@List.getElem?_cons_succ:=@List.getElem?_cons_succ
theorem zag:type_of%@Bool.true_and:=@Bool.true_and
theorem zah:type_of%@Array.getElem?_setIfInBounds:=@Array.getElem?_setIfInBounds
theorem zai:type_of%@Array.getElem?_append_right:=@Array.getElem?_append_right
theorem zaj:type_of%@List.take_of_length_le:=@List.take_of_length_le
theorem zak:type_of%@List.mem_of_mem_take:=@List.mem_of_mem_take
theorem zal:type_of%@Int.lt_irrefl:=@Int.lt_irrefl
theorem zam:type_of%@Nat.add_zero:=@Nat.add_zero
theorem zan:type_of%@List.mem_or_eq_of_mem_set:=@List.mem_or_eq_of_mem_set
theorem zao:type_of%@Bool.eq_iff_iff:=@Bool.eq_iff_iff
theorem zap:type_of%@Option.isSome_iff_exists:=@Option.isSome_iff_exists
theorem zaq:type_of%@List.getElem?_take_of_lt:=@List.getElem?_take_of_lt
theorem zar:type_of%@List.filter_append:=@List.filter_append
theorem zas:type_of%@List.length_set:=@List.length_set
theorem zat:type_of%@List.mem_of_mem_drop:=@List.mem_of_mem_drop
theorem zau:type_of%@List.drop_eq_getElem_cons:=@List.drop_eq_getElem_cons
theorem zav:type_of%@Ne.symm:=@Ne.symm
theorem zaw:type_of%@List.foldl_cons:=@List.foldl_cons
theorem zax:type_of%@List.nodup_cons:=@List.nodup_cons
theorem zay:type_of%@Bool.eq_false_or_eq_true:=@Bool.eq_false_or_eq_true
theorem zaz:type_of%@List.filter_eq_self:=@List.filter_eq_self
theorem za0:type_of%@List.mem_append_right:=@List.mem_append_right
theorem za1:type_of%@Classical.choose_spec:=@Classical.choose_spec
theorem za2:type_of%@Nat.eq_of_beq_eq_true:=@Nat.eq_of_beq_eq_true
theorem za3:type_of%@List.countP_le_length:=@List.countP_le_length
theorem za4:type_of%@List.filter_congr:=@List.filter_congr
theorem za5:type_of%@List.foldl_append:=@List.foldl_append
theorem za6:type_of%@bne_self_eq_false:=@bne_self_eq_false
theorem za7:type_of%@Nat.one_mul:=@Nat.one_mul
theorem za8:type_of%@List.getElem?_of_mem:=@List.getElem?_of_mem
theorem za9:type_of%@List.eq_nil_iff_forall_not_mem:=@List.eq_nil_iff_forall_not_mem
theorem zba:type_of%@List.flatMap_cons:=@List.flatMap_cons
theorem zbb:type_of%@List.pairwise_append:=@List.pairwise_append
theorem zbc:type_of%@decide_eq_decide:=@decide_eq_decide
theorem zbd:type_of%@List.ext_getElem:=@List.ext_getElem
theorem zbe:type_of%@World.frozen?_setCells:=@World.frozen?_setCells
theorem zbf:type_of%@Nat.add_comm:=@Nat.add_comm
theorem zbg:type_of%@Array.all_eq_true_iff_forall_mem:=@Array.all_eq_true_iff_forall_mem
theorem zbh:type_of%@of_decide_eq_true:=@of_decide_eq_true
theorem zbi:type_of%@Bool.false_and:=@Bool.false_and
theorem zbj:type_of%@Bool.eq_false_iff:=@Bool.eq_false_iff
theorem zbk:type_of%@List.getElem_of_mem:=@List.getElem_of_mem
theorem zbl:type_of%@List.length_replicate:=@List.length_replicate
theorem zbm:type_of%@Nat.lt_of_lt_of_le:=@Nat.lt_of_lt_of_le
theorem zbn:type_of%@List.mem_replicate:=@List.mem_replicate
theorem zbo:type_of%@Array.getElem?_replicate:=@Array.getElem?_replicate
theorem zbp:type_of%@Bool.not_eq_true':=@Bool.not_eq_true'
theorem zbq:type_of%@List.countP_eq_length_filter:=@List.countP_eq_length_filter
theorem zbr:type_of%@List.countP_pos_iff:=@List.countP_pos_iff
theorem zbs:type_of%@Array.getElem?_eq_none:=@Array.getElem?_eq_none
theorem zbt:type_of%@List.map_set:=@List.map_set
theorem zbu:type_of%@Bool.not_true:=@Bool.not_true
theorem zbv:type_of%@Bool.false_or:=@Bool.false_or
theorem zbw:type_of%@Option.bind_some:=@Option.bind_some
theorem zbx:type_of%@wpIn_mono:=@wpIn_mono
theorem zby:type_of%@List.drop_zero:=@List.drop_zero
theorem zbz:type_of%@List.nil_append:=@List.nil_append
theorem zb0:type_of%@List.getElem?_set_ne:=@List.getElem?_set_ne
theorem zb1:type_of%@Array.size_append:=@Array.size_append
theorem zb2:type_of%@Bool.or_eq_false_iff:=@Bool.or_eq_false_iff
theorem zb3:type_of%@Nat.zero_mul:=@Nat.zero_mul
theorem zb4:type_of%@List.Pairwise.filter:=@List.Pairwise.filter
theorem zb5:type_of%@Nat.mul_one:=@Nat.mul_one
theorem zb6:type_of%@List.nodup_append:=@List.nodup_append
theorem zb7:type_of%@Nat.lt_irrefl:=@Nat.lt_irrefl
theorem zb8:type_of%@beq_eq_false_iff_ne:=@beq_eq_false_iff_ne
theorem zb9:type_of%@List.not_mem_nil:=@List.not_mem_nil
theorem zca:type_of%@Nat.mod_eq_of_lt:=@Nat.mod_eq_of_lt
theorem zcb:type_of%@List.length_drop:=@List.length_drop
theorem zcc:type_of%@List.getElem_set:=@List.getElem_set
theorem zcd:type_of%@List.drop_eq_nil_of_le:=@List.drop_eq_nil_of_le
theorem zce:type_of%@Nat.min_eq_left:=@Nat.min_eq_left
theorem zcf:type_of%@Eq.trans:=@Eq.trans
theorem zcg:type_of%@List.headD_cons:=@List.headD_cons
theorem zch:type_of%@List.sum_cons:=@List.sum_cons
theorem zci:type_of%@World.cell?_alloc_new:=@World.cell?_alloc_new
theorem zcj:type_of%@List.getElem?_toArray:=@List.getElem?_toArray
theorem zck:type_of%@List.take_append_drop:=@List.take_append_drop
theorem zcl:type_of%@fenced_calm:=@fenced_calm
theorem zcm:type_of%@List.mem_range:=@List.mem_range
theorem zcn:type_of%@List.set_set:=@List.set_set
theorem zco:type_of%@Nat.not_lt_zero:=@Nat.not_lt_zero
theorem zcp:type_of%@List.filter_nil:=@List.filter_nil
theorem zcq:type_of%@getElem!_pos:=@getElem!_pos
theorem zcr:type_of%@bne_iff_ne:=@bne_iff_ne
theorem Ω{p q:Prop}(h:p)(k:p->q:=by intro h;simpa using h):q:=k h
theorem Δ{p:Prop}(k:p:=by omega):p:=k
theorem Φ{p:Prop}(k:p:=by kernel_rfl):p:=k
theorem Ψ{p:Prop}(k:p:=by simp):p:=k
theorem Θ{p:Prop}(k:p:=by decide):p:=k
theorem Ξ{p:Prop}(k:p:=by simp;omega):p:=k
theorem Γ{p:Prop}(k:p:=by cases q):p:=k
theorem Ωb{p:Prop}(k:p:=by simp[Op.operands]):p:=k
theorem Ωc{p:Prop}(k:p:=by constructor <;> simp):p:=k
theorem Ωe{p:Prop}(k:p:=by rw[<-hρ x (by simp[Op.operands])];exact hx):p:=k
theorem Ωg{p:Prop}(k:p:=by simp only;omega):p:=k
theorem Ωi{p:Prop}(k:p:=by rw[ho];simp):p:=k
theorem Ωj{p:Prop}(k:p:=by simp at hc):p:=k
theorem Ωm{p:Prop}(k:p:=by rfl):p:=k
theorem Ωn{p:Prop}(k:p:=by simp[Op.operands,Call.operands]):p:=k
theorem Ωr{p:Prop}(k:p:=by rw[<-hρ y (by simp[Op.operands])];exact hy):p:=k
theorem Ωs{p:Prop}(k:p:=by simp only[zJ];omega):p:=k
theorem Ωu{p:Prop}(k:p:=by simp only[pi,zI];omega):p:=k
theorem Ωv{p:Prop}(k:p:=by rw[<-hρ x (by simp[Op.operands,Call.operands])];exact hx):p:=k
theorem Ωw{p:Prop}(k:p:=by simp only[zl,zT];omega):p:=k
theorem Ωx{p:Prop}(k:p:=by rw[F0];exact hi):p:=k
theorem Ωy{p:Prop}(k:p:=by dsimp only;omega):p:=k
theorem Ωz{p:Prop}(k:p:=by rw[F0];omega):p:=k
theorem ΩA{p:Prop}(k:p:=by simp[hn]):p:=k
theorem ΩC{p:Prop}(k:p:=by rw[L8];exact hBc j u hj):p:=k
theorem ΩD{p:Prop}(k:p:=by simp only[zT];omega):p:=k
theorem ΩE{p:Prop}(k:p:=by simp only[zl];omega):p:=k
theorem ΩH{p:Prop}(k:p:=by rw[<-hargs.1];exact q):p:=k
theorem ΩI{p:Prop}(k:p:=by simp only[zD,zJ];omega):p:=k
theorem ΩJ{p:Prop}(k:p:=by have:=L5 hR hh;omega):p:=k
theorem ΩK{p:Prop}(k:p:=by rw[dC a3];exact hw):p:=k
theorem ΩL{p:Prop}(k:p:=by have:=hR.len;omega):p:=k
theorem ΩM{p:Prop}(k:p:=by simp only[zO];omega):p:=k
theorem ΩN{p:Prop}(k:p:=by rw[<-cH];exact hk):p:=k
theorem ΩO{p:Prop}(k:p:=by rw[e];exact h1):p:=k
theorem ΩP{p:Prop}(k:p:=by rw[<-hρ y (by simp[Op.operands,Call.operands])];exact hy):p:=k
theorem ΩU{p:Prop}(k:p:=by rw[e];exact s7 _ _ _):p:=k
theorem ΩV{p:Prop}(k:p:=by split <;> omega):p:=k
theorem ΩW{p:Prop}(k:p:=by have:=hi (j+1);simpa[n8,zbf 1 j] using this):p:=k
theorem Ω5{p:Prop}(k:p:=by simp[Go.Utf8.runeError]):p:=k
theorem Ω6{p:Prop}(k:p:=by simp only[zcg];omega):p:=k
theorem Ω7{p:Prop}(k:p:=by have:=fI hR;omega):p:=k
theorem Ω8{p:Prop}(k:p:=by rw[r6];simp;omega):p:=k
theorem Ω9{p:Prop}(k:p:=by rw[k3];exact hrz):p:=k
theorem Δa{p:Prop}(k:p:=by rw[h2];exact hy):p:=k
theorem Δb{p:Prop}(k:p:=by rw[hx];exact hk):p:=k
theorem Δc{p:Prop}(k:p:=by simp only[Op.operands,List.mem_toArray,zP];exact (by simp;exact⟨p.1,Ω hp⟩)):p:=k
theorem Δd{p:Prop}(k:p:=by rw[<-hρ x (by simp[Op.operands,Call.operands])];exact hf):p:=k
theorem Δe{p:Prop}(k:p:=by simp[Op.operands,Call.operands];right;simpa using hy):p:=k
theorem Δf{p:Prop}(k:p:=by rw[<-hρ o (by simp[Op.operands])];exact hq):p:=k
theorem Δg{p:Prop}(k:p:=by unfold aq;split <;> (try split) <;> omega):p:=k
theorem Δh{p:Prop}(k:p:=by obtain⟨a,_,rfl⟩:=zP.1 he;exact hel a):p:=k
theorem Δi{p:Prop}(k:p:=by simp[PV.iD] at hs;exact hs c (zh hc)):p:=k
theorem Δt{p:Prop}(k:p:=by rw[H9,H9];simp only[zl,zT];omega):p:=k
theorem Δu{p:Prop}(k:p:=by rw[World.putObj_heap_other e]):p:=k
theorem Δv{p:Prop}(k:p:=by simpa[PV.cells] using hz.symm):p:=k
theorem Δw{p:Prop}(k:p:=by rw[hop,zc rfl,hmz];exact q2):p:=k
theorem Δx{p:Prop}(k:p:=by simp;exact⟨p.1,Ω hp⟩):p:=k
theorem Δy{p:Prop}(k:p:=by subst e;simp[Op.operands]):p:=k
theorem Δz{p:Prop}(k:p:=by rw[<-cH];simpa using hk):p:=k
theorem ΔA{p:Prop}(k:p:=by rw[CZ hs hok];exact hc):p:=k
end Go
