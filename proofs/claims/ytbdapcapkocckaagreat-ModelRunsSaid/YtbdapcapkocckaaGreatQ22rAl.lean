/-
  Short names of theorems.
-/
import Derived.Below
import Derived.Carry
import Derived.ChangeMaps5
import Derived.ChangeOld
import Derived.Deep.Fields
import Derived.Deep.Slices
import Derived.IntWalk
import Derived.KernelRfl
import Derived.Laws.Append
import Derived.Laws.AppendOwn
import Derived.Laws.IdiomCopy
import Derived.Laws.MakeOwn
import Derived.Laws.StructEq
import Derived.Lib.AppendZeros
import Derived.Lib.BitFns
import Derived.Lib.ItoaNum
import Derived.Lib.LaidTab
import Derived.Lib.RowBridge
import Derived.MapKept
import Derived.OrdersIn
import Derived.RangeFuncIn
import Derived.RangeFuncLeaves
import Derived.RangeFuncOwn
import Derived.RangeFuncRecord
import Derived.Shelf.SlSortCmp.Kit1
import Derived.Shelf.SlSortCmp.Whole1
import Derived.Sort.AssemblyPlain
import Derived.TacticsIn
import Derived.WideShapes
import GoSem.Claims
namespace Go
set_option linter.unusedVariables false
theorem za:type_of%@if_neg:=@if_neg
theorem zb:type_of%@if_pos:=@if_pos
theorem zc:type_of%@List.getElem?_eq_getElem:=@List.getElem?_eq_getElem
theorem zd:type_of%@List.getD_eq_getElem?_getD:=@List.getD_eq_getElem?_getD
theorem zf:type_of%@List.length_map:=@List.length_map
theorem zg:type_of%@List.all_eq_true:=@List.all_eq_true
theorem zh:type_of%@List.mem_cons_self:=@List.mem_cons_self
theorem zi:type_of%@List.take_succ_eq_append_getElem:=@List.take_succ_eq_append_getElem
theorem zj:type_of%@List.mem_filter:=@List.mem_filter
theorem zk:type_of%@List.mem_of_getElem?:=@List.mem_of_getElem?
theorem zl:type_of%@List.getElem_mem:=@List.getElem_mem
theorem zm:type_of%@Result.andThen_ok:=@Result.andThen_ok
theorem zn:type_of%@List.mem_map:=@List.mem_map
theorem zo:type_of%@List.length_filter_le:=@List.length_filter_le
theorem zp:type_of%@Nat.mul_le_mul_right:=@Nat.mul_le_mul_right
theorem zq:type_of%@Array.getElem?_eq_getElem:=@Array.getElem?_eq_getElem
theorem zt:type_of%@List.map_congr_left:=@List.map_congr_left
theorem zu:type_of%@List.mem_singleton:=@List.mem_singleton
theorem zw:type_of%@List.mem_cons_of_mem:=@List.mem_cons_of_mem
theorem zx:type_of%@List.getElem_map:=@List.getElem_map
theorem zy:type_of%@Sem.run_bind:=@Sem.run_bind
theorem zA:type_of%@List.length_append:=@List.length_append
theorem zB:type_of%@Bool.and_eq_true:=@Bool.and_eq_true
theorem zC:type_of%@Nat.le_refl:=@Nat.le_refl
theorem zD:type_of%@List.getElem?_map:=@List.getElem?_map
theorem zE:type_of%@decide_eq_true_iff:=@decide_eq_true_iff
theorem zF:type_of%@List.length_cons:=@List.length_cons
theorem zG:type_of%@decide_eq_true:=@decide_eq_true
theorem zH:type_of%@List.mem_append:=@List.mem_append
theorem zI:type_of%@Nat.lt_or_ge:=@Nat.lt_or_ge
theorem zJ:type_of%@List.mem_cons:=@List.mem_cons
theorem zK:type_of%@Option.some.inj:=@Option.some.inj
theorem zL:type_of%@List.take_length:=@List.take_length
theorem zM:type_of%@Bool.false_eq_true:=@Bool.false_eq_true
theorem zN:type_of%@Int.toNat_natCast:=@Int.toNat_natCast
theorem zO:type_of%@Array.getD_eq_getD_getElem?:=@Array.getD_eq_getD_getElem?
theorem zP:type_of%@Nat.le_of_ble_eq_true:=@Nat.le_of_ble_eq_true
theorem zQ:type_of%@Nat.le_trans:=@Nat.le_trans
theorem zR:type_of%@run_underlying:=@run_underlying
theorem zT:type_of%@List.map_cons:=@List.map_cons
theorem zU:type_of%@Nat.zero_le:=@Nat.zero_le
theorem zV:type_of%@List.map_append:=@List.map_append
theorem zW:type_of%@List.getElem?_append_right:=@List.getElem?_append_right
theorem zX:type_of%@List.getElem?_append_left:=@List.getElem?_append_left
theorem zY:type_of%@congrArg:=@congrArg
theorem zZ:type_of%@beq_self_eq_true:=@beq_self_eq_true
theorem wd:type_of%@Option.some.injEq:=@Option.some.injEq
theorem we:type_of%@decide_eq_false:=@decide_eq_false
theorem wn:type_of%@List.length_take:=@List.length_take
theorem wp:type_of%@Array.getElem?_eq_some_iff:=@Array.getElem?_eq_some_iff
theorem wt:type_of%@Nat.add_mul:=@Nat.add_mul
theorem ww:type_of%@List.foldl_cons:=@List.foldl_cons
theorem ul:type_of%@List.eq_nil_of_length_eq_zero:=@List.eq_nil_of_length_eq_zero
theorem un:type_of%@Option.getD_some:=@Option.getD_some
theorem ut:type_of%@if_true:=@if_true
theorem u8:type_of%@List.getElem_of_mem:=@List.getElem_of_mem
theorem t6:type_of%@List.mem_append_right:=@List.mem_append_right
theorem t7:type_of%@List.pairwise_iff_getElem:=@List.pairwise_iff_getElem
theorem t8:type_of%@Nat.add_assoc:=@Nat.add_assoc
theorem rg:type_of%@Option.map_some:=@Option.map_some
theorem rx:type_of%@List.mem_append_left:=@List.mem_append_left
theorem r4:type_of%@Int.ofNat_lt:=@Int.ofNat_lt
theorem qr:type_of%@Array.getElem?_append_left:=@Array.getElem?_append_left
theorem q9:type_of%@decide_true:=@decide_true
theorem pi:type_of%@List.foldl_append:=@List.foldl_append
theorem pm:type_of%@List.filter_cons:=@List.filter_cons
theorem pu:type_of%@if_false:=@if_false
theorem or:type_of%@List.pairwise_cons:=@List.pairwise_cons
theorem me:type_of%@List.nodup_cons:=@List.nodup_cons
theorem mt:type_of%@List.filter_cons_of_neg:=@List.filter_cons_of_neg
theorem zaa:type_of%@List.filter_cons_of_pos:=@List.filter_cons_of_pos
theorem zab:type_of%@List.getElem?_eq_none:=@List.getElem?_eq_none
theorem zac:type_of%@List.append_assoc:=@List.append_assoc
theorem zad:type_of%@List.mem_of_mem_take:=@List.mem_of_mem_take
theorem zae:type_of%@List.mem_flatMap:=@List.mem_flatMap
theorem zaf:type_of%@List.filter_congr:=@List.filter_congr
theorem zag:type_of%@List.length_nil:=@List.length_nil
theorem zah:type_of%@Nat.eq_zero_or_pos:=@Nat.eq_zero_or_pos
theorem zai:type_of%@List.filter_append:=@List.filter_append
theorem zaj:type_of%@Array.getElem?_append_right:=@Array.getElem?_append_right
theorem zak:type_of%@beq_iff_eq:=@beq_iff_eq
theorem zal:type_of%@Option.isSome_iff_exists:=@Option.isSome_iff_exists
theorem zam:type_of%@World.cell?_setCells_out:=@World.cell?_setCells_out
theorem zan:type_of%@Int.le_refl:=@Int.le_refl
theorem zao:type_of%@List.getElem?_drop:=@List.getElem?_drop
theorem zap:type_of%@Classical.byContradiction:=@Classical.byContradiction
theorem zaq:type_of%@List.length_set:=@List.length_set
theorem zar:type_of%@Nat.zero_add:=@Nat.zero_add
theorem zas:type_of%@List.getElem?_take_of_lt:=@List.getElem?_take_of_lt
theorem zat:type_of%@List.filter_filter:=@List.filter_filter
theorem zau:type_of%@Sem.run_pure:=@Sem.run_pure
theorem zav:type_of%@List.filter_eq_self:=@List.filter_eq_self
theorem zaw:type_of%@World.cell?_setCells_in:=@World.cell?_setCells_in
theorem zax:type_of%@Bool.true_and:=@Bool.true_and
theorem zay:type_of%@List.mem_or_eq_of_mem_set:=@List.mem_or_eq_of_mem_set
theorem zaz:type_of%@Ne.symm:=@Ne.symm
theorem za0:type_of%@Array.getElem?_setIfInBounds:=@Array.getElem?_setIfInBounds
theorem za1:type_of%@List.mem_range:=@List.mem_range
theorem za2:type_of%@Bool.not_true:=@Bool.not_true
theorem za3:type_of%@Bool.eq_false_or_eq_true:=@Bool.eq_false_or_eq_true
theorem za4:type_of%@Nat.eq_of_beq_eq_true:=@Nat.eq_of_beq_eq_true
theorem za5:type_of%@List.map_map:=@List.map_map
theorem za6:type_of%@List.getElem?_cons_zero:=@List.getElem?_cons_zero
theorem za7:type_of%@List.mem_of_mem_drop:=@List.mem_of_mem_drop
theorem za8:type_of%@List.pairwise_append:=@List.pairwise_append
theorem za9:type_of%@List.append_nil:=@List.append_nil
theorem zba:type_of%@List.eq_nil_iff_forall_not_mem:=@List.eq_nil_iff_forall_not_mem
theorem zbb:type_of%@List.find?_eq_some_iff_getElem:=@List.find?_eq_some_iff_getElem
theorem zbc:type_of%@Nat.one_mul:=@Nat.one_mul
theorem zbd:type_of%@of_decide_eq_true:=@of_decide_eq_true
theorem zbe:type_of%@List.Pairwise.imp_of_mem:=@List.Pairwise.imp_of_mem
theorem zbf:type_of%@Nat.add_zero:=@Nat.add_zero
theorem zbg:type_of%@List.countP_eq_length_filter:=@List.countP_eq_length_filter
theorem zbh:type_of%@Bool.eq_iff_iff:=@Bool.eq_iff_iff
theorem zbi:type_of%@List.mem_replicate:=@List.mem_replicate
theorem zbj:type_of%@Bool.false_or:=@Bool.false_or
theorem zbk:type_of%@World.frozen?_setCells:=@World.frozen?_setCells
theorem zbl:type_of%@Array.all_eq_true_iff_forall_mem:=@Array.all_eq_true_iff_forall_mem
theorem zbm:type_of%@bne_self_eq_false:=@bne_self_eq_false
theorem zbn:type_of%@List.pairwise_map:=@List.pairwise_map
theorem zbo:type_of%@List.getElem?_eq_some_iff:=@List.getElem?_eq_some_iff
theorem zbp:type_of%@List.drop_eq_getElem_cons:=@List.drop_eq_getElem_cons
theorem zbq:type_of%@List.take_append_drop:=@List.take_append_drop
theorem zbr:type_of%@Array.getElem?_replicate:=@Array.getElem?_replicate
theorem zbs:type_of%@List.sum_cons:=@List.sum_cons
theorem zbt:type_of%@Array.size_append:=@Array.size_append
theorem zbu:type_of%@List.getElem?_cons_succ:=@List.getElem?_cons_succ
theorem zbv:type_of%@List.flatMap_cons:=@List.flatMap_cons
theorem zbw:type_of%@List.length_range:=@List.length_range
theorem zbx:type_of%@Bool.or_eq_true:=@Bool.or_eq_true
theorem zby:type_of%@List.countP_pos_iff:=@List.countP_pos_iff
theorem zbz:type_of%@List.flatten_append:=@List.flatten_append
theorem zb0:type_of%@Nat.lt_irrefl:=@Nat.lt_irrefl
theorem zb1:type_of%@wpIn_mono:=@wpIn_mono
theorem zb2:type_of%@List.ext_getElem:=@List.ext_getElem
theorem zb3:type_of%@Nat.lt_of_lt_of_le:=@Nat.lt_of_lt_of_le
theorem zb4:type_of%@List.nodup_nil:=@List.nodup_nil
theorem zb5:type_of%@List.find?_eq_none:=@List.find?_eq_none
theorem zb6:type_of%@Classical.choose_spec:=@Classical.choose_spec
theorem zb7:type_of%@List.getElem?_of_mem:=@List.getElem?_of_mem
theorem zb8:type_of%@Nat.add_comm:=@Nat.add_comm
theorem zb9:type_of%@List.Pairwise.filter:=@List.Pairwise.filter
theorem zca:type_of%@List.map_set:=@List.map_set
theorem zcb:type_of%@Bool.or_self:=@Bool.or_self
theorem zcc:type_of%@Bool.eq_false_iff:=@Bool.eq_false_iff
theorem zcd:type_of%@Bool.not_eq_true':=@Bool.not_eq_true'
theorem zce:type_of%@List.findIdx_getElem:=@List.findIdx_getElem
theorem zcf:type_of%@List.mem_map_of_mem:=@List.mem_map_of_mem
theorem zcg:type_of%@decide_eq_decide:=@decide_eq_decide
theorem zch:type_of%@Array.getElem?_map:=@Array.getElem?_map
theorem zci:type_of%@Array.getElem?_eq_none:=@Array.getElem?_eq_none
theorem zcj:type_of%@List.map_replicate:=@List.map_replicate
theorem zck:type_of%@List.findIdx_lt_length:=@List.findIdx_lt_length
theorem zcl:type_of%@Nat.min_eq_left:=@Nat.min_eq_left
theorem zcm:type_of%@List.nil_append:=@List.nil_append
theorem zcn:type_of%@List.filter_nil:=@List.filter_nil
theorem zco:type_of%@List.filter_map:=@List.filter_map
theorem zcp:type_of%@Bool.and_self:=@Bool.and_self
theorem zcq:type_of%@List.take_sublist:=@List.take_sublist
theorem zcr:type_of%@fenced_calm:=@fenced_calm
theorem zcs:type_of%@bne_iff_ne:=@bne_iff_ne
theorem zct:type_of%@List.not_mem_nil:=@List.not_mem_nil
theorem zcu:type_of%@Nat.zero_mul:=@Nat.zero_mul
theorem zcv:type_of%@Option.bind_some:=@Option.bind_some
theorem zcw:type_of%@List.getElem_set:=@List.getElem_set
theorem zcx:type_of%@Bool.and_comm:=@Bool.and_comm
theorem zcy:type_of%@List.count_cons:=@List.count_cons
theorem zcz:type_of%@List.find?_cons:=@List.find?_cons
theorem zc0:type_of%@List.map_nil:=@List.map_nil
theorem zc1:type_of%@decide_false:=@decide_false
theorem Ω{p q:Prop}(h:p)(k:p->q:=by intro h;simpa using h):q:=k h
theorem Δ{p:Prop}(k:p:=by omega):p:=k
theorem Φ{p:Prop}(k:p:=by kernel_rfl):p:=k
theorem Ψ{p:Prop}(k:p:=by simp):p:=k
theorem Θ{p:Prop}(k:p:=by decide):p:=k
theorem Ξ{p:Prop}(k:p:=by simp;omega):p:=k
theorem Γ{p:Prop}(k:p:=by cases q):p:=k
theorem Ωa{p:Prop}(k:p:=by simp[Op.operands]):p:=k
theorem Ωd{p:Prop}(k:p:=by rw[<-hρ x (by simp[Op.operands])];exact hx):p:=k
theorem Ωg{p:Prop}(k:p:=by rw[ho];simp):p:=k
theorem Ωi{p:Prop}(k:p:=by simp[Op.operands,Call.operands]):p:=k
theorem Ωj{p:Prop}(k:p:=by simp at hc):p:=k
theorem Ωo{p:Prop}(k:p:=by simp[mO]):p:=k
theorem Ωp{p:Prop}(k:p:=by rw[<-hρ y (by simp[Op.operands])];exact hy):p:=k
theorem Ωs{p:Prop}(k:p:=by simp[mO];exact hk):p:=k
theorem Ωt{p:Prop}(k:p:=by rw[<-hρ x (by simp[Op.operands,Call.operands])];exact hx):p:=k
theorem Ωv{p:Prop}(k:p:=by have:=L5 hR hh;omega):p:=k
theorem Ωw{p:Prop}(k:p:=by rw[zf];omega):p:=k
theorem Ωx{p:Prop}(k:p:=by simp[c]):p:=k
theorem ΩB{p:Prop}(k:p:=by simp only[zF,zag];omega):p:=k
theorem ΩC{p:Prop}(k:p:=by rw[T2];exact hBc j u hj):p:=k
theorem ΩD{p:Prop}(k:p:=by rw[<-hargs.1];exact q):p:=k
theorem ΩE{p:Prop}(k:p:=by rw[eY a3];exact hw):p:=k
theorem ΩF{p:Prop}(k:p:=by have:=B.nl;omega):p:=k
theorem ΩG{p:Prop}(k:p:=by rw[e];exact h1):p:=k
theorem ΩH{p:Prop}(k:p:=by simp only;omega):p:=k
theorem ΩI{p:Prop}(k:p:=by assumption):p:=k
theorem ΩJ{p:Prop}(k:p:=by rw[<-hρ y (by simp[Op.operands,Call.operands])];exact hy):p:=k
theorem ΩL{p:Prop}(k:p:=by rw[e];exact p7 _ _ _):p:=k
theorem ΩM{p:Prop}(k:p:=by simpa using hb hc):p:=k
theorem ΩN{p:Prop}(k:p:=by have:=hi (j+1);simpa[t8,zb8 1 j] using this):p:=k
theorem ΩU{p:Prop}(k:p:=by show m.Tasks.length<=1000;omega):p:=k
theorem ΩV{p:Prop}(k:p:=by rw[k3];exact hrz):p:=k
theorem ΩW{p:Prop}(k:p:=by rw[h2];exact hy):p:=k
theorem ΩX{p:Prop}(k:p:=by rw[hx];exact hk):p:=k
theorem ΩY{p:Prop}(k:p:=by rw[mU];exact hi):p:=k
theorem ΩZ{p:Prop}(k:p:=by split <;> omega):p:=k
theorem Ω0{p:Prop}(k:p:=by simp only[Op.operands,List.mem_toArray,zn];exact (by simp;exact⟨p.1,Ω hp⟩)):p:=k
theorem Ω1{p:Prop}(k:p:=by rw[<-hρ x (by simp[Op.operands,Call.operands])];exact hf):p:=k
theorem Ω2{p:Prop}(k:p:=by simp[Op.operands,Call.operands];right;simpa using hy):p:=k
theorem Ω3{p:Prop}(k:p:=by rw[<-hρ o (by simp[Op.operands])];exact hq):p:=k
theorem Ω4{p:Prop}(k:p:=by unfold aK;split <;> (try split) <;> omega):p:=k
theorem Ω5{p:Prop}(k:p:=by obtain⟨a,_,rfl⟩:=zn.1 he;exact hel a):p:=k
theorem Ω6{p:Prop}(k:p:=by simp[PV.lM] at hs;exact hs c (zk hc)):p:=k
theorem Δg{p:Prop}(k:p:=by rw[World.putObj_heap_other e]):p:=k
theorem Δh{p:Prop}(k:p:=by rw[hop,zb rfl,hmz];exact q2):p:=k
theorem Δi{p:Prop}(k:p:=by simp;exact⟨p.1,Ω hp⟩):p:=k
theorem Δj{p:Prop}(k:p:=by rw[e,q.gd.f h _ p.d];rfl):p:=k
theorem Δk{p:Prop}(k:p:=by subst e;simp[Op.operands]):p:=k
theorem Δl{p:Prop}(k:p:=by rw[Dh hs hok];exact hc):p:=k
end Go
