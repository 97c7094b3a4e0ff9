/-
 Several texts of one kind, one behind the other.
-/
import Derived.Test.YtppgkaeodaaidaaGreatDoorU3xPwB
import Derived.Deep.Slices
import Derived.Deep.Fields
import Derived.ChangeOld
import Derived.ChangeMaps5
import Derived.WideShapes
set_option linter.unusedVariables false
set_option linter.unusedSimpArgs false
set_option linter.unusedSectionVars false
namespace Go.Pw
open Go.RowKit Go.ChangeShapes Go.WideShapes Go.Deep
abbrev all(w:World):Nat→Nat→Prop:=λb _=>b<w.heap.size
theorem b5V{P:Program}{f:FuncId}{vs:Array Value}{ds:List PV}{w:World}(h:E6 P f ds (.bool true))(hr:RdL w (all w) vs ds)(hG:GT P w) :
  Calls P f vs w λe w'=>e = .returned (.bool true)∧Below w.heap.size w w':=
 (h w _ vs (λ_ _ q=>q) hG hr).mono λe w' ⟨v,he,hb,hv⟩=>by
  cases hv;exact⟨he,hb.toBelow⟩
def a7a(w:World)(imm:Nat→Nat→Prop):List Value→List PV→Prop
 | [],[]=>True
 | v::vs,d::ds=>Rd0 w imm v d∧a7a w imm vs ds
 | _,_=>False
theorem a7a.spec{w:World}{imm:Nat→Nat→Prop}:∀ {vs:List Value} {ds:List PV},a7a w imm vs ds→vs.length=ds.length∧∀(i:Nat) v d,vs[i]? = some v→ds[i]? = some d→Rd0 w imm v d
 | [],[],_=>⟨rfl,λi v d h=>by simp at h⟩
 | v::vs,d::ds,h=>by
  obtain⟨k1,k2⟩:=a7a.spec h.2;refine⟨by simp[k1],λi u e hu he=>?_⟩;cases i with
  | zero=>
   simp only[List.getElem?_cons_zero,Option.some.injEq] at hu he;subst hu;subst he;exact h.1
  | succ i=>exact k2 i u e (by simpa using hu) (by simpa using he)
 | [],_::_,h=>h.elim
 | _::_,[],h=>h.elim
theorem rdL_of{w:World}{imm:Nat→Nat→Prop}{vs:List Value}{ds:List PV}(h:a7a w imm vs ds):RdL w imm vs.toArray ds:=by
 obtain⟨k1,k2⟩:=h.spec;exact⟨by simpa using k1,λi v d hv hd=>k2 i v d (by simpa using hv) hd⟩
theorem a7a.append{w:World}{imm:Nat→Nat→Prop}:∀ {vs us:List Value} {ds es:List PV},a7a w imm vs ds→a7a w imm us es→a7a w imm (vs++us) (ds++es)
 | [],_,[],_,_,k=>k
 | _::_,_,_::_,_,h,k=>⟨h.1,h.2.append k⟩
 | [],_,_::_,_,h,_=>h.elim
 | _::_,_,[],_,h,_=>h.elim
structure Rdr (P:Program) (t:TypeId) {α:Type} (E:α→PV) (G:α→Prop):Prop where
 rd:∀ {H:Type} (enc:TypeId × Value→H) (w:World) (n:Nat) (cs:List Value) (y:DataW H × List MemPlace),DataW.trod enc P w 0 (λ_=>true) true n t cs=some y→∃a:α,a7a w (all w) cs (E a).cells∧G a
 el:∀a,(E a).el=true
 z:∀a,(E a).cells.length=P.cellsOf t
section
variable{P:Program}{t:TypeId}
theorem b1P{k:IntKind}(ht:P.underlying t=some (.int k))(hz:P.cellsOf t=1):Rdr P t (PV.int k) (λn=>(Lit.int k n).wf=true):=⟨λenc w n cs y h=>by
 obtain⟨x,rfl,_,hw⟩:=DataW.trod_int ht h;exact⟨x,⟨.int _ _,trivial⟩,hw⟩,λ_=>rfl,λ_=>hz.symm⟩
theorem b4W(ht:P.underlying t=some .string)(hz:P.cellsOf t=1):Rdr P t PV.str (λs=>s.size≤maxLen):=⟨λenc w n cs y h=>by
 obtain⟨x,rfl,_,hw⟩:=DataW.trod_string ht h;exact⟨x,⟨.str _,trivial⟩,hw⟩,λ_=>rfl,λ_=>hz.symm⟩
structure b3R (P:Program) (off:Nat) (fs:List Field) {α:Type} (Pc:α→List PV) (G:α→Prop):Prop where
 rd:∀ {H:Type} (enc:TypeId × Value→H) (w:World) (n:Nat) (cs:List Value) (xs:List (DataW H × List MemPlace)),(fs.mapM λf=>DataW.trod enc P w 0 (λ_=>true) true n f.type ((cs.drop f.offset).take (P.cellsOf f.type)))=some xs →
  off≤cs.length→cs.length=off+(fs.map λf=>P.cellsOf f.type).sum→∃a:α,a7a w (all w) (cs.drop off) (Pc a)∧G a
 sc:∀a,(Pc a).all PV.sc=true
 z:∀a,(Pc a).length=(fs.map λf=>P.cellsOf f.type).sum
theorem b3v{off:Nat}:b3R P off [] (λ(_:Unit)=>[]) (λ_=>True):=⟨λenc w n cs xs _ hl hn=>⟨(),by
 simp at hn;rw[List.drop_eq_nil_of_le (by omega)];exact trivial,trivial⟩,λ_=>rfl,λ_=>rfl⟩
theorem PV.a4W{d:PV}(h:d.el=true):d.cells.all PV.sc=true:=List.all_eq_true.2 λy hy=>PV.a2Z h y hy
theorem a8T{off:Nat}{f:Field}{fs:List Field}{α β:Type}{E:α→PV}{G:α→Prop}{Pc:β→List PV}{G':β→Prop}(ho:f.offset=off)(hE:Rdr P f.type E G)(hF:b3R P (off+P.cellsOf f.type) fs Pc G') :
  b3R P off (f::fs) (λ(x:α × β)=>(E x.1).cells++Pc x.2) (λx=>G x.1∧G' x.2):=by
 refine⟨λ{H} enc w n cs xs h hl hn=>?_,λa=>?_,λa=>?_⟩
 ·rw[List.mapM_cons] at h;simp only[Option.bind_eq_bind,Option.bind_eq_some_iff,Option.pure_def,Option.some.injEq] at h;obtain⟨x,hx,ys,hys,rfl⟩:=h;rw[List.map_cons,List.sum_cons] at hn;obtain⟨a,h1,h2⟩:=hE.rd enc w n _ _ hx;obtain⟨b,k1,k2⟩:=hF.rd enc w n cs ys hys (by omega) (by omega);refine⟨(a,b),?_,h2,k2⟩;have:cs.drop off=(cs.drop off).take (P.cellsOf f.type)++cs.drop (off+P.cellsOf f.type):=by
   rw[←List.drop_drop,List.take_append_drop]
  rw[this];rw[ho] at h1;exact h1.append k1
 ·simp only[List.all_append,Bool.and_eq_true];exact⟨PV.a4W (hE.el _),hF.sc _⟩
 ·simp only[List.length_append,hE.z,hF.z,List.map_cons,List.sum_cons]
theorem b05{fs:Array Field}{α β:Type}{Pc:β→List PV}{G:β→Prop}{Pv:α→PV}{G':α→Prop}(mk:β→α)(ht:P.underlying t=some (.struct fs))(hF:b3R P 0 fs.toList Pc G)(hz:P.cellsOf t=(fs.toList.map λf=>P.cellsOf f.type).sum)
  (he:∀b,Pv (mk b) = .agg (Pc b))(hs:∀a,∃b,mk b=a)(hG:∀b,G b→G' (mk b)):Rdr P t Pv G':=by
 refine⟨λ{H} enc w n cs y h=>?_,λa=>?_,λa=>?_⟩
 ·cases n with
  | zero=>simp[DataW.trod] at h
  | succ n=>
   simp only[DataW.trod,ht] at h;split at h
   ·rename_i hlen;rw[Option.map_eq_some_iff] at h;obtain⟨xs,hxs,_⟩:=h;obtain⟨b,h1,h2⟩:=hF.rd enc w n cs xs hxs (Nat.zero_le _) (by rw[hlen,hz];simp);rw[List.drop_zero] at h1;exact⟨mk b,by rw[he];exact h1,hG b h2⟩
   ·cases h
 ·obtain⟨b,rfl⟩:=hs a;rw[he];exact hF.sc b
 ·obtain⟨b,rfl⟩:=hs a;rw[he,hz];exact hF.z b
theorem Rdr.b7q{α:Type}{E:α→PV}{G:α→Prop}(h:Rdr P t E G){H:Type}{enc:TypeId × Value→H}{w:World}{v:Value}{d:DataW H}{ps:List MemPlace}(hd:DataW.Trod enc P w 0 (λ_=>true) true t v d ps)
  (hs:∀a,(E a).sc=true)(h1:one v=true):∃a,Rd0 w (all w) v (E a)∧G a:=by
 obtain⟨n,hn⟩:=hd;obtain⟨a,k1,k2⟩:=h.rd enc w n _ _ hn;refine⟨a,?_,k2⟩;rw[a4X h1,PV.X4 (hs a)] at k1;exact k1.1
theorem Rdr.argA{α:Type}{E:α→PV}{G:α→Prop}(h:Rdr P t E G){fs:Array Field}(ht:P.underlying t=some (.struct fs))(hE:∀a,E a = .agg (E a).cells){H:Type}{enc:TypeId × Value→H}{w:World}{v:Value}{d:DataW H}{ps:List MemPlace}{r:Reach}{b0:Nat}(hv:Value.okWide P w r b0 t v)
  (hd:DataW.Trod enc P w 0 (λ_=>true) true t v d ps):∃a,Rd0 w (all w) v (E a)∧G a:=by
 obtain⟨n,hn⟩:=hd;obtain⟨a,k1,k2⟩:=h.rd enc w n _ _ hn;refine⟨a,?_,k2⟩;obtain⟨cs,rfl,_⟩:=okWide_struct ht hv;have hcs:(Value.agg cs).cells.toList=cs.toList:=rfl;rw[hcs] at k1;obtain⟨k3,k4⟩:=k1.spec;rw[hE a];exact .agg cs _ (PV.a4W (h.el a)) (by simpa using k3) λi v c hv hc=>k4 i v c (by simpa using hv) hc
section
variable{α:Type}{E:α→PV}{G:α→Prop}{H:Type}{enc:TypeId × Value→H}{w:World}{v:Value}{d:DataW H}{ps:List MemPlace}{r:Reach}{b0:Nat}
theorem arg_str(ht:P.underlying t=some .string)(hz:P.cellsOf t=1)(hv:Value.okWide P w r b0 t v)(hd:DataW.Trod enc P w 0 (λ_=>true) true t v d ps):∃a:ByteArray,Rd0 w (all w) v (.str a)∧a.size≤maxLen:=by
 obtain⟨n,rfl⟩:=okWide_string ht hv;exact (b4W ht hz).b7q hd (λ_=>rfl) rfl
end
end
end Go.Pw
namespace Go.Pw
theorem wf_i64{n:Int}(h:(Lit.int .i64 n).wf=true) : -9223372036854775808≤n∧n≤9223372036854775807:=by
 have e1:IntKind.i64.min = -9223372036854775808:=by decide
 have e2:IntKind.i64.max=9223372036854775807:=by decide
 simp[Lit.wf,e1,e2] at h;omega
end Go.Pw
