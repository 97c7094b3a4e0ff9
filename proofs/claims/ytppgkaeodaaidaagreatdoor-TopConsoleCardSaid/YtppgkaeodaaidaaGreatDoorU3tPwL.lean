/-
 Several texts of one kind, one behind the other.
-/
import Derived.Test.YtppgkaeodaaidaaGreatDoorU3tPwB
import Derived.Deep.Slices
import Derived.Deep.Fields
import Derived.ChangeOld
import Derived.ChangeMaps5
import Derived.WideShapes
set_option linter.unusedVariables false
set_option linter.unusedSimpArgs false
set_option linter.unusedSectionVars false
namespace Go.Pw
open Go.RowKit Go.ChangeShapes Go.WideShapes Go.Deep
abbrev all(w:World):Nat→Nat→Prop:=λb _=>b<w.heap.size
theorem b5t{P:Program}{f:FuncId}{vs:Array Value}{ds:List PV}{w:World}(h:E5 P f ds (.bool true))(hr:RdL w (all w) vs ds)(hG:GT P w) :
  Calls P f vs w λe w'=>e = .returned (.bool true)∧Below w.heap.size w w':=
 (h w _ vs (λ_ _ q=>q) hG hr).mono λe w' ⟨v,he,hb,hv⟩=>by
  cases hv;exact⟨he,hb.toBelow⟩
def a6T(w:World)(imm:Nat→Nat→Prop):List Value→List PV→Prop
 | [],[]=>True
 | v::vs,d::ds=>Rd0 w imm v d∧a6T w imm vs ds
 | _,_=>False
theorem a6T.spec{w:World}{imm:Nat→Nat→Prop}:∀ {vs:List Value} {ds:List PV},a6T w imm vs ds→vs.length=ds.length∧∀(i:Nat) v d,vs[i]? = some v→ds[i]? = some d→Rd0 w imm v d
 | [],[],_=>⟨rfl,λi v d h=>by simp at h⟩
 | v::vs,d::ds,h=>by
  obtain⟨k1,k2⟩:=a6T.spec h.2;refine⟨by simp[k1],λi u e hu he=>?_⟩;cases i with
  | zero=>
   simp only[List.getElem?_cons_zero,Option.some.injEq] at hu he;subst hu;subst he;exact h.1
  | succ i=>exact k2 i u e (by simpa using hu) (by simpa using he)
 | [],_::_,h=>h.elim
 | _::_,[],h=>h.elim
theorem rdL_of{w:World}{imm:Nat→Nat→Prop}{vs:List Value}{ds:List PV}(h:a6T w imm vs ds):RdL w imm vs.toArray ds:=by
 obtain⟨k1,k2⟩:=h.spec;exact⟨by simpa using k1,λi v d hv hd=>k2 i v d (by simpa using hv) hd⟩
theorem a6T.append{w:World}{imm:Nat→Nat→Prop}:∀ {vs us:List Value} {ds es:List PV},a6T w imm vs ds→a6T w imm us es→a6T w imm (vs++us) (ds++es)
 | [],_,[],_,_,k=>k
 | _::_,_,_::_,_,h,k=>⟨h.1,h.2.append k⟩
 | [],_,_::_,_,h,_=>h.elim
 | _::_,_,[],_,h,_=>h.elim
structure Rdr (P:Program) (t:TypeId) {α:Type} (E:α→PV) (G:α→Prop):Prop where
 rd:∀ {H:Type} (enc:TypeId × Value→H) (w:World) (n:Nat) (cs:List Value) (y:DataW H × List MemPlace),DataW.trod enc P w 0 (λ_=>true) true n t cs=some y→∃a:α,a6T w (all w) cs (E a).cells∧G a
 el:∀a,(E a).el=true
 z:∀a,(E a).cells.length=P.cellsOf t
section
variable{P:Program}{t:TypeId}
theorem b4u{k:IntKind}(ht:P.underlying t=some (.int k))(hz:P.cellsOf t=1):Rdr P t (PV.int k) (λn=>(Lit.int k n).wf=true):=⟨λenc w n cs y h=>by
 obtain⟨x,rfl,_,hw⟩:=DataW.trod_int ht h;exact⟨x,⟨.int _ _,trivial⟩,hw⟩,λ_=>rfl,λ_=>hz.symm⟩
structure b7x (P:Program) (off:Nat) (fs:List Field) {α:Type} (Pc:α→List PV) (G:α→Prop):Prop where
 rd:∀ {H:Type} (enc:TypeId × Value→H) (w:World) (n:Nat) (cs:List Value) (xs:List (DataW H × List MemPlace)),(fs.mapM λf=>DataW.trod enc P w 0 (λ_=>true) true n f.type ((cs.drop f.offset).take (P.cellsOf f.type)))=some xs →
  off≤cs.length→cs.length=off+(fs.map λf=>P.cellsOf f.type).sum→∃a:α,a6T w (all w) (cs.drop off) (Pc a)∧G a
 sc:∀a,(Pc a).all PV.sc=true
 z:∀a,(Pc a).length=(fs.map λf=>P.cellsOf f.type).sum
theorem Rdr.b6V{α:Type}{E:α→PV}{G:α→Prop}(h:Rdr P t E G){H:Type}{enc:TypeId × Value→H}{w:World}{v:Value}{d:DataW H}{ps:List MemPlace}(hd:DataW.Trod enc P w 0 (λ_=>true) true t v d ps)
  (hs:∀a,(E a).sc=true)(h1:one v=true):∃a,Rd0 w (all w) v (E a)∧G a:=by
 obtain⟨n,hn⟩:=hd;obtain⟨a,k1,k2⟩:=h.rd enc w n _ _ hn;refine⟨a,?_,k2⟩;rw[a4Q h1,PV.X4 (hs a)] at k1;exact k1.1
section
variable{α:Type}{E:α→PV}{G:α→Prop}{H:Type}{enc:TypeId × Value→H}{w:World}{v:Value}{d:DataW H}{ps:List MemPlace}{r:Reach}{b0:Nat}
theorem b6O{k:IntKind}(ht:P.underlying t=some (.int k))(hz:P.cellsOf t=1)(hv:Value.okWide P w r b0 t v)(hd:DataW.Trod enc P w 0 (λ_=>true) true t v d ps):∃a:Int,Rd0 w (all w) v (.int k a)∧(Lit.int k a).wf=true:=by
 obtain⟨n,rfl⟩:=okWide_int ht hv;exact (b4u ht hz).b6V hd (λ_=>rfl) rfl
end
end
end Go.Pw
namespace Go.Pw
theorem wf_u8{n:Int}(h:(Lit.int .u8 n).wf=true):0≤n∧n<256:=by
 have e1:IntKind.u8.min=0:=by decide
 have e2:IntKind.u8.max=255:=by decide
 simp[Lit.wf,e1,e2] at h;omega
end Go.Pw
