/- A part. -/
import Derived.Test.YtppgkaeodaaidaaGreatDoorU3lPwB
set_option linter.unusedVariables false
set_option linter.unusedSimpArgs false
set_option linter.unusedSectionVars false
namespace Go.Pw
open Go.RowKit Go.ChangeShapes Go.WideShapes Go.Deep
abbrev all(w:World):Nat->Nat->Prop:=λb _=>b<w.heap.size
theorem a0j{P:Program}{f:FuncId}{vs:Array Value}{ds:List PV}{w:World}(h:S0 P f ds (.bool true))(hr:Ig w (all w) vs ds)(a:GT P w) :
  Calls P f vs w λe w'=>e = .returned (.bool true)/\Below w.heap.size w w':=
 (h w _ vs (λ_ _ q=>q) a hr).mono λe w' ⟨v,he,hb,hv⟩=>by
  cases hv;exact⟨he,hb.toBelow⟩
def Bd(w:World)(imm:Nat->Nat->Prop):List Value->List PV->Prop
 | [],[]=>True
 | v::vs,d::ds=>Rd0 w imm v d/\Bd w imm vs ds
 | _,_=>False
theorem Bd.spec{w:World}{imm:Nat->Nat->Prop}:∀ {vs:List Value} {ds:List PV},Bd w imm vs ds->vs.length=ds.length/\∀(i:Nat) v d,vs[i]? = some v->ds[i]? = some d->Rd0 w imm v d
 | [],[],_=>⟨rfl,λi v d h=>by simp at h⟩
 | v::vs,d::ds,h=>by
  obtain⟨k1,k2⟩:=Bd.spec h.2;refine⟨by simp[k1],λi u e hu he=>?_⟩;cases i with
  | zero=>
   simp only[zae,sm] at hu he;subst hu;subst he;exact h.1
  | succ i=>exact k2 i u e (Ω hu) (Ω he)
 | [],_::_,h=>h.elim
 | _::_,[],h=>h.elim
theorem rdL_of{w:World}{imm:Nat->Nat->Prop}{vs:List Value}{ds:List PV}(h:Bd w imm vs ds):Ig w imm vs.toArray ds:=by
 obtain⟨k1,k2⟩:=h.spec;exact⟨Ω k1,λi v d hv hd=>k2 i v d (Ω hv) hd⟩
theorem Bd.append{w:World}{imm:Nat->Nat->Prop}:∀ {vs us:List Value} {ds es:List PV},Bd w imm vs ds->Bd w imm us es->Bd w imm (vs++us) (ds++es)
 | [],_,[],_,_,k=>k
 | _::_,_,_::_,_,h,k=>⟨h.1,h.2.append k⟩
 | [],_,_::_,_,h,_=>h.elim
 | _::_,_,[],_,h,_=>h.elim
structure Rdr (P:Program) (t:TypeId) {α:Type} (E:α->PV) (G:α->Prop):Prop where
 rd:∀ {H:Type} (enc:TypeId × Value->H) (w:World) (n:Nat) (cs:List Value) (y:DataW H × List MemPlace),DataW.trod enc P w 0 (λ_=>true) true n t cs=some y->∃a:α,Bd w (all w) cs (E a).cells/\G a
 el:∀a,(E a).el=true
 z:∀a,(E a).cells.length=P.cellsOf t
section
variable{P:Program}{t:TypeId}
theorem XZ(ht:P.underlying t=some .string)(hz:P.cellsOf t=1):Rdr P t PV.str (λs=>s.size<=maxLen):=⟨λenc w n cs y h=>by
 obtain⟨x,rfl,_,hw⟩:=DataW.trod_string ht h;exact⟨x,⟨.str _,trivial⟩,hw⟩,λ_=>rfl,λ_=>hz.symm⟩
structure a4C (P:Program) (off:Nat) (fs:List Field) {α:Type} (Pc:α->List PV) (G:α->Prop):Prop where
 rd:∀ {H:Type} (enc:TypeId × Value->H) (w:World) (n:Nat) (cs:List Value) (xs:List (DataW H × List MemPlace)),(fs.mapM λf=>DataW.trod enc P w 0 (λ_=>true) true n f.type ((cs.drop f.offset).take (P.cellsOf f.type)))=some xs ->
  off<=cs.length->cs.length=off+(fs.map λf=>P.cellsOf f.type).sum->∃a:α,Bd w (all w) (cs.drop off) (Pc a)/\G a
 sc:∀a,(Pc a).all PV.sc=true
 z:∀a,(Pc a).length=(fs.map λf=>P.cellsOf f.type).sum
theorem Rdr.a3N{α:Type}{E:α->PV}{G:α->Prop}(h:Rdr P t E G){H:Type}{enc:TypeId × Value->H}{w:World}{v:Value}{d:DataW H}{ps:List MemPlace}(hd:DataW.Trod enc P w 0 (λ_=>true) true t v d ps)
  (hs:∀a,(E a).sc=true)(b:one v=true):∃a,Rd0 w (all w) v (E a)/\G a:=by
 obtain⟨n,hn⟩:=hd;obtain⟨a,k1,k2⟩:=h.rd enc w n _ _ hn;refine⟨a,?_,k2⟩;rw[uH b,PV.gY (hs a)] at k1;exact k1.1
section
variable{α:Type}{E:α->PV}{G:α->Prop}{H:Type}{enc:TypeId × Value->H}{w:World}{v:Value}{d:DataW H}{ps:List MemPlace}{r:Reach}{b0:Nat}
theorem arg_str(ht:P.underlying t=some .string)(hz:P.cellsOf t=1)(hv:Value.okWide P w r b0 t v)(hd:DataW.Trod enc P w 0 (λ_=>true) true t v d ps):∃a:ByteArray,Rd0 w (all w) v (.str a)/\a.size<=maxLen:=by
 obtain⟨n,rfl⟩:=okWide_string ht hv;exact (XZ ht hz).a3N hd (λ_=>rfl) rfl
end
end
end Go.Pw
namespace Go.Pw
end Go.Pw
