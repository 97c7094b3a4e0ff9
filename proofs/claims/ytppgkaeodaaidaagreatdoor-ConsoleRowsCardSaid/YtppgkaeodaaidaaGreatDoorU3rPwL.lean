/- A part. -/
import Derived.Test.YtppgkaeodaaidaaGreatDoorU3rPwB
set_option linter.unusedVariables false
set_option linter.unusedSimpArgs false
set_option linter.unusedSectionVars false
namespace Go.Pw
open Go.RowKit Go.ChangeShapes Go.WideShapes Go.Deep
abbrev all(w:World):Nat->Nat->Prop:=λb _=>b<w.heap.size
theorem Tf{P:Program}{f:FuncId}{vs:Array Value}{ds:List PV}{w:World}(h:N9 P f ds (.bool true))(hr:CA w (all w) vs ds)(hG:GT P w) :
  Calls P f vs w λe w'=>e = .returned (.bool true)/\Below w.heap.size w w':=
 (h w _ vs (λ_ _ q=>q) hG hr).mono λe w' ⟨v,he,hb,hv⟩=>by
  cases hv;exact⟨he,hb.toBelow⟩
def uE(w:World)(imm:Nat->Nat->Prop):List Value->List PV->Prop
 | [],[]=>True
 | v::vs,d::ds=>Rd0 w imm v d/\uE w imm vs ds
 | _,_=>False
theorem uE.spec{w:World}{imm:Nat->Nat->Prop}:∀ {vs:List Value} {ds:List PV},uE w imm vs ds->vs.length=ds.length/\∀(i:Nat) v d,vs[i]? = some v->ds[i]? = some d->Rd0 w imm v d
 | [],[],_=>⟨rfl,λi v d h=>by simp at h⟩
 | v::vs,d::ds,h=>by
  obtain⟨k1,k2⟩:=uE.spec h.2;refine⟨by simp[k1],λi u e hu he=>?_⟩;cases i with
  | zero=>
   simp only[zac,un] at hu he;subst hu;subst he;exact h.1
  | succ i=>exact k2 i u e (by simpa using hu) (by simpa using he)
 | [],_::_,h=>h.elim
 | _::_,[],h=>h.elim
theorem rdL_of{w:World}{imm:Nat->Nat->Prop}{vs:List Value}{ds:List PV}(h:uE w imm vs ds):CA w imm vs.toArray ds:=by
 obtain⟨k1,k2⟩:=h.spec;exact⟨by simpa using k1,λi v d hv hd=>k2 i v d (by simpa using hv) hd⟩
theorem uE.append{w:World}{imm:Nat->Nat->Prop}:∀ {vs us:List Value} {ds es:List PV},uE w imm vs ds->uE w imm us es->uE w imm (vs++us) (ds++es)
 | [],_,[],_,_,k=>k
 | _::_,_,_::_,_,h,k=>⟨h.1,h.2.append k⟩
 | [],_,_::_,_,h,_=>h.elim
 | _::_,_,[],_,h,_=>h.elim
structure Od (P:Program) (t:TypeId) {α:Type} (E:α->PV) (G:α->Prop):Prop where
 rd:∀ {H:Type} (enc:TypeId × Value->H) (w:World) (n:Nat) (cs:List Value) (y:DataW H × List MemPlace),DataW.trod enc P w 0 (λ_=>true) true n t cs=some y->∃a:α,uE w (all w) cs (E a).cells/\G a
 el:∀a,(E a).el=true
 z:∀a,(E a).cells.length=P.cellsOf t
section
variable{P:Program}{t:TypeId}
theorem HP{k:IntKind}(ht:P.underlying t=some (.int k))(hz:P.cellsOf t=1):Od P t (PV.int k) (λn=>(Lit.int k n).wf=true):=⟨λenc w n cs y h=>by
 obtain⟨x,rfl,_,hw⟩:=DataW.trod_int ht h;exact⟨x,⟨.int _ _,trivial⟩,hw⟩,λ_=>rfl,λ_=>hz.symm⟩
theorem Aa{e:TypeId}{α:Type}{E:α->PV}{G:α->Prop}(ht:P.underlying t=some (.slice e))(hz:P.cellsOf t=1)(he:0<P.cellsOf e)(hE:Od P e E G):Od P t (λ(l:List α)=>PV.lst false (l.map E)) (λl=>l.length<=maxLen/\∀a∈l,G a):=by
 refine⟨λ{H} enc w n cs y h=>?_,λ_=>rfl,λ_=>hz.symm⟩;rcases open_slice ht h with ⟨rfl,_⟩ | ⟨a,len,cap,m,n',D,Pl,rfl,_,hl,hm,hmm,hx,hi⟩;·refine⟨[],⟨.lst none 0 1 false [] (λ_ _=>undef) (zt _) (λq=>by cases q) (λ_=>rfl) (λ_ q=>by cases q) (λq=>absurd q (zbo _)) (λi x j y hx=>by simp at hx),trivial⟩,ut _,λa ha=>by cases ha⟩
 .simp only[zR] at hmm;subst hmm;have hex:∀i,i<len->∃x:α,(∃cs',w.cells? 0 (a.add (i*P.cellsOf e)) (P.cellsOf e)=some cs'/\uE w (all w) cs' (E x).cells)/\G x:=λi hik=>by
   obtain⟨cs',hc,ht'⟩:=hi i (by omega);obtain⟨x,h1,h2⟩:=hE.rd enc w _ _ _ ht';exact⟨x,⟨cs',hc,h1⟩,h2⟩
  rcases md len with h0 | h0
  .subst h0;exact⟨[],⟨.lst (some a) _ 1 false [] (λ_ _=>undef) (ut _) (λq=>by cases q) (λq=>by cases q) (λ_ q=>by cases q) (λq=>absurd q (zbo _)) (λi x j y hx=>by simp at hx),trivial⟩,ut _,λa ha=>by cases ha⟩
  .obtain⟨x0,⟨cs0,hc0,_⟩,_⟩:=hex 0 h0;have:Inhabited α:=⟨x0⟩;obtain⟨F,hF⟩:=choose_lt hex;obtain⟨b,off,spot⟩:=a;have cell:∀i,i<len->∀j y,(E (F i)).cells[j]? = some y->∃u,w.cell? ((Addr.mk b off spot).add (i*P.cellsOf e+j))=some u/\Rd0 w (all w) u y:=λi hik j y hy=>by
    obtain⟨⟨cs',hc,hr⟩,_⟩:=hF i hik;obtain⟨_,hcl,hat⟩:=World.cells?_some hc;obtain⟨k1,k2⟩:=hr.spec;have hj:j<(E (F i)).cells.length:=(zw.1 hy).1;have hj':j<cs'.length:=by omega
    have e1:=hat j (by omega);rw[Go.Deep.add_add,zc hj'] at e1;exact⟨_,e1,k2 j _ y (zc hj') hy⟩
   have hz0:0<(E (F 0)).cells.length:=by rw[hE.z];exact he
   obtain⟨u0,hu0,_⟩:=cell 0 h0 0 _ (zc hz0);have hspot:spot=none:=by simpa[Addr.add] using World.cell?_spot hu0
   subst hspot;have hb:b<w.heap.size:=by
    have:=World.block_lt_of_cell? w _ hu0;simpa[Addr.add] using this
   refine⟨(List.range len).map F,⟨?_,trivial⟩,by simp;omega,λx hx=>?_⟩
   .have key:=Rd0.lst (w:=w) (imm:=all w) (some ⟨b,off,none⟩) m (P.cellsOf e) false (((List.range len).map F).map E) (λi j=>(w.cell? ⟨b,off+i*P.cellsOf e+j,none⟩).getD undef) (by simpa using hl) (λq=>by cases q) (λq=>by cases q)
     (λx hx=>by
      obtain⟨x',_,rfl⟩:=zE.1 hx;exact⟨hE.el _,hE.z _⟩)
     (λ_=>⟨b,off,rfl,λi x j y hx hy=>by
      rw[zG,zG] at hx;cases hq:(List.range len)[i]? with
      | none=>rw[hq] at hx;cases hx
      | some k=>
       rw[hq] at hx;cases hx;obtain⟨h1,h2⟩:=zw.1 hq;simp at h1 h2;subst h2;obtain⟨u,hu,_⟩:=cell i h1 j y hy;refine⟨hb,?_⟩;rw[add_plain] at hu;rw[so,hu];rfl⟩)
     (λi x j y hx hy=>by
      rw[zG,zG] at hx;cases hq:(List.range len)[i]? with
      | none=>rw[hq] at hx;cases hx
      | some k=>
       rw[hq] at hx;cases hx;obtain⟨h1,h2⟩:=zw.1 hq;simp at h1 h2;subst h2;obtain⟨u,hu,hr⟩:=cell i h1 j y hy;rw[add_plain] at hu;rw[so,hu];exact hr)
    simpa using key
   .obtain⟨k,hk,rfl⟩:=zE.1 hx;exact (hF k (by simpa using hk)).2
structure YC (P:Program) (off:Nat) (fs:List Field) {α:Type} (Pc:α->List PV) (G:α->Prop):Prop where
 rd:∀ {H:Type} (enc:TypeId × Value->H) (w:World) (n:Nat) (cs:List Value) (xs:List (DataW H × List MemPlace)),(fs.mapM λf=>DataW.trod enc P w 0 (λ_=>true) true n f.type ((cs.drop f.offset).take (P.cellsOf f.type)))=some xs ->
  off<=cs.length->cs.length=off+(fs.map λf=>P.cellsOf f.type).sum->∃a:α,uE w (all w) (cs.drop off) (Pc a)/\G a
 sc:∀a,(Pc a).all PV.sc=true
 z:∀a,(Pc a).length=(fs.map λf=>P.cellsOf f.type).sum
theorem Od.VU{α:Type}{E:α->PV}{G:α->Prop}(h:Od P t E G){H:Type}{enc:TypeId × Value->H}{w:World}{v:Value}{d:DataW H}{ps:List MemPlace}(hd:DataW.Trod enc P w 0 (λ_=>true) true t v d ps)
  (hs:∀a,(E a).sc=true)(h1:one v=true):∃a,Rd0 w (all w) v (E a)/\G a:=by
 obtain⟨n,hn⟩:=hd;obtain⟨a,k1,k2⟩:=h.rd enc w n _ _ hn;refine⟨a,?_,k2⟩;rw[qQ h1,PV.eQ (hs a)] at k1;exact k1.1
section
variable{α:Type}{E:α->PV}{G:α->Prop}{H:Type}{enc:TypeId × Value->H}{w:World}{v:Value}{d:DataW H}{ps:List MemPlace}{r:Reach}{b0:Nat}
theorem Xy{k:IntKind}(ht:P.underlying t=some (.int k))(hz:P.cellsOf t=1)(hv:Value.okWide P w r b0 t v)(hd:DataW.Trod enc P w 0 (λ_=>true) true t v d ps):∃a:Int,Rd0 w (all w) v (.int k a)/\(Lit.int k a).wf=true:=by
 obtain⟨n,rfl⟩:=okWide_int ht hv;exact (HP ht hz).VU hd (λ_=>rfl) rfl
theorem VF{e:TypeId}(hR:Od P t (λ(l:List α)=>PV.lst false (l.map E)) (λl=>l.length<=maxLen/\∀a∈l,G a))(ht:P.underlying t=some (.slice e))(hv:Value.okWide P w r b0 t v)(hd:DataW.Trod enc P w 0 (λ_=>true) true t v d ps) :
  ∃a:List α,Rd0 w (all w) v (.lst false (a.map E))/\(a.length<=maxLen/\∀x∈a,G x):=by
 obtain⟨a,l,c,rfl⟩:=okWide_slice ht hv;exact hR.VU hd (λ_=>rfl) rfl
end
end
end Go.Pw
namespace Go.Pw
theorem wf_u8{n:Int}(h:(Lit.int .u8 n).wf=true):0<=n/\n<256:=by
 have e1:IntKind.u8.min=0:=by decide
 have e2:IntKind.u8.max=255:=by decide
 simp[Lit.wf,e1,e2] at h;omega
end Go.Pw
