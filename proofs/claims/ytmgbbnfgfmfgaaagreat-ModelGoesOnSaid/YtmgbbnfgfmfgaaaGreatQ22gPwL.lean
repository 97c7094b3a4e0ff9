/- A part. -/
import Derived.Test.YtmgbbnfgfmfgaaaGreatQ22gPwB
set_option linter.unusedVariables false
set_option linter.unusedSimpArgs false
set_option linter.unusedSectionVars false
namespace Go.Pw
open Go.RowKit Go.ChangeShapes Go.WideShapes Go.Deep
abbrev all(w:World):Nat->Nat->Prop:=λb _=>b<w.heap.size
theorem Ve{P:Program}{f:FuncId}{vs:Array Value}{ds:List PV}{w:World}(h:bq P f ds (.bool true))(hr:EJ w (all w) vs ds) :
  Calls P f vs w λe w'=>e = .returned (.bool true)/\Below w.heap.size w w':=
 (h w _ vs (λ_ _ q=>q) hr).mono λe w' ⟨v,he,hb,hv⟩=>by
  cases hv;exact⟨he,hb.toBelow⟩
def xg(w:World)(imm:Nat->Nat->Prop):List Value->List PV->Prop
 | [],[]=>True
 | v::vs,d::ds=>Rd0 w imm v d/\xg w imm vs ds
 | _,_=>False
theorem xg.spec{w:World}{imm:Nat->Nat->Prop}:∀ {vs:List Value} {ds:List PV},xg w imm vs ds->vs.length=ds.length/\∀(i:Nat) v d,vs[i]? = some v->ds[i]? = some d->Rd0 w imm v d
 | [],[],_=>⟨rfl,λi v d h=>by simp at h⟩
 | v::vs,d::ds,h=>by
  obtain⟨k1,k2⟩:=xg.spec h.2;refine⟨by simp[k1],λi u e hu he=>?_⟩;cases i with
  | zero=>
   simp only[za1,zY] at hu he;subst hu;subst he;exact h.1
  | succ i=>exact k2 i u e (by simpa using hu) (by simpa using he)
 | [],_::_,h=>h.elim
 | _::_,[],h=>h.elim
theorem rdL_of{w:World}{imm:Nat->Nat->Prop}{vs:List Value}{ds:List PV}(h:xg w imm vs ds):EJ w imm vs.toArray ds:=by
 obtain⟨k1,k2⟩:=h.spec;exact⟨by simpa using k1,λi v d hv hd=>k2 i v d (by simpa using hv) hd⟩
theorem xg.append{w:World}{imm:Nat->Nat->Prop}:∀ {vs us:List Value} {ds es:List PV},xg w imm vs ds->xg w imm us es->xg w imm (vs++us) (ds++es)
 | [],_,[],_,_,k=>k
 | _::_,_,_::_,_,h,k=>⟨h.1,h.2.append k⟩
 | [],_,_::_,_,h,_=>h.elim
 | _::_,_,[],_,h,_=>h.elim
structure IP (P:Program) (t:TypeId) {α:Type} (E:α->PV) (G:α->Prop):Prop where
 rd:∀ {H:Type} (enc:TypeId × Value->H) (w:World) (n:Nat) (cs:List Value) (y:DataW H × List MemPlace),DataW.trod enc P w 0 (λ_=>true) true n t cs=some y->∃a:α,xg w (all w) cs (E a).cells/\G a
 el:∀a,(E a).el=true
 z:∀a,(E a).cells.length=P.cellsOf t
section
variable{P:Program}{t:TypeId}
theorem KA{k:IntKind}(ht:P.underlying t=some (.int k))(hz:P.cellsOf t=1):IP P t (PV.int k) (λn=>(Lit.int k n).wf=true):=⟨λenc w n cs y h=>by
 obtain⟨x,rfl,_,hw⟩:=DataW.trod_int ht h;exact⟨x,⟨.int _ _,trivial⟩,hw⟩,λ_=>rfl,λ_=>hz.symm⟩
theorem qC{e:TypeId}{α:Type}{E:α->PV}{G:α->Prop}(ht:P.underlying t=some (.slice e))(hz:P.cellsOf t=1)(he:0<P.cellsOf e)(hE:IP P e E G):IP P t (λ(l:List α)=>PV.lst false (l.map E)) (λl=>l.length<=maxLen/\∀a∈l,G a):=by
 refine⟨λ{H} enc w n cs y h=>?_,λ_=>rfl,λ_=>hz.symm⟩;rcases open_slice ht h with ⟨rfl,_⟩ | ⟨a,len,cap,m,n',D,Pl,rfl,_,hl,hm,hmm,hx,hi⟩;·refine⟨[],⟨.lst none 0 1 false [] (λ_ _=>undef) (zG _) (λq=>by cases q) (λ_=>rfl) (λ_ q=>by cases q) (λq=>absurd q (zbz _)) (λi x j y hx=>by simp at hx),trivial⟩,zX _,λa ha=>by cases ha⟩
 .simp only[we] at hmm;subst hmm;have hex:∀i,i<len->∃x:α,(∃cs',w.cells? 0 (a.add (i*P.cellsOf e)) (P.cellsOf e)=some cs'/\xg w (all w) cs' (E x).cells)/\G x:=λi hik=>by
   obtain⟨cs',hc,ht'⟩:=hi i (by omega);obtain⟨x,h1,h2⟩:=hE.rd enc w _ _ _ ht';exact⟨x,⟨cs',hc,h1⟩,h2⟩
  rcases zal len with h0 | h0
  .subst h0;exact⟨[],⟨.lst (some a) _ 1 false [] (λ_ _=>undef) (zX _) (λq=>by cases q) (λq=>by cases q) (λ_ q=>by cases q) (λq=>absurd q (zbz _)) (λi x j y hx=>by simp at hx),trivial⟩,zX _,λa ha=>by cases ha⟩
  .obtain⟨x0,⟨cs0,hc0,_⟩,_⟩:=hex 0 h0;have:Inhabited α:=⟨x0⟩;obtain⟨F,hF⟩:=choose_lt hex;obtain⟨b,off,spot⟩:=a;have cell:∀i,i<len->∀j y,(E (F i)).cells[j]? = some y->∃u,w.cell? ((Addr.mk b off spot).add (i*P.cellsOf e+j))=some u/\Rd0 w (all w) u y:=λi hik j y hy=>by
    obtain⟨⟨cs',hc,hr⟩,_⟩:=hF i hik;obtain⟨_,hcl,hat⟩:=World.cells?_some hc;obtain⟨k1,k2⟩:=hr.spec;have hj:j<(E (F i)).cells.length:=(zbk.1 hy).1;have hj':j<cs'.length:=by omega
    have e1:=hat j (by omega);rw[Go.Deep.add_add,zc hj'] at e1;exact⟨_,e1,k2 j _ y (zc hj') hy⟩
   have hz0:0<(E (F 0)).cells.length:=by rw[hE.z];exact he
   obtain⟨u0,hu0,_⟩:=cell 0 h0 0 _ (zc hz0);have hspot:spot=none:=by simpa[Addr.add] using World.cell?_spot hu0
   subst hspot;have hb:b<w.heap.size:=by
    have:=World.block_lt_of_cell? w _ hu0;simpa[Addr.add] using this
   refine⟨(List.range len).map F,⟨?_,trivial⟩,by simp;omega,λx hx=>?_⟩
   .have key:=Rd0.lst (w:=w) (imm:=all w) (some ⟨b,off,none⟩) m (P.cellsOf e) false (((List.range len).map F).map E) (λi j=>(w.cell? ⟨b,off+i*P.cellsOf e+j,none⟩).getD undef) (by simpa using hl) (λq=>by cases q) (λq=>by cases q)
     (λx hx=>by
      obtain⟨x',_,rfl⟩:=zq.1 hx;exact⟨hE.el _,hE.z _⟩)
     (λ_=>⟨b,off,rfl,λi x j y hx hy=>by
      rw[zB,zB] at hx;cases hq:(List.range len)[i]? with
      | none=>rw[hq] at hx;cases hx
      | some k=>
       rw[hq] at hx;cases hx;obtain⟨h1,h2⟩:=zbk.1 hq;simp at h1 h2;subst h2;obtain⟨u,hu,_⟩:=cell i h1 j y hy;refine⟨hb,?_⟩;rw[add_plain] at hu;rw[rg,hu];rfl⟩)
     (λi x j y hx hy=>by
      rw[zB,zB] at hx;cases hq:(List.range len)[i]? with
      | none=>rw[hq] at hx;cases hx
      | some k=>
       rw[hq] at hx;cases hx;obtain⟨h1,h2⟩:=zbk.1 hq;simp at h1 h2;subst h2;obtain⟨u,hu,hr⟩:=cell i h1 j y hy;rw[add_plain] at hu;rw[rg,hu];exact hr)
    simpa using key
   .obtain⟨k,hk,rfl⟩:=zq.1 hx;exact (hF k (by simpa using hk)).2
structure QF (P:Program) (off:Nat) (fs:List Field) {α:Type} (Pc:α->List PV) (G:α->Prop):Prop where
 rd:∀ {H:Type} (enc:TypeId × Value->H) (w:World) (n:Nat) (cs:List Value) (xs:List (DataW H × List MemPlace)),(fs.mapM λf=>DataW.trod enc P w 0 (λ_=>true) true n f.type ((cs.drop f.offset).take (P.cellsOf f.type)))=some xs ->
  off<=cs.length->cs.length=off+(fs.map λf=>P.cellsOf f.type).sum->∃a:α,xg w (all w) (cs.drop off) (Pc a)/\G a
 sc:∀a,(Pc a).all PV.sc=true
 z:∀a,(Pc a).length=(fs.map λf=>P.cellsOf f.type).sum
theorem PD{off:Nat}:QF P off [] (λ(_:Unit)=>[]) (λ_=>True):=⟨λenc w n cs xs _ hl hn=>⟨(),by
 simp at hn;rw[List.drop_eq_nil_of_le (by omega)];exact trivial,trivial⟩,λ_=>rfl,λ_=>rfl⟩
theorem PV.CU{d:PV}(h:d.el=true):d.cells.all PV.sc=true:=zf.2 λy hy=>PV.pf h y hy
theorem qB{off:Nat}{f:Field}{fs:List Field}{α β:Type}{E:α->PV}{G:α->Prop}{Pc:β->List PV}{G':β->Prop}(ho:f.offset=off)(hE:IP P f.type E G)(hF:QF P (off+P.cellsOf f.type) fs Pc G') :
  QF P off (f::fs) (λ(x:α × β)=>(E x.1).cells++Pc x.2) (λx=>G x.1/\G' x.2):=by
 refine⟨λ{H} enc w n cs xs h hl hn=>?_,λa=>?_,λa=>?_⟩
 .rw[List.mapM_cons] at h;simp only[Option.bind_eq_bind,Option.bind_eq_some_iff,Option.pure_def,zY] at h;obtain⟨x,hx,ys,hys,rfl⟩:=h;rw[zQ,zbc] at hn;obtain⟨a,h1,h2⟩:=hE.rd enc w n _ _ hx;obtain⟨b,k1,k2⟩:=hF.rd enc w n cs ys hys (by omega) (by omega);refine⟨(a,b),?_,h2,k2⟩;have:cs.drop off=(cs.drop off).take (P.cellsOf f.type)++cs.drop (off+P.cellsOf f.type):=by
   rw[<-List.drop_drop,zb3]
  rw[this];rw[ho] at h1;exact h1.append k1
 .simp only[List.all_append,zy];exact⟨PV.CU (hE.el _),hF.sc _⟩
 .simp only[zJ,hE.z,hF.z,zQ,zbc]
theorem Iv{fs:Array Field}{α β:Type}{Pc:β->List PV}{G:β->Prop}{Pv:α->PV}{G':α->Prop}(mk:β->α)(ht:P.underlying t=some (.struct fs))(hF:QF P 0 fs.toList Pc G)(hz:P.cellsOf t=(fs.toList.map λf=>P.cellsOf f.type).sum)
  (he:∀b,Pv (mk b) = .agg (Pc b))(hs:∀a,∃b,mk b=a)(hG:∀b,G b->G' (mk b)):IP P t Pv G':=by
 refine⟨λ{H} enc w n cs y h=>?_,λa=>?_,λa=>?_⟩
 .cases n with
  | zero=>simp[DataW.trod] at h
  | succ n=>
   simp only[DataW.trod,ht] at h;split at h
   .rename_i hlen;rw[Option.map_eq_some_iff] at h;obtain⟨xs,hxs,_⟩:=h;obtain⟨b,h1,h2⟩:=hF.rd enc w n cs xs hxs (zX _) (by rw[hlen,hz];simp);rw[List.drop_zero] at h1;exact⟨mk b,by rw[he];exact h1,hG b h2⟩
   .cases h
 .obtain⟨b,rfl⟩:=hs a;rw[he];exact hF.sc b
 .obtain⟨b,rfl⟩:=hs a;rw[he,hz];exact hF.z b
theorem IP.XS{α:Type}{E:α->PV}{G:α->Prop}(h:IP P t E G){H:Type}{enc:TypeId × Value->H}{w:World}{v:Value}{d:DataW H}{ps:List MemPlace}(hd:DataW.Trod enc P w 0 (λ_=>true) true t v d ps)
  (hs:∀a,(E a).sc=true)(h1:one v=true):∃a,Rd0 w (all w) v (E a)/\G a:=by
 obtain⟨n,hn⟩:=hd;obtain⟨a,k1,k2⟩:=h.rd enc w n _ _ hn;refine⟨a,?_,k2⟩;rw[tg h1,PV.gZ (hs a)] at k1;exact k1.1
section
variable{α:Type}{E:α->PV}{G:α->Prop}{H:Type}{enc:TypeId × Value->H}{w:World}{v:Value}{d:DataW H}{ps:List MemPlace}{r:Reach}{b0:Nat}
theorem Zj{k:IntKind}(ht:P.underlying t=some (.int k))(hz:P.cellsOf t=1)(hv:Value.okWide P w r b0 t v)(hd:DataW.Trod enc P w 0 (λ_=>true) true t v d ps):∃a:Int,Rd0 w (all w) v (.int k a)/\(Lit.int k a).wf=true:=by
 obtain⟨n,rfl⟩:=okWide_int ht hv;exact (KA ht hz).XS hd (λ_=>rfl) rfl
theorem XD{e:TypeId}(hR:IP P t (λ(l:List α)=>PV.lst false (l.map E)) (λl=>l.length<=maxLen/\∀a∈l,G a))(ht:P.underlying t=some (.slice e))(hv:Value.okWide P w r b0 t v)(hd:DataW.Trod enc P w 0 (λ_=>true) true t v d ps) :
  ∃a:List α,Rd0 w (all w) v (.lst false (a.map E))/\(a.length<=maxLen/\∀x∈a,G x):=by
 obtain⟨a,l,c,rfl⟩:=okWide_slice ht hv;exact hR.XS hd (λ_=>rfl) rfl
end
end
end Go.Pw
namespace Go.Pw
theorem a0r{n:Int}(h:(Lit.int .u8 n).wf=true):0<=n/\n<256:=by
 have e1:IntKind.u8.min=0:=by decide
 have e2:IntKind.u8.max=255:=by decide
 simp[Lit.wf,e1,e2] at h;omega
end Go.Pw
