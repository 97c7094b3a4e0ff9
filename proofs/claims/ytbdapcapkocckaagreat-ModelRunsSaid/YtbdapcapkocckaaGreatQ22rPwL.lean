/- A part. -/
import Derived.Test.YtbdapcapkocckaaGreatQ22rPwB
set_option linter.unusedVariables false
set_option linter.unusedSimpArgs false
set_option linter.unusedSectionVars false
namespace Go.Pw
open Go.RowKit Go.ChangeShapes Go.WideShapes Go.Deep
abbrev all(w:World):Nat->Nat->Prop:=λb _=>b<w.heap.size
theorem Ye{P:Program}{f:FuncId}{vs:Array Value}{ds:List PV}{w:World}(h:cd P f ds (.bool true))(hr:HQ w (all w) vs ds) :
  Calls P f vs w λe w'=>e = .returned (.bool true)/\Below w.heap.size w w':=
 (h w _ vs (λ_ _ q=>q) True.intro hr).mono λe w' ⟨v,he,hb,hv⟩=>by
  cases hv;exact⟨he,hb.toBelow⟩
def Aa(w:World)(imm:Nat->Nat->Prop):List Value->List PV->Prop
 | [],[]=>True
 | v::vs,d::ds=>Rd0 w imm v d/\Aa w imm vs ds
 | _,_=>False
theorem Aa.spec{w:World}{imm:Nat->Nat->Prop}:∀ {vs:List Value} {ds:List PV},Aa w imm vs ds->vs.length=ds.length/\∀(i:Nat) v d,vs[i]? = some v->ds[i]? = some d->Rd0 w imm v d
 | [],[],_=>⟨rfl,λi v d h=>by simp at h⟩
 | v::vs,d::ds,h=>by
  obtain⟨k1,k2⟩:=Aa.spec h.2;refine⟨by simp[k1],λi u e hu he=>?_⟩;cases i with
  | zero=>
   simp only[za6,wd] at hu he;subst hu;subst he;exact h.1
  | succ i=>exact k2 i u e (Ω hu) (Ω he)
 | [],_::_,h=>h.elim
 | _::_,[],h=>h.elim
theorem rdL_of{w:World}{imm:Nat->Nat->Prop}{vs:List Value}{ds:List PV}(h:Aa w imm vs ds):HQ w imm vs.toArray ds:=by
 obtain⟨k1,k2⟩:=h.spec;exact⟨Ω k1,λi v d hv hd=>k2 i v d (Ω hv) hd⟩
theorem Aa.append{w:World}{imm:Nat->Nat->Prop}:∀ {vs us:List Value} {ds es:List PV},Aa w imm vs ds->Aa w imm us es->Aa w imm (vs++us) (ds++es)
 | [],_,[],_,_,k=>k
 | _::_,_,_::_,_,h,k=>⟨h.1,h.2.append k⟩
 | [],_,_::_,_,h,_=>h.elim
 | _::_,_,[],_,h,_=>h.elim
structure LK (P:Program) (t:TypeId) {α:Type} (E:α->PV) (G:α->Prop):Prop where
 rd:∀ {H:Type} (enc:TypeId × Value->H) (w:World) (n:Nat) (cs:List Value) (y:DataW H × List MemPlace),DataW.trod enc P w 0 (λ_=>true) true n t cs=some y->∃a:α,Aa w (all w) cs (E a).cells/\G a
 el:∀a,(E a).el=true
 z:∀a,(E a).cells.length=P.cellsOf t
section
variable{P:Program}{t:TypeId}
theorem Nt{k:IntKind}(ht:P.underlying t=some (.int k))(hz:P.cellsOf t=1):LK P t (PV.int k) (λn=>(Lit.int k n).wf=true):=⟨λenc w n cs y h=>by
 obtain⟨x,rfl,_,hw⟩:=DataW.trod_int ht h;exact⟨x,⟨.int _ _,trivial⟩,hw⟩,λ_=>rfl,λ_=>hz.symm⟩
theorem sx{e:TypeId}{α:Type}{E:α->PV}{G:α->Prop}(ht:P.underlying t=some (.slice e))(hz:P.cellsOf t=1)(he:0<P.cellsOf e)(hE:LK P e E G):LK P t (λ(l:List α)=>PV.lst false (l.map E)) (λl=>l.length<=maxLen/\∀a∈l,G a):=by
 refine⟨λ{H} enc w n cs y h=>?_,λ_=>rfl,λ_=>hz.symm⟩;rcases open_slice ht h with ⟨rfl,_⟩ | ⟨a,len,cap,m,V,D,Pl,rfl,_,hl,hm,B,hx,hi⟩;·refine⟨[],⟨.lst none 0 1 false [] (λ_ _=>undef) (zC _) (λq=>Γ) (λ_=>rfl) (λ_ q=>Γ) (λq=>absurd q (zb0 _)) (λi x j y hx=>by simp at hx),trivial⟩,zU _,λa ha=>by cases ha⟩
 .simp only[ut] at B;subst B;have p:∀i,i<len->∃x:α,(∃c,w.cells? 0 (a.add (i*P.cellsOf e)) (P.cellsOf e)=some c/\Aa w (all w) c (E x).cells)/\G x:=λi s=>by
   obtain⟨c,hc,N⟩:=hi i Δ;obtain⟨x,f,g⟩:=hE.rd enc w _ _ _ N;exact⟨x,⟨c,hc,f⟩,g⟩
  rcases zah len with h0 | h0
  .subst h0;exact⟨[],⟨.lst (some a) _ 1 false [] (λ_ _=>undef) (zU _) (λq=>Γ) (λq=>Γ) (λ_ q=>Γ) (λq=>absurd q (zb0 _)) (λi x j y hx=>by simp at hx),trivial⟩,zU _,λa ha=>by cases ha⟩
  .obtain⟨x0,⟨S,T,_⟩,_⟩:=p 0 h0;have:Inhabited α:=⟨x0⟩;obtain⟨F,hF⟩:=choose_lt p;obtain⟨b,off,spot⟩:=a;have cell:∀i,i<len->∀j y,(E (F i)).cells[j]? = some y->∃u,w.cell? ((Addr.mk b off spot).add (i*P.cellsOf e+j))=some u/\Rd0 w (all w) u y:=λi s j y hy=>by
    obtain⟨⟨c,hc,hr⟩,_⟩:=hF i s;obtain⟨_,hcl,K⟩:=World.cells?_some hc;obtain⟨k1,k2⟩:=hr.spec;have hj:j<(E (F i)).cells.length:=(zbo.1 hy).1;have A:j<c.length:=Δ
    have R:=K j Δ;rw[Go.Deep.add_add,zc A] at R;exact⟨_,R,k2 j _ y (zc A) hy⟩
   have Q:0<(E (F 0)).cells.length:=by rw[hE.z];exact he
   obtain⟨u0,C,_⟩:=cell 0 h0 0 _ (zc Q);have hspot:spot=none:=by simpa[Addr.add] using World.cell?_spot C
   subst hspot;have hb:b<w.heap.size:=by
    have:=World.block_lt_of_cell? w _ C;simpa[Addr.add] using this
   refine⟨(List.range len).map F,⟨?_,trivial⟩,Ξ,λx hx=>?_⟩
   .have key:=Rd0.lst (w:=w) (imm:=all w) (some ⟨b,off,none⟩) m (P.cellsOf e) false (((List.range len).map F).map E) (λi j=>(w.cell? ⟨b,off+i*P.cellsOf e+j,none⟩).getD undef) (Ω hl) (λq=>Γ) (λq=>Γ)
     (λx hx=>by
      obtain⟨x',_,rfl⟩:=zn.1 hx;exact⟨hE.el _,hE.z _⟩)
     (λ_=>⟨b,off,rfl,λi x j y hx hy=>by
      rw[zD,zD] at hx;cases o:(List.range len)[i]? with
      | none=>rw[o] at hx;cases hx
      | some k=>
       rw[o] at hx;cases hx;obtain⟨f,g⟩:=zbo.1 o;simp at f g;subst g;obtain⟨u,hu,_⟩:=cell i f j y hy;refine⟨hb,?_⟩;rw[add_plain] at hu;rw[t8,hu];rfl⟩)
     (λi x j y hx hy=>by
      rw[zD,zD] at hx;cases o:(List.range len)[i]? with
      | none=>rw[o] at hx;cases hx
      | some k=>
       rw[o] at hx;cases hx;obtain⟨f,g⟩:=zbo.1 o;simp at f g;subst g;obtain⟨u,hu,hr⟩:=cell i f j y hy;rw[add_plain] at hu;rw[t8,hu];exact hr)
    simpa using key
   .obtain⟨k,hk,rfl⟩:=zn.1 hx;exact (hF k (Ω hk)).2
structure TK (P:Program) (off:Nat) (fs:List Field) {α:Type} (Pc:α->List PV) (G:α->Prop):Prop where
 rd:∀ {H:Type} (enc:TypeId × Value->H) (w:World) (n:Nat) (cs:List Value) (xs:List (DataW H × List MemPlace)),(fs.mapM λf=>DataW.trod enc P w 0 (λ_=>true) true n f.type ((cs.drop f.offset).take (P.cellsOf f.type)))=some xs ->
  off<=cs.length->cs.length=off+(fs.map λf=>P.cellsOf f.type).sum->∃a:α,Aa w (all w) (cs.drop off) (Pc a)/\G a
 sc:∀a,(Pc a).all PV.sc=true
 z:∀a,(Pc a).length=(fs.map λf=>P.cellsOf f.type).sum
theorem SS{off:Nat}:TK P off [] (λ(_:Unit)=>[]) (λ_=>True):=⟨λenc w n cs xs _ hl hn=>⟨(),by
 simp at hn;rw[List.drop_eq_nil_of_le Δ];exact trivial,trivial⟩,λ_=>rfl,λ_=>rfl⟩
theorem PV.FJ{d:PV}(h:d.el=true):d.cells.all PV.sc=true:=zg.2 λy hy=>PV.qE h y hy
theorem sw{off:Nat}{f:Field}{fs:List Field}{α β:Type}{E:α->PV}{G:α->Prop}{Pc:β->List PV}{G':β->Prop}(ho:f.offset=off)(hE:LK P f.type E G)(hF:TK P (off+P.cellsOf f.type) fs Pc G') :
  TK P off (f::fs) (λ(x:α × β)=>(E x.1).cells++Pc x.2) (λx=>G x.1/\G' x.2):=by
 refine⟨λ{H} enc w n cs xs h hl hn=>?_,λa=>?_,λa=>?_⟩
 .rw[List.mapM_cons] at h;simp only[Option.bind_eq_bind,Option.bind_eq_some_iff,Option.pure_def,wd] at h;obtain⟨x,hx,ys,c,rfl⟩:=h;rw[zT,zbs] at hn;obtain⟨a,e,g⟩:=hE.rd enc w n _ _ hx;obtain⟨b,k1,k2⟩:=hF.rd enc w n cs ys c Δ Δ;refine⟨(a,b),?_,g,k2⟩;have:cs.drop off=(cs.drop off).take (P.cellsOf f.type)++cs.drop (off+P.cellsOf f.type):=by
   rw[<-List.drop_drop,zbq]
  rw[this];rw[ho] at e;exact e.append k1
 .simp only[List.all_append,zB];exact⟨PV.FJ (hE.el _),hF.sc _⟩
 .simp only[zA,hE.z,hF.z,zT,zbs]
theorem Lm{fs:Array Field}{α β:Type}{Pc:β->List PV}{G:β->Prop}{Pv:α->PV}{G':α->Prop}(mk:β->α)(ht:P.underlying t=some (.struct fs))(hF:TK P 0 fs.toList Pc G)(hz:P.cellsOf t=(fs.toList.map λf=>P.cellsOf f.type).sum)
  (he:∀b,Pv (mk b) = .agg (Pc b))(hs:∀a,∃b,mk b=a)(i:∀b,G b->G' (mk b)):LK P t Pv G':=by
 refine⟨λ{H} enc w n cs y h=>?_,λa=>?_,λa=>?_⟩
 .cases n with
  | zero=>simp[DataW.trod] at h
  | succ n=>
   simp only[DataW.trod,ht] at h;split at h
   .rename_i hlen;rw[Option.map_eq_some_iff] at h;obtain⟨xs,c,_⟩:=h;obtain⟨b,e,g⟩:=hF.rd enc w n cs xs c (zU _) (by rw[hlen,hz];simp);rw[List.drop_zero] at e;exact⟨mk b,by rw[he];exact e,i b g⟩
   .cases h
 .obtain⟨b,rfl⟩:=hs a;rw[he];exact hF.sc b
 .obtain⟨b,rfl⟩:=hs a;rw[he,hz];exact hF.z b
theorem LK.a0x{α:Type}{E:α->PV}{G:α->Prop}(h:LK P t E G){H:Type}{enc:TypeId × Value->H}{w:World}{v:Value}{d:DataW H}{ps:List MemPlace}(hd:DataW.Trod enc P w 0 (λ_=>true) true t v d ps)
  (hs:∀a,(E a).sc=true)(b:one v=true):∃a,Rd0 w (all w) v (E a)/\G a:=by
 obtain⟨n,hn⟩:=hd;obtain⟨a,k1,k2⟩:=h.rd enc w n _ _ hn;refine⟨a,?_,k2⟩;rw[uX b,PV.je (hs a)] at k1;exact k1.1
section
variable{α:Type}{E:α->PV}{G:α->Prop}{H:Type}{enc:TypeId × Value->H}{w:World}{v:Value}{d:DataW H}{ps:List MemPlace}{r:Reach}{b0:Nat}
theorem a1A{k:IntKind}(ht:P.underlying t=some (.int k))(hz:P.cellsOf t=1)(hv:Value.okWide P w r b0 t v)(hd:DataW.Trod enc P w 0 (λ_=>true) true t v d ps):∃a:Int,Rd0 w (all w) v (.int k a)/\(Lit.int k a).wf=true:=by
 obtain⟨n,rfl⟩:=okWide_int ht hv;exact (Nt ht hz).a0x hd (λ_=>rfl) rfl
theorem a0j{e:TypeId}(b:LK P t (λ(l:List α)=>PV.lst false (l.map E)) (λl=>l.length<=maxLen/\∀a∈l,G a))(ht:P.underlying t=some (.slice e))(hv:Value.okWide P w r b0 t v)(hd:DataW.Trod enc P w 0 (λ_=>true) true t v d ps) :
  ∃a:List α,Rd0 w (all w) v (.lst false (a.map E))/\(a.length<=maxLen/\∀x∈a,G x):=by
 obtain⟨a,l,c,rfl⟩:=okWide_slice ht hv;exact b.a0x hd (λ_=>rfl) rfl
end
end
end Go.Pw
namespace Go.Pw
end Go.Pw
