/- A part. -/
import Derived.Test.YtppgkaeodaaidaaGreatDoorU3hPwB
set_option linter.unusedVariables false
set_option linter.unusedSimpArgs false
set_option linter.unusedSectionVars false
namespace Go.Pw
open Go.RowKit
def pM(top env:Nat->PV):Nat->PV:=λi=>if i<1000000 then top i else env (i-1000000)
def lF(env:Nat->PV):Nat->PV:=λi=>env (i+1000000)
def iS(ds:List Deferred):List (Nat × Obj):=ds.filterMap λd=>match d.target with
 | .collected r=>some (r,.deferred (some []))
 | _=>none
theorem iT(rs:List Nat):iS (rs.map λr=>{ target:=.collected r,args:=#[] })=rs.map λr=>(r,Obj.deferred (some [])):=by
 induction rs with
 | nil=>rfl
 | cons r rs ih=>
  unfold iS at ih |-;rw[ww,List.filterMap_cons];simp only[ih,ww]
def Ctx.over(X:Ctx)(a:Act)(N:Nat)(ρ:Option Nat):Ctx:={ X with N:=N,ρ:=ρ,ext:=λi=>X.val a (i-1000000),obs:=iS a.defers++X.obs,calm:=true }
section
variable{X:Ctx}{g:Gh}{st:St}{a:Act}{w:World}
theorem A3.push(h:A3 X g st a w){N:Nat}(ρ:Option Nat){tmps:Array Value}{top:Nat->PV}(hN:N<=1000000)(hs:tmps.size=N)(ht:∀i,i<1000000->Rd w g.imm g.μ st.p7 (tmps.getD i undef) (top i)) :
  A3 (X.over a N ρ) g ⟨pM top st.env,st.σ⟩ { tmps:=tmps,defers:=[] } w:=by
 refine⟨hs,λi=>?_,h.rows,h.disj,h.ownimm,h.immlt,h.immsub,h.immsup,h.below,⟨[],List.nodup_nil,rfl,λr hr=>by cases hr⟩,λp hp=>?_,⟨hN,λ_=>rfl⟩,h.maps⟩
 .by_cases q:i<1000000
  .have e1:(X.over a N ρ).val { tmps:=tmps,defers:=[] } i=tmps.getD i undef:=zb q;have e2:pM top st.env i=top i:=zb q;show Rd w g.imm g.μ st.p7 _ (pM top st.env i);rw[e1,e2];exact ht i q
  .have e1:(X.over a N ρ).val { tmps:=tmps,defers:=[] } i=X.val a (i-1000000):=by
    unfold Ctx.over;rw[Ctx.val,za q]
   have e2:pM top st.env i=st.env (i-1000000):=za q;show Rd w g.imm g.μ st.p7 _ (pM top st.env i);rw[e1,e2];exact h.env _
 .rcases zw.1 hp with hp | hp
  .obtain⟨rs,_,h2,h3⟩:=h.marks;rw[h2,iT] at hp;obtain⟨r,hr,rfl⟩:=zI.1 hp;exact⟨(h3 r hr).1,rfl,rfl⟩
  .exact h.obs p hp
theorem A3.pop{N:Nat}{ρ:Option Nat}{st':St}{a':Act}{w0:World}(h0:A3 X g st a w0){g':Gh}(h:A3 (X.over a N ρ) g' st' a' w):A3 X g' ⟨lF st'.env,st'.σ⟩ a w:=by
 refine⟨h0.size,λi=>?_,h.rows,h.disj,h.ownimm,h.immlt,h.immsub,h.immsup,h.below,?_,λp hp=>h.obs p (zas _ hp),h0.big,h.maps⟩
 .have:=h.env (i+1000000);have e1:(X.over a N ρ).val a' (i+1000000)=X.val a i:=by
   have q:¬i+1000000<1000000:=by omega
   unfold Ctx.over;rw[Ctx.val,za q];simp only[Nat.add_sub_cancel]
  rw[e1] at this;exact this
 .obtain⟨rs,h1,h2,h3⟩:=h0.marks;refine⟨rs,h1,h2,λr hr=>⟨?_,(h3 r hr).2⟩⟩;refine (h.obs (r,.deferred (some [])) (mt _ ?_)).1;rw[h2,iT];exact zI.2 ⟨r,hr,rfl⟩
theorem A3.QY(h:A3 X g st a w){l:Nat}{o o':Obj}(hl:w.heap[l]? = some o)(hc:o.isCells=false)(hm:br o=false)(hc':o'.isCells=false)(hb:X.w0.heap.size<=l)(hmk:o ≠ .deferred (some [])){obs:List (Nat × Obj)}
  (hobs:∀p∈obs,(p=(l,o'))\/(p.1≠l/\p∈X.obs))(hmo:br o'=false:=by rfl):A3 { X with obs:=obs } g st a (w.putObj l o'):=by
 have hlt:l<w.heap.size:=(wl.1 hl).1;have hcell:∀b i,(w.putObj l o').cell? ⟨b,i,none⟩=w.cell? ⟨b,i,none⟩:=by
  intro b i;by_cases e:b=l
  .subst e;have none_of:∀(W:World) (o:Obj),W.heap[b]? = some o->o.isCells=false->W.cell? ⟨b,i,none⟩=none:=by
    intro W o hW ho;cases hq:W.cell? ⟨b,i,none⟩ with
    | none=>rfl
    | some u=>
     obtain⟨o2,k1,k2⟩:=cells_of_cell hq;rw[show W.heap[b]? = some o2 from k1] at hW;cases hW;rw[k2] at ho;cases ho
   rw[none_of _ _ (World.putObj_heap_same hlt) hc',none_of _ _ hl hc]
  .exact World.cell?_of_block (by rw[World.putObj_heap_other e])
 have hfro:∀b i,(w.putObj l o').frozen? ⟨b,i,none⟩=w.frozen? ⟨b,i,none⟩\/b=l:=by
  intro b i;by_cases e:b=l
  .exact .inr e
  .left;unfold World.frozen?;simp only;rw[World.putObj_heap_other e]
 have hx:Ext w g.imm (w.putObj l o') g.imm:=⟨λ_ _ q=>q,λb i _=>hcell b i,λb i x _ hx hmx=>by
  by_cases e:b=l
  .subst e;rw[hl] at hx;cases hx;rw[hm] at hmx;cases hmx
  .rw[World.putObj_heap_other e];exact hx⟩
 refine⟨h.size,λi=>(h.env i).mono hx λ_ q=>⟨q,rfl⟩,λl' r q=>(h.rows l' r q).mono hx (λ_ k=>⟨k,rfl⟩) λb i ho=>⟨hcell b i,?_⟩,h.disj,h.ownimm,λb i q=>?_,h.immsub,h.immsup,?_,?_,λp hp=>?_,h.big,h.maps.move hx (λ_ _ _ q _ _=>q) λk x q1 q2=>?_⟩
 .rcases hfro b i with e | e
  .exact e
  .subst e;obtain⟨_,h2,_⟩:=(h.rows l' r q).own b i ho;obtain⟨u,hu⟩:=zai.1 h2;obtain⟨o2,k1,k2⟩:=cells_of_cell hu;simp only at k1;rw[hl] at k1;cases k1;rw[hc] at k2;cases k2
 .have:=h.immlt b i q;simpa[World.putObj] using this
 .exact h.below.trans ⟨⟨rfl,rfl,rfl,by simp[World.putObj],λk hk=>World.putObj_heap_other (by omega)⟩,zq _⟩
 .obtain⟨rs,h1,h2,h3⟩:=h.marks;refine⟨rs,h1,h2,λr hr=>⟨?_,(h3 r hr).2⟩⟩;rw[World.putObj_heap_other (λe=>by subst e;have h4:=(h3 _ hr).1;rw[hl] at h4;exact hmk (u8 h4))];exact (h3 r hr).1
 .rcases hobs p hp with rfl | ⟨k1,k2⟩
  .exact⟨World.putObj_heap_same hlt,hc',hmo⟩
  .rw[World.putObj_heap_other k1];exact h.obs p k2
 .by_cases e:k=l
  .subst e;rw[hl] at q1;cases q1;rw[hm] at q2;cases q2
  .rw[World.putObj_heap_other e];exact q1
theorem A3.mark(h:A3 X g st a w){D:Nat}(hD:w.heap[D]? = some (.deferred (some [])))(hb:X.w0.heap.size<=D)(hn:∀d∈a.defers,d.target ≠ .collected D)(hc:X.calm=false) :
  A3 X g st { a with defers:={ target:=.collected D,args:=#[] }::a.defers } w:=by
 obtain⟨rs,h1,h2,h3⟩:=h.marks;refine⟨h.size,h.env,h.rows,h.disj,h.ownimm,h.immlt,h.immsub,h.immsup,h.below,⟨D::rs,?_,by rw[h2];rfl,λr hr=>?_⟩,h.obs,⟨h.big.1,λq=>(by rw[hc] at q;cases q)⟩,h.maps⟩
 .refine zaq.2 ⟨λhr=>?_,h1⟩;exact hn { target:=.collected D,args:=#[] } (by rw[h2];exact zI.2 ⟨D,hr,rfl⟩) rfl
 .rcases zJ.1 hr with rfl | hr
  .exact⟨hD,hb⟩
  .exact h3 r hr
theorem A3.LH(h:A3 X g st a w):∀d∈a.defers,∀r,d.target = .collected r->r<w.heap.size:=by
 obtain⟨rs,_,h2,h3⟩:=h.marks;intro d hd r hr;rw[h2] at hd;obtain⟨k,hk,rfl⟩:=zI.1 hd;cases hr;exact (wl.1 (h3 _ hk).1).1
theorem A3.watch(h:A3 X g st a w){l:Nat}{o:Obj}(hl:w.heap[l]? = some o)(hc:o.isCells=false)(hm:br o=false:=by rfl):A3 { X with obs:=(l,o)::X.obs } g st a w:=
 ⟨h.size,h.env,h.rows,h.disj,h.ownimm,h.immlt,h.immsub,h.immsup,h.below,h.marks,λp hp=>by
  rcases zJ.1 hp with rfl | hp
  .exact⟨hl,hc,hm⟩
  .exact h.obs p hp,h.big,h.maps⟩
end
end Go.Pw
namespace Go.Pw
open Go.RowKit Go.Sh
section
variable{X:Ctx}{Q:PX->Ctx->St->Prop}{st:St}{ops:Array Oper}{i:Nat}{os:List Oper}{K:Ctx->St->Prop}{env:Nat->PV}{σ:Nat->Option Row}{ty:TypeId}{pos:String}{after:Array Edge}{gd:Option (Nat × Bool)}{op:Op}{t:Tmp}{d:PV}
theorem y0(hw:B1 ops env ⟨some t,op,ty,pos,after,gd⟩=some true)(h:B9 X.P σ (y5 env) (some t) op d .none)(k:Sq X ops (i+1) os K ⟨w7 env t d,σ⟩):Sq X ops i (⟨some t,op,ty,pos,after,gd⟩::os) K ⟨env,σ⟩:=
 mG (.run d .none hw h ⟨E6.refl _,E1.refl _⟩ trivial (λ_=>rfl) (λq=>nomatch q)) k
theorem y1{r:Row}(hw:B1 ops env ⟨some t,op,ty,pos,after,gd⟩=some true)(h:B9 X.P σ (y5 env) (some t) op d (.new t r))(hf:σ t=none)(k:Sq X ops (i+1) os K ⟨w7 env t d,w7 σ t (some r)⟩):Sq X ops i (⟨some t,op,ty,pos,after,gd⟩::os) K ⟨env,σ⟩:=
 mG (.run d (.new t r) hw h ⟨E6.refl _,E1.refl _⟩ hf (λq=>nomatch q) (λq=>nomatch q)) k
theorem cc(hw:B1 ops env ⟨some t,op,ty,pos,after,gd⟩=some false)(k:Sq X ops (i+1) os K ⟨w7 env t (.tup []),σ⟩):Sq X ops i (⟨some t,op,ty,pos,after,gd⟩::os) K ⟨env,σ⟩:=mG (.skip hw) k
theorem NW.ex{P:Program}{bar:List Nat}{o:Oper}{s:St}{K:St->Prop}(h:NW P ops true (kept bar) (cls bar i o.op) o st s)(k:Ex P ops bar true (i+1) os s K):Ex P ops bar true i (o::os) st K:=⟨s,h,k⟩
theorem p9{g:Bool}(hw:B1 ops env ⟨some t,op,ty,pos,after,gd⟩=some g)(h:g=true->B9 X.P σ (y5 env) (some t) op d .none)(k:Sq X ops (i+1) os K ⟨w7 env t (cond g d (.tup [])),σ⟩):Sq X ops i (⟨some t,op,ty,pos,after,gd⟩::os) K ⟨env,σ⟩:=by
 cases g;·exact cc hw k
 .exact y0 hw (h rfl) k
theorem Ny{ops:Array Oper}{env:Nat->PV}{o:Oper}{j u:Nat}{want g b:Bool}(hg:o.guard=some (j,want))(hd:(ops[j]?).bind (·.dst)=some u)(h:y5 env (.tmp u)=cond g (.bool b) (.tup [])):B1 ops env o=some (g&&(b==want)):=by
 unfold B1;rw[hg];simp only[hd,h];cases g <;> rfl
theorem oa{x y:Operand}{T:TypeId}{l q n:Nat}{x0 x' d:PV}{cs:List PV}{opn:Bool}{z:Nat}{cl cl':Bool}(hw:B1 ops env ⟨none,.store T x y,ty,pos,after,gd⟩=some true)(hx:y5 env x = .ptr l 0 q)(hy:y5 env y=d\/(y5 env y).w1=d)(hs:u0 X.P T=some n)(k:Sq X ops (i+1) os K ⟨env,w7 σ l (some ⟨[x'],0,opn,z,cl'⟩)⟩)(hl:σ l=some ⟨[x0],0,opn,z,cl⟩:=by rfl)
  (hc:d.cells=cs:=by rfl)(he:d.el=true:=by rfl)(hp:0<n:=by exact zD rfl)(hn:cs.length=n:=by rfl)(hf:q+n<=x0.cells.length:=by exact zD rfl)(hsc:cs.all PV.sc=true:=by rfl)(hset:G5 x0 q cs=x':=by rfl)(hcl:(cl&&cs.all PV.Z0)=cl':=by rfl) :
  Sq X ops i (⟨none,.store T x y,ty,pos,after,gd⟩::os) K ⟨env,σ⟩:=by
 subst hset;subst hcl;have h:B9 X.P σ (y5 env) none (.store T x y) (.tup []) (.sto l 0 q cs):=oJ hx hy hc he hs hp hn;have:=mG (X:=X) (K:=K) (os:=os) (i:=i) (ops:=ops) (st:=⟨env,σ⟩) (.run (.tup []) (.sto l 0 q cs) hw h ⟨E6.refl _,E1.refl _⟩ ⟨_,x0,hl,rfl,zq _,by rw[hn];exact hf,hsc⟩ (λq=>nomatch q) (λq=>nomatch q));refine this ?_;simp only[U1.apply,hl];exact k
theorem pT{α:Type}{f:α->PV}{xs:List α}{e v:α}{m:Int}{x y:Operand}{T:TypeId}{l q n:Nat}{d:PV}{cs:List PV}{opn:Bool}{z:Nat}(h:ix xs m=some e)(hw:B1 ops env ⟨none,.store T x y,ty,pos,after,gd⟩=some true)(hx:y5 env x = .ptr l m.toNat q)(hy:y5 env y=d\/(y5 env y).w1=d)(hs:u0 X.P T=some n)(k:Sq X ops (i+1) os K ⟨env,w7 σ l (some ⟨(xs.set m.toNat v).map f,0,opn,z,true⟩)⟩)(hl:σ l=some ⟨xs.map f,0,opn,z,true⟩:=by rfl)
  (hc:d.cells=cs:=by rfl)(he:d.el=true:=by rfl)(hp:0<n:=by exact zD rfl)(hn:cs.length=n:=by rfl)(hf:q+n<=(f e).cells.length:=by exact zD rfl)(hsc:cs.all PV.sc=true:=by rfl)(hset:G5 (f e) q cs=f v:=by rfl)(hcl:cs.all PV.Z0=true:=by rfl) :
  Sq X ops i (⟨none,.store T x y,ty,pos,after,gd⟩::os) K ⟨env,σ⟩:=by
 have h0:B9 X.P σ (y5 env) none (.store T x y) (.tup []) (.sto l m.toNat q cs):=oJ hx hy hc he hs hp hn;have hx0:=(ju f h).2;have:=mG (X:=X) (K:=K) (os:=os) (i:=i) (ops:=ops) (st:=⟨env,σ⟩) (.run (.tup []) (.sto l m.toNat q cs) hw h0 ⟨E6.refl _,E1.refl _⟩ ⟨_,f e,hl,hx0,t8 _,by rw[hn];exact hf,hsc⟩ (λq=>nomatch q) (λq=>nomatch q));refine this ?_;simp only[U1.apply,hl,hx0,hset,hcl,zak];rw[<-zbw];exact k
theorem bJ{s:Nat}{r q:Row}(hw:B1 ops env ⟨some t,op,ty,pos,after,gd⟩=some true)(h:B9 X.P σ (y5 env) (some t) op d (.app s t r))(hf:σ t=none)(hq:σ s=some q)(ho:q.opn=true)
  (k:Sq X ops (i+1) os K ⟨w7 env t d,w7 (w7 σ s (some ⟨q.els,q.els.length,false,q.z,q.cl⟩)) t (some r)⟩):Sq X ops i (⟨some t,op,ty,pos,after,gd⟩::os) K ⟨env,σ⟩:=by
 have:=mG (X:=X) (K:=K) (os:=os) (i:=i) (ops:=ops) (st:=⟨env,σ⟩) (.run d (.app s t r) hw h ⟨E6.refl _,E1.refl _⟩ ⟨hf,q,hq,ho⟩ (λq=>nomatch q) (λq=>nomatch q));refine this ?_;simp only[U1.apply,hq];exact k
theorem yc(hw:B1 ops env ⟨some t,op,ty,pos,after,gd⟩=some true)(h:B9 X.P σ (y5 env) (some t) op d (.mo []))(k:Sq X ops (i+1) os K ⟨w7 env t d,σ⟩):Sq X ops i (⟨some t,op,ty,pos,after,gd⟩::os) K ⟨env,σ⟩:=
 mG (.run d (.mo []) hw h ⟨E6.refl _,E1.refl _⟩ trivial (λq=>nomatch q) (λq=>nomatch q)) k
theorem VA{ls:List Nat}{σ':Nat->Option Row}(hw:B1 ops env ⟨some t,op,ty,pos,after,gd⟩=some true)(h:B9 X.P σ (y5 env) (some t) op d (.mo ls))(hs:Q2 σ ls=σ')(k:Sq X ops (i+1) os K ⟨w7 env t d,σ'⟩):Sq X ops i (⟨some t,op,ty,pos,after,gd⟩::os) K ⟨env,σ⟩:=by
 subst hs;exact mG (.run d (.mo ls) hw h ⟨E6.refl _,E1.refl _⟩ trivial (λq=>nomatch q) (λq=>nomatch q)) k
theorem VB{ls:List Nat}{σ':Nat->Option Row}{r:Row}(hw:B1 ops env ⟨some t,op,ty,pos,after,gd⟩=some true)(h:B9 X.P σ (y5 env) (some t) op d (.frzN ls t r))(hf:σ t=none)(hs:Q2 σ ls=σ')(k:Sq X ops (i+1) os K ⟨w7 env t d,w7 σ' t (some r)⟩):Sq X ops i (⟨some t,op,ty,pos,after,gd⟩::os) K ⟨env,σ⟩:=by
 subst hs;exact mG (.run d (.frzN ls t r) hw h ⟨E6.refl _,E1.refl _⟩ hf (λq=>nomatch q) (λq=>nomatch q)) k
theorem Xe{l:Nat}{ys es:List PV}{q:Row}(hw:B1 ops env ⟨some t,op,ty,pos,after,gd⟩=some true)(h:B9 X.P σ (y5 env) (some t) op d (.uB l ys))(hl:σ l=some q)(hlo:q.lo=0)(hn:ys.length<=q.els.length)(he:ys++q.els.drop ys.length=es)
  (k:Sq X ops (i+1) os K ⟨w7 env t d,w7 σ l (some ⟨es,q.lo,q.opn,q.z,q.cl⟩)⟩):Sq X ops i (⟨some t,op,ty,pos,after,gd⟩::os) K ⟨env,σ⟩:=by
 have:=mG (X:=X) (K:=K) (os:=os) (i:=i) (ops:=ops) (st:=⟨env,σ⟩) (.run d (.uB l ys) hw h ⟨E6.refl _,E1.refl _⟩ ⟨q,hl,hlo,hn⟩ (λq=>nomatch q) (λq=>nomatch q));refine this ?_;subst he;simp only[U1.apply,hl];exact k
end
section
variable{P:Program}{ops:Array Oper}{bar:List Nat}{i:Nat}{os:List Oper}{K:St->Prop}{env:Nat->PV}{σ:Nat->Option Row}{ty:TypeId}{pos:String}{after:Array Edge}{gd:Option (Nat × Bool)}{op:Op}{t:Tmp}{d:PV}
theorem bC(h:K ⟨env,σ⟩):Ex P ops bar true i [] ⟨env,σ⟩ K:=h
theorem d7(hw:B1 ops env ⟨some t,op,ty,pos,after,gd⟩=some true)(h:∀σ',E1 (kept bar) σ σ'->B9 P σ' (y5 env) (some t) op d .none)(h7:cls bar i op=7)(k:Ex P ops bar true (i+1) os ⟨w7 env t d,σ⟩ K) :
  Ex P ops bar true i (⟨some t,op,ty,pos,after,gd⟩::os) ⟨env,σ⟩ K:=x7 hw h h7 k
theorem d0(hw:B1 ops env ⟨some t,op,ty,pos,after,gd⟩=some true)(h:B9 P σ (y5 env) (some t) op d .none)(hc:cls bar i op=0)(k:Ex P ops bar true (i+1) os ⟨w7 env t d,σ⟩ K) :
  Ex P ops bar true i (⟨some t,op,ty,pos,after,gd⟩::os) ⟨env,σ⟩ K:=x0 hw h (λ_=>by rw[hc];rfl) k
theorem d2(hw:B1 ops env ⟨some t,op,ty,pos,after,gd⟩=some true)(h:B9 P σ (y5 env) (some t) op d .none)(hc:cls bar i op=2)(k:Ex P ops bar true (i+1) os ⟨w7 env t d,σ⟩ K) :
  Ex P ops bar true i (⟨some t,op,ty,pos,after,gd⟩::os) ⟨env,σ⟩ K:=x0 hw h (λ_=>by rw[hc];exact .inl rfl) k
theorem d5(hw:B1 ops env ⟨some t,op,ty,pos,after,gd⟩=some true)(h:B9 P σ (y5 env) (some t) op d .none)(hc:cls bar i op=5)(k:Ex P ops bar true (i+1) os ⟨w7 env t d,σ⟩ K) :
  Ex P ops bar true i (⟨some t,op,ty,pos,after,gd⟩::os) ⟨env,σ⟩ K:=x0 hw h (λ_=>by rw[hc];exact .inl rfl) k
theorem mK(hw:B1 ops env ⟨some t,op,ty,pos,after,gd⟩=some true)(h:B9 P σ (y5 env) (some t) op d (.mo []))(hc:cls bar i op=2)(k:Ex P ops bar true (i+1) os ⟨w7 env t d,σ⟩ K) :
  Ex P ops bar true i (⟨some t,op,ty,pos,after,gd⟩::os) ⟨env,σ⟩ K:=Xd hw h (λ_=>by rw[hc];exact .inr (.inl rfl)) k
theorem Yq{ls:List Nat}{σ':Nat->Option Row}(hw:B1 ops env ⟨some t,op,ty,pos,after,gd⟩=some true)(h:B9 P σ (y5 env) (some t) op d (.mo ls))(hs:Q2 σ ls=σ')(hc:cls bar i op=5)(k:Ex P ops bar true (i+1) os ⟨w7 env t d,σ'⟩ K) :
  Ex P ops bar true i (⟨some t,op,ty,pos,after,gd⟩::os) ⟨env,σ⟩ K:=by
 subst hs;exact⟨_,.run d (.mo ls) hw h ⟨E6.refl _,E1.refl _⟩ trivial (λ_=>rfl) (λ_=>by rw[hc];exact .inr (.inl ⟨_,rfl⟩)),k⟩
theorem d1{r:Row}(hw:B1 ops env ⟨some t,op,ty,pos,after,gd⟩=some true)(h:B9 P σ (y5 env) (some t) op d (.new t r))(hf:σ t=none)(ht:(U1.new t r).off (kept bar)=true)(hc:cls bar i op=1)(k:Ex P ops bar true (i+1) os ⟨w7 env t d,w7 σ t (some r)⟩ K) :
  Ex P ops bar true i (⟨some t,op,ty,pos,after,gd⟩::os) ⟨env,σ⟩ K:=x1 hw h hf (λ_=>ht) (λ_=>by rw[hc];exact .inr ⟨_,_,rfl⟩) k
theorem XI(hw:B1 ops env ⟨some t,op,ty,pos,after,gd⟩=some true)(h:B9 P σ (y5 env) (some t) op d .none)(hc:cls bar i op=1)(k:Ex P ops bar true (i+1) os ⟨w7 env t d,σ⟩ K) :
  Ex P ops bar true i (⟨some t,op,ty,pos,after,gd⟩::os) ⟨env,σ⟩ K:=x0 hw h (λ_=>by rw[hc];exact .inl rfl) k
theorem d3{r:Row}(hw:B1 ops env ⟨some t,op,ty,pos,after,gd⟩=some true)(h:B9 P σ (y5 env) (some t) op d (.new t r))(hf:σ t=none)(ht:(U1.new t r).off (kept bar)=true)(hc:cls bar i op=3)(k:Ex P ops bar true (i+1) os ⟨w7 env t d,w7 σ t (some r)⟩ K) :
  Ex P ops bar true i (⟨some t,op,ty,pos,after,gd⟩::os) ⟨env,σ⟩ K:=x1 hw h hf (λ_=>ht) (λ_=>by rw[hc];exact .inl ⟨_,_,rfl⟩) k
theorem Ym{s:Nat}{r q:Row}(hw:B1 ops env ⟨some t,op,ty,pos,after,gd⟩=some true)(h:B9 P σ (y5 env) (some t) op d (.app s t r))(hf:σ t=none)(hq:σ s=some q)(ho:q.opn=true)(ht:(U1.app s t r).off (kept bar)=true)(hc:cls bar i op=3)
  (k:Ex P ops bar true (i+1) os ⟨w7 env t d,w7 (w7 σ s (some ⟨q.els,q.els.length,false,q.z,q.cl⟩)) t (some r)⟩ K) :
  Ex P ops bar true i (⟨some t,op,ty,pos,after,gd⟩::os) ⟨env,σ⟩ K:=Xc hw h hf hq ho (λ_=>ht) (λ_=>by rw[hc];exact .inr ⟨_,_,_,rfl⟩) k
theorem qO{g:Bool}(hw:B1 ops env ⟨some t,op,ty,pos,after,gd⟩=some g)(h:g=true->∀σ',E1 (kept bar) σ σ'->B9 P σ' (y5 env) (some t) op d .none)(hc:cls bar i op=7)(k:Ex P ops bar true (i+1) os ⟨w7 env t (cond g d (.tup [])),σ⟩ K) :
  Ex P ops bar true i (⟨some t,op,ty,pos,after,gd⟩::os) ⟨env,σ⟩ K:=by
 cases g;·exact NH hw k
 .exact x7 hw (h rfl) hc k
theorem yv{g:Bool}(hw:B1 ops env ⟨some t,op,ty,pos,after,gd⟩=some g)(h:g=true->B9 P σ (y5 env) (some t) op d .none)(hc:cls bar i op=0)(k:Ex P ops bar true (i+1) os ⟨w7 env t (cond g d (.tup [])),σ⟩ K) :
  Ex P ops bar true i (⟨some t,op,ty,pos,after,gd⟩::os) ⟨env,σ⟩ K:=by
 cases g;·exact NH hw k
 .exact d0 hw (h rfl) hc k
theorem E2{x y:Operand}{T:TypeId}{l q n:Nat}{x0 x' d:PV}{cs:List PV}{opn:Bool}{z:Nat}{cl cl':Bool}(hw:B1 ops env ⟨none,.store T x y,ty,pos,after,gd⟩=some true)(hx:y5 env x = .ptr l 0 q)(hy:y5 env y=d\/(y5 env y).w1=d)(hs:u0 P T=some n)(k:Ex P ops bar true (i+1) os ⟨env,w7 σ l (some ⟨[x'],0,opn,z,cl'⟩)⟩ K)(hl:σ l=some ⟨[x0],0,opn,z,cl⟩:=by rfl)
  (hc:d.cells=cs:=by rfl)(he:d.el=true:=by rfl)(hp:0<n:=by exact zD rfl)(hn:cs.length=n:=by rfl)(hf:q+n<=x0.cells.length:=by exact zD rfl)(hsc:cs.all PV.sc=true:=by rfl)(hset:G5 x0 q cs=x':=by rfl)(hcl:(cl&&cs.all PV.Z0)=cl':=by rfl)(ht:(U1.sto l 0 q cs).off (kept bar)=true:=by rfl)(h4:cls bar i (.store T x y)=4:=by rfl):Ex P ops bar true i (⟨none,.store T x y,ty,pos,after,gd⟩::os) ⟨env,σ⟩ K:=
 Sg hw (oJ hx hy hc he hs hp hn) hl rfl (zq _) (by rw[hn];exact hf) hsc hcl hset rfl (λ_=>ht) (λ_=>by rw[h4];trivial) k
end
section
variable{X:Ctx}{Q:PX->Ctx->St->Prop}{st:St}
theorem UA{J R:Type}{x y:Code}{κ:J->Option R}{r:R}(F:J->St)(hk:∀j,κ j=some r->X4 X y Q (F j))(hx:X4 X x (jb (λX' s=>X'=X/\∃j,κ j=some r/\Wk s (F j)) Q) st):X4 X (.seq x y) Q st:=
 l5 (hx.mono λe X' s q=>by
  cases e <;> simp only[jb] at q |- <;> first | exact q | (
   obtain⟨rfl,j,h1,h2⟩:=q;exact cy h2 (hk j h1)))
theorem WN{S E:Type}{f:S->Option (S ⊕ E)}{s0:S}{e:E}{c:Code}(I:S->Ctx->St->Prop)(h:lp f s0=some e)(h0:∃st1,Wk st st1/\I s0 X st1)(hX:∀s X1 s1,I s X1 s1->X1.P=X.P/\X1.ρ=X.ρ)
  (hr:∀s X1 s1,I s X1 s1->∀x,f s=some x->(∀e',x = .inr e'->e'=e)->X4 X1 c (jb (λX' s'=>∃s2,x = .inl s2/\∃s'',Wk s' s''/\I s2 X' s'') Q) s1):X4 X (.loop c) Q st:=by
 intro n g a w hs;let J:Nat->Act->World->Prop:=λm a w=>∃s X1 g1 s1,A3 X1 g1 s1 a w/\I s X1 s1/\Lz f m s=some e
 have least:∀a w,∃k,(∃m,J m a w)->J k a w/\∀m,J m a w->k<=m:=by
  intro a w;by_cases q:∃m,J m a w
  .obtain⟨k,h1,h2⟩:=exists_least q;exact⟨k,λ_=>⟨h1,h2⟩⟩
  .exact⟨0,λh=>absurd h q⟩
 obtain⟨st1,hw1,hi1⟩:=h0;obtain⟨g1,hs1⟩:=hw1 X g a w hs;refine wpIn_loop (λa w=>∃m,J m a w) (λa w=>Classical.choose (least a w)) ⟨_,s0,X,g1,st1,hs1,hi1,by rw[<-Da];exact h⟩ ?_;rintro a w hI;obtain⟨⟨s,X1,g1,s1,k1,k2,k3⟩,_⟩:=zat (least a w) hI;generalize hm:Classical.choose (least a w)=m at k3 |-;obtain⟨hP,hρ⟩:=hX s X1 s1 k2;cases m with
 | zero=>rw[wy] at k3;cases k3
 | succ m=>
  rw[jM] at k3;cases hf:f s with
  | none=>rw[hf] at k3;cases k3
  | some x=>
   have hx:∀e',x = .inr e'->e'=e:=λe' q=>by
    rw[hf,q] at k3;exact u8 k3
   have:=hr s X1 s1 k2 x hf hx n g1 a w k1;rw[hP,hρ] at this;refine zbr this λex a' w' q=>?_;rw[rn ⟨hP,hρ⟩] at q;cases ex <;> simp only[lift,jb,Exit.then] at q |- <;> first | exact q | skip
   obtain⟨X',g',st',h1,_,s2,hx2,s'',hw2,h2⟩:=q;obtain⟨g2,h1'⟩:=hw2 X' g' a' w' h1;have hJ:J m a' w':=⟨s2,X',g2,s'',h1',h2,by rw[hf,hx2] at k3;exact k3⟩;have hI':∃m,J m a' w':=⟨m,hJ⟩;exact⟨hI',Nat.lt_succ_of_le ((zat (least a' w') hI').2 m hJ)⟩
theorem UD{S E:Type}{f:S->Option (S ⊕ E)}{s0:S}{e:E}{c:Code}(F:S->St)(h:lp f s0=some e)(h0:Wk st (F s0))
  (hr:∀s x,f s=some x->(∀e',x = .inr e'->e'=e)->X4 X c (jb (λX' s'=>X'=X/\∃s2,x = .inl s2/\Wk s' (F s2)) Q) (F s)):X4 X (.loop c) Q st:=
 WN (λs X1 s1=>X1=X/\s1=F s) h ⟨_,h0,rfl,rfl⟩ (λs X1 s1 q=>by rw[q.1];exact⟨rfl,rfl⟩) (by
  rintro s _ _ ⟨rfl,rfl⟩ x hf hx;refine (hr s x hf hx).mono λex X' s' q=>?_;cases ex <;> simp only[jb] at q |- <;> first | exact q | (
   obtain⟨h1,s2,h2,h3⟩:=q;exact⟨s2,h2,_,h3,h1,rfl⟩))
end
end Go.Pw
namespace Go.Pw
open Go.RowKit Go.Sh
abbrev Ls{α:Type}(f:α->PV)(l:List α):PV:=.G8 false (l.map f)
abbrev _root_.Go.Sh.A4.Pc(x:A4):List PV:=[.int .i64 x.a,.int .i64 x.b,.int .i64 x.c,.int .i64 x.d]
abbrev _root_.Go.Sh.A4.Pv(x:A4):PV:=.agg x.Pc
theorem A4.get{x:A4}{i v:Int}(h:A4.ix x i=some v):x.Pc[0+i.toNat*1]? = some (.int .i64 v):=by
 have:=(ju (PV.int .i64) h).2;rw[zab,zbx];exact this
section
variable{P:Program}{σ:Nat->Option Row}{ρ:Operand->PV}{dst:Option Tmp}
theorem Us{c a b:Operand}{x:Bool}(hc:ρ c = .bool x)(ha:ρ a = .bool true)(hg:(x==false)=false):B9 P σ ρ dst (.pick c a b) (.bool true) .none:=by
 have:=B9.pick (P:=P) (σ:=σ) (dst:=dst) c a b x hc;rw[ha] at this;cases x;·cases hg
 .exact this
theorem oK{c a b:Operand}{x:Bool}(hc:ρ c = .bool x)(hb:ρ b = .bool false)(hg:(x==true)=false):B9 P σ ρ dst (.pick c a b) (.bool false) .none:=by
 have:=B9.pick (P:=P) (σ:=σ) (dst:=dst) c a b x hc;rw[hb] at this;cases x;·exact this
 .cases hg
theorem lE{c a b:Operand}{x y:Bool}(hc:ρ c = .bool x)(ha:ρ a = .bool y)(hg:(x==true)=true):B9 P σ ρ dst (.pick c a b) (.bool y) .none:=by
 have:=B9.pick (P:=P) (σ:=σ) (dst:=dst) c a b x hc;rw[ha] at this;cases x;·cases hg
 .exact this
theorem Ut{c a b:Operand}{x y:Bool}(hc:ρ c = .bool x)(hb:ρ b = .bool y)(hg:(x==false)=true):B9 P σ ρ dst (.pick c a b) (.bool y) .none:=by
 have:=B9.pick (P:=P) (σ:=σ) (dst:=dst) c a b x hc;rw[hb] at this;cases x;·exact this
 .cases hg
theorem RN{x:A4}{i v:Int}{a b:Operand}{T E:TypeId}{l:Nat}{k:IntKind}(h:A4.ix x i=some v)(hx:ρ a = .ptr l 0 0)(hy:ρ b = .int k i)(hE:Cc P T=some (4,E))(hz:u0 P E=some 1) :
  B9 P σ ρ dst (.indexAddr T a b) (.ptr l 0 (0+i.toNat*1)) .none:=by
 obtain⟨h0,h1⟩:=wm h;have hlt:=(zx.1 h1).1;simp only[A4.l,zl,zW] at hlt;exact .idxA T a b l 0 0 k i 4 E 1 hx hy h0 (by omega) hE hz
section
variable{w:World}{imm:Nat->Nat->Prop}{μ:Nat->H6}{p7:Nat->Prop}
end
theorem four{α:Type}{xs:List α}(h:xs.length=4):∃a b c d,xs = [a,b,c,d]:=by
 rcases xs with _ | ⟨a,_ | ⟨b,_ | ⟨c,_ | ⟨d,_ | ⟨e,l⟩⟩⟩⟩⟩ <;> simp at h
 exact⟨a,b,c,d,rfl⟩
end
section
variable{X:Ctx}{ops:Array Oper}{i:Nat}{os:List Oper}{K:Ctx->St->Prop}{env:Nat->PV}{σ:Nat->Option Row}{ty:TypeId}{pos:String}{after:Array Edge}{gd:Option (Nat × Bool)}{t:Tmp}
theorem QN{x:A4}{i v:Int}{w:Int}(h:A4.ix x i=some w):G5 x.Pv (0+i.toNat*1) [.int .i64 v]=(A4.st x i v).Pv:=by
 obtain⟨h0,h1⟩:=wm h;have hlt:=(zx.1 h1).1;simp only[A4.l,zl,zW] at hlt;rw[zab,zbx];obtain⟨k,hk⟩:∃k,i.toNat=k:=⟨_,rfl⟩;unfold A4.st;rw[hk] at hlt |-;match k,hlt with
 | 0,_=>rfl
 | 1,_=>rfl
 | 2,_=>rfl
 | 3,_=>rfl
theorem Xh{x0:A4}{m v v0:Int}{x y:Operand}{T:TypeId}{l:Nat}{opn:Bool}{z:Nat}{cl:Bool}(h:A4.ix x0 m=some v0)(hw:B1 ops env ⟨none,.store T x y,ty,pos,after,gd⟩=some true)(hx:y5 env x = .ptr l 0 (0+m.toNat*1))(hy:y5 env y = .int .i64 v\/(y5 env y).w1 = .int .i64 v)(hl:σ l=some ⟨[x0.Pv],0,opn,z,cl⟩)
  (hs:u0 X.P T=some 1)(k:Sq X ops (i+1) os K ⟨env,w7 σ l (some ⟨[(A4.st x0 m v).Pv],0,opn,z,cl⟩)⟩):Sq X ops i (⟨none,.store T x y,ty,pos,after,gd⟩::os) K ⟨env,σ⟩:=by
 obtain⟨h0,h1⟩:=wm h;have hlt:=(zx.1 h1).1;simp only[A4.l,zl,zW] at hlt;have hle:(0+m.toNat*1)+1<=x0.Pv.cells.length:=by
  show 0+m.toNat*1+1<=4;omega
 exact oa hw hx hy hs k hl rfl rfl (zD rfl) rfl hle rfl (QN h) (by cases cl <;> rfl)
theorem Vp{α:Type}{f:α->PV}{xs ys zs:List α}{x y:Operand}{T U E:TypeId}{l z:Nat}{opn:Bool}(h:uB xs ys=some zs)(hw:B1 ops env ⟨some t,.call { callee:=.builtin .copy,args:=#[x,y],argTypes:=#[T,U] },ty,pos,after,gd⟩=some true)
  (hx:y5 env x = .sl l)(hl:σ l=some ⟨xs.map f,0,opn,z,true⟩)(hy:Src σ (y5 env y) (ys.map f) true)(hE:B0 X.P T=some E)(hz:u0 X.P E=some z)(hel:∀e,(f e).cells.length=z)(hzp:0<z)
  (k:Sq X ops (i+1) os K ⟨w7 env t (.int .i64 ys.length),w7 σ l (some ⟨zs.map f,0,opn,z,true⟩)⟩):Sq X ops i (⟨some t,.call { callee:=.builtin .copy,args:=#[x,y],argTypes:=#[T,U] },ty,pos,after,gd⟩::os) K ⟨env,σ⟩:=by
 obtain⟨h1,rfl⟩:=Kx h;have e1:((ys.map f).length:Int)=ys.length:=by simp
 refine Xe (l:=l) (q:=⟨xs.map f,0,opn,z,true⟩) (ys:=ys.map f) (es:=(ys++xs.drop ys.length).map f) hw (Ug (n:=ys.length) hx hl rfl hy hE hz rfl (λe he=>by obtain⟨a,_,rfl⟩:=zI.1 he;exact hel a) (by simpa using h1) hzp e1) hl rfl (by simpa using h1) (by simp[List.map_drop]) k
end
theorem Cm{X:Ctx}{ops:Array Oper}{i:Nat}{os:List Oper}{K:Ctx->St->Prop}{env:Nat->PV}{σ:Nat->Option Row}{ty ty' T E:TypeId}{pos:String}{after:Array Edge}{t:Tmp}{x:Operand}{xs:List PV}{q:Bool}
  (hx:y5 env x = .G8 q xs)(hE:B0 X.P T=some E)(k:∀b:Bool,(b=true->xs = [])->Sq X ops (i+1) os K ⟨w7 env t (.bool b),σ⟩) :
  Sq X ops i (⟨some t,.binOp .eql T x (.const (.slice none 0 0)) ty',ty,pos,after,none⟩::os) K ⟨env,σ⟩:=λhd hi n g a w Qo hs hq=>by
 have ho:ops[i]? = some ⟨some t,.binOp .eql T x (.const (.slice none 0 0)) ty',ty,pos,after,none⟩:=by have:=hi 0;simpa using this.symm
 have e:List.range' i ((⟨some t,.binOp .eql T x (.const (.slice none 0 0)) ty',ty,pos,after,none⟩:Oper)::os).length=i::List.range' (i+1) os.length:=rfl;have hv:=hs.eval x;rw[hx] at hv;obtain⟨A,c,z,u,e1,h1,_,h3,_⟩:=hv.fS;rw[e,wpOpsIn_cons];unfold wpOpIn;rw[ho];simp only;rw[zb (by rfl)];have hu:=K8 hE;have hrun:(binOp .eql T (a.eval x) (.slice none 0 0)).run X.P w = .ok (.bool A.isNone) w:=by
  rw[e1];have e2:(binOp .eql T (.slice A xs.length c) (.slice none 0 0):Sem Value)=(do pure (.bool (<-Op.equal T (.slice A xs.length c) (.slice none 0 0)))):=rfl;rw[e2,zp];have e3:(Op.equal T (.slice A xs.length c) (.slice none 0 0)).run X.P w = .ok A.isNone w:=by
   have:Op.maxDepth=9999+1:=rfl;unfold Op.equal;rw[this,Op.equalIn,zp,zO hu];cases A <;> rfl
  rw[e3];rfl
 refine D2 (λc q=>by cases q) (v:=.bool A.isNone) (w':=w) ?_ ?_
 .simp only[execOp];have e4:a.eval (.const (.slice none 0 0)) = .slice none 0 0:=rfl;rw[e4];refine F0 ?_;have hg:(eqGuard .eql T x (.const (.slice none 0 0)) (a.eval x) (.slice none 0 0)).run X.P w = .ok () w:=by
   rw[e1];exact yY (v:=.slice A xs.length c) ⟨λcs q=>(by cases q),λq=>(by cases q)⟩
  rw[zp,hg,zh,hrun]
 .refine k A.isNone (λq=>?_) hd (λj=>by have:=hi (j+1);simpa[so,za6 1 j] using this) n g _ w Qo (hs.put (F4 hd ho) (.cl (.bool _))) hq;cases A with
  | none=>have:=h3 rfl;exact zG (by omega)
  | some _=>cases q
theorem Sf{s:St}(t:Nat)(ok:(s.env t).ky s.σ=true):Wk s ⟨w7 s.env t ((s.env t).vw s.σ),Q2 s.σ ((s.env t).L0 s.σ)⟩:=λX g a w h=>by
 obtain⟨imm',h1,h2,h3⟩:=h.Q2 ((s.env t).L0 s.σ);have hv:=h.view h2 (h.env t) ok h3;refine⟨⟨imm',g.μ⟩,⟨h1.size,λi=>?_,h1.rows,h1.disj,h1.ownimm,h1.immlt,h1.immsub,h1.immsup,h1.below,h1.marks,h1.obs,h1.big,h1.maps⟩⟩;by_cases q:i=t
 .subst q;rw[show (St.mk (w7 s.env i ((s.env i).vw s.σ)) (Q2 s.σ ((s.env i).L0 s.σ))).env i=(s.env i).vw s.σ from o8 _ _ _];exact .cl hv.w2
 .rw[show (St.mk (w7 s.env t ((s.env t).vw s.σ)) (Q2 s.σ ((s.env t).L0 s.σ))).env i=s.env i from o5 _ _ q];exact h1.env i
end Go.Pw
namespace Go.Pw
open Go.RowKit Go.Sh
def nF(fn:FuncId)(tmps:Array Value)(ps:Array Tmp)(assign body:Code)(D:Nat):Loop:=
 { state:=.ready,pending:=none,fn:=fn,tmps:=tmps,params:=ps,assign:=assign,body:=body,defers:=D }
structure Xj (X:Ctx) (N0:Nat) (ps:Array Tmp) (assign body:Code) (l:Nat):Prop where
 is:∃(tm:Array Value) (fn:FuncId) (D:Nat) (os:List (Nat × Obj)),X.obs=(l,.loop (nF fn tm ps assign body D))::os/\(∀p∈os,p.1≠l)/\tm.size=N0/\∀i,i<1000000->X.ext (i+1000000)=tm.getD i undef
 lo:X.w0.heap.size<=l
def Ru(c:Code):List (Nat × Obj)->List (Nat × Obj)
 | (l,.loop r)::os=>(l,.loop { r with state:=.done,pending:=some c })::os
 | os=>os
def Ctx.done(X:Ctx)(c:Code):Ctx:={ X with obs:=Ru c X.obs }
def CX(Q:PX->Ctx->St->Prop):Code->Ctx->St->Prop
 | .ret,X,s=>Q .ret X s
 | .exit id,X,s=>Q (.exit id) X s
 | _,_,_=>False
def Rz(X Y:Ctx)(Q:PX->Ctx->St->Prop):PX->Ctx->St->Prop
 | .normal,X',s | .ret,X',s=>(X'=Y/\Q .normal X ⟨lF s.env,s.σ⟩)\/∃c,X'=Y.done c/\CX Q c X ⟨lF s.env,s.σ⟩
 | _,_,_=>False
theorem pQ{P:Program}{f:FuncId}{fn:Func}{c:Code}(h1:P.funcs[f]? = some fn)(h2:fn.body=some c)(h3:fn.name ≠ "runtime.NumGoroutine")(args:Array Value)(w:World) :
  (callFunc f args).run P w = .ok (.enter f args) w:=by
 have hne:(fn.name == "runtime.NumGoroutine")=false:=by simpa using h3
 simp only[callFunc,program,Sem.run,zp,zh,h1,hne,h2];simp
theorem tI{P:Program}{a:Act}{g:Operand}{gf:FuncId}{lb:Array Value}(hg:a.eval g = .func (.func gf) #[] lb)(l:Nat)(w:World) :
  (resolve a.eval (rangeCall g l) 0).run P w = .ok { target:=.fn (.func gf) lb,args:=#[.func (.yield l) #[] #[]] } w:=by
 simp only[resolve,hg];simp[go_sem]
section
variable{X:Ctx}{Q:PX->Ctx->St->Prop}{st:St}
theorem HD{w:World}{imm:Nat->Nat->Prop}{μ:Nat->H6}{p7:Nat->Prop}{vs:Array Value}{ds:List PV}(hn:vs.size=ds.length)(h:∀(i:Nat) v d,vs[i]? = some v->ds[i]? = some d->Rd w imm μ p7 v d)(k:Nat)(i:Nat) :
  Rd w imm μ p7 ((vs++Array.replicate k undef).getD i undef) (L7 ds i):=by
 unfold L7;rw[zE,zf];rcases zB i vs.size with q | q
 .rw[pu q,zo q,zc (by rw[<-hn];exact q)];exact h i _ _ (zo q) (zc (by rw[<-hn];exact q))
 .rw[zac q,t7 (by rw[<-hn];exact q),zbj];split;·exact .cl (.tup #[] [] rfl λi v c _ hc=>by simp at hc)
  .exact .cl (.tup #[] [] rfl λi v c _ hc=>by simp at hc)
theorem results_none{fn:Func}(h:fn.results = #[])(tmps:Array Value)(P:Program)(w:World):(results fn tmps).run P w = .ok (.tuple #[]) w:=by
 rw[gX,h,Array.mapM_eq_mapM_toList];simp only[List.mapM_nil,<-bind_pure_comp];rfl
theorem dm{g:Operand}{ps:Array Tmp}{assign body:Code}{gf:FuncId}{fn:Func}{c:Code}{cap:List PV}{N1:Nat}(hg:y5 st.env g = .fn (.func gf) cap)(hf:X.P.funcs[gf]? = some fn)(hb:fn.body=some c)(hN:fn.ntmps=N1)(hn:1+cap.length<=N1)
  (hres:fn.results = #[])(hname':x8 X.P gf)(hρ:X.ρ=none)(hcalm:X.calm=false)
  (h:∀l e1 o1,Xj { P:=X.P,N:=N1,ρ:=none,w0:=X.w0,imm0:=X.imm0,ext:=e1,obs:=o1,calm:=true,tab:=X.tab } X.N ps assign body l ->
   X4 { P:=X.P,N:=N1,ρ:=none,w0:=X.w0,imm0:=X.imm0,ext:=e1,obs:=o1,calm:=true,tab:=X.tab } c (Rz X { P:=X.P,N:=N1,ρ:=none,w0:=X.w0,imm0:=X.imm0,ext:=e1,obs:=o1,calm:=true,tab:=X.tab } Q) ⟨pM (L7 (.fn (.yield l) []::cap)) st.env,st.σ⟩)
  (h6:N1<=1000000:=by exact zD rfl):X4 X (.rangeFunc g ps assign body) Q st:=by
 intro n g' a w hs;obtain⟨fn2,c2,hf2,_,hname⟩:=hname';rw[hf] at hf2;cases hf2;refine wpIn_rangeFunc λfid _=>?_;have hv:=hs.eval g;rw[hg] at hv;obtain⟨vs,e,hnv,hcap⟩:=gC hv;generalize hrec:nF fid a.tmps ps assign body w.heap.size=rec;have hrun1:(Instr.enterLoop fid a.tmps ps assign body (FX X.ρ).round).run X.P w = .ok (w.heap.size+1,[{ target:=.collected w.heap.size,args:=#[] }]) ((w.alloc (.deferred (some []))).alloc (.loop rec)):=by
  rw[hρ,<-hrec];exact run_enterLoop_outer fid a.tmps ps assign body
 have hinv:∀W:World,(invoke (.fn (.func gf) vs) #[.func (.yield (w.heap.size+1)) #[] #[]]).run X.P W = .ok (.enter gf (#[.func (.yield (w.heap.size+1)) #[] #[]]++vs)) W:=λW=>by
  simp only[invoke];exact pQ hf hb hname _ _
 refine⟨w.heap.size+1,_,_,_,_,gf,#[.func (.yield (w.heap.size+1)) #[] #[]]++vs,_,hrun1,tI e _ _,λ_ _=>trivial,hinv _,λq=>by simp[FX] at q,?_⟩;generalize hl:w.heap.size+1=l;have s1:=hs.alloc (.deferred (some []));have s2:=s1.alloc (.loop rec);have hz1:(w.alloc (.deferred (some []))).heap.size=w.heap.size+1:=World.size_alloc ..;have hD:((w.alloc (.deferred (some []))).alloc (.loop rec)).heap[w.heap.size]? = some (.deferred (some [])):=by
  rw[Below.heap_alloc _ _ _ (by rw[hz1];exact Nat.lt_succ_self _)];exact World.alloc_heap_new ..
 have hL:((w.alloc (.deferred (some []))).alloc (.loop rec)).heap[l]? = some (.loop rec):=by
  have:=World.alloc_heap_new (w.alloc (.deferred (some []))) (.loop rec);rw[hz1,hl] at this;exact this
 generalize hw2:(w.alloc (.deferred (some []))).alloc (.loop rec)=w2 at s2 hD hL |-;have s3:=s2.mark hD hs.below.size (λd hd q=>absurd (hs.LH d hd _ q) (zbz _)) hcalm;generalize ha':({ a with defers:={ target:=.collected w.heap.size,args:=#[] }::a.defers }:Act)=a' at s3;have ha2:({ a with defers:=[{ target:=.collected w.heap.size,args:=#[] }]++a.defers }:Act)=a':=ha';rw[ha2];have htm:a'.tmps=a.tmps:=by rw[<-ha']
 refine callsIn_of_wp_marks hf hb trivial ?_ hρ;have hyv:Rd w2 g'.imm g'.μ st.p7 (.func (.yield l) #[] #[]) (.fn (.yield l) []):=.cl (.fn (.yield l) #[] [] rfl λi v c _ hc=>by simp at hc);have hx2:Ext w g'.imm w2 g'.imm:=by
  rw[<-hw2];exact (Ext.alloc hs.immlt _).trans (Ext.alloc s1.immlt _)
 obtain⟨av,hav⟩:∃av:Array Value,av=(#[Value.func (.yield l) #[] #[]]++vs):=⟨_,rfl⟩;have hz:av.size=(PV.fn (.yield l) []::cap).length:=by rw[hav];simp[hnv];omega
 have hav0:av[0]? = some (Value.func (.yield l) #[] #[]):=by rw[hav,pu (by simp)];rfl
 have hav1:∀i,av[i+1]? = vs[i]? := λi=>by rw[hav,zac (by simp)];simp
 have hrd:∀(i:Nat) v d,av[i]? = some v->(PV.fn (.yield l) []::cap)[i]? = some d->Rd w2 g'.imm g'.μ st.p7 v d:=λi v d hv hd=>by
  cases i with
  | zero=>
   rw[hav0] at hv;cases hv;cases hd;exact hyv
  | succ i=>
   rw[hav1] at hv;exact (hcap i v d hv (by simpa using hd)).mono hx2 λ_ q=>⟨q,rfl⟩
 rw[<-hav];have s4:=s3.push (N:=N1) none (tmps:=av++Array.replicate (fn.ntmps-av.size) undef) (top:=L7 (.fn (.yield l) []::cap)) h6 (by
   simp only[zbt,Array.size_replicate];simp only[zl] at hz;omega) (λi _=>HD hz hrd _ i)
 have s5:=s4.watch hL rfl;generalize hY:({ X.over a' N1 none with obs:=(l,.loop rec)::(X.over a' N1 none).obs }:Ctx)=Y at s5;have hYe:Y={ P:=X.P,N:=N1,ρ:=none,w0:=X.w0,imm0:=X.imm0,ext:=Y.ext,obs:=Y.obs,calm:=true,tab:=X.tab }:=by
  rw[<-hY];simp only[Ctx.over]
 have hYx:∀i,Y.ext i=X.val a' (i-1000000):=λi=>by rw[<-hY];simp only[Ctx.over]
 have hYo:Y.obs=(l,.loop rec)::(iS a'.defers++X.obs):=by rw[<-hY];simp only[Ctx.over]
 have hos:∀p∈iS a'.defers++X.obs,p.1≠l:=by
  intro p hp q;have hlt:p.1<w.heap.size+1:=by
   rcases zw.1 hp with hp | hp
   .rw[<-ha'] at hp;obtain⟨rs,_,r2,r3⟩:=hs.marks;have e2:({ target:=.collected w.heap.size,args:=#[] }::a.defers:List Deferred)=(w.heap.size::rs).map λr=>{ target:=.collected r,args:=#[] }:=by rw[r2];rfl
    simp only[e2,iT] at hp;obtain⟨r,hr,rfl⟩:=zI.1 hp;rcases zJ.1 hr with rfl | hr
    .exact Nat.lt_succ_self _
    .exact Nat.lt_succ_of_lt (wl.1 (r3 r hr).1).1
   .exact Nat.lt_succ_of_lt (wl.1 (hs.obs p hp).1).1
  omega
 have hran:Xj Y X.N ps assign body l:=⟨⟨a.tmps,fid,w.heap.size,_,by rw[hYo,<-hrec],hos,hs.size,λi hi=>by
   rw[hYx,Nat.add_sub_cancel,Ctx.val,zb hi,htm]⟩,by
   rw[<-hY];have:=hs.below.size;show X.w0.heap.size<=l;omega⟩
 have hp:=h l Y.ext Y.obs (hYe▸hran);rw[<-hYe] at hp;have hp2:=hp (n-1) _ _ _ s5;have hYρ:Y.ρ=none:=by rw[hYe]
 have hYP:Y.P=X.P:=by rw[hYe]
 rw[hYρ,hYP] at hp2;rw[hρ];have hYu:{ Y with obs:=(X.over a' N1 none).obs }=X.over a' N1 none:=by rw[<-hY]
 refine zbr hp2 λex a1 w1 q=>?_;have key:∀X' g1 st1,A3 X' g1 st1 a1 w1->((X'=Y/\Q .normal X ⟨lF st1.env,st1.σ⟩)\/∃c,X'=Y.done c/\CX Q c X ⟨lF st1.env,st1.σ⟩)->LeavesInM (FX none) (n-1) X.P fn a1.tmps (rangePost (FX none) n X.P l (lift X Q) a') a1.defers .returning w1:=by
  intro X' g1 st1 hs1 hq;have hcal:X'.calm=true:=by
   rcases hq with ⟨rfl,_⟩ | ⟨c',rfl,_⟩;·rw[hYe]
   .rw[hYe];rfl
  rw[hs1.big.2 hcal];refine⟨_,results_none hres _ _ _,?_⟩;rcases hq with ⟨rfl,hq⟩ | ⟨c',rfl,hq⟩
  .have hh:=(hs1.obs (l,.loop rec) (by rw[hYo];exact zi ..)).1;refine⟨rec.pending,_,run_endLoop hh (by rw[<-hrec];simp[nF]),?_⟩;have t1:=hs1.QY (o':=.loop { rec with state:=.exhausted }) hh rfl rfl rfl hran.lo (λq=>by cases q) (obs:=(X.over a' N1 none).obs) (λp hp=>.inr ⟨hos p hp,by rw[hYo];exact zt _ hp⟩);rw[hYu] at t1;have t2:=s3.pop t1;have hpend:rec.pending=none:=by rw[<-hrec];rfl
   simp only[hpend] at t2 |-;exact⟨X,_,_,t2,⟨rfl,rfl⟩,hq⟩
  .have hdo:(Y.done c').obs=(l,.loop { rec with state:=.done,pending:=some c' })::(iS a'.defers++X.obs):=by
    show Ru c' Y.obs=_;rw[hYo];rfl
   have hh:=(hs1.obs (l,.loop { rec with state:=.done,pending:=some c' }) (by rw[hdo];exact zi ..)).1;refine⟨some c',_,run_endLoop hh (by simp),?_⟩;have t1:=hs1.QY (o':=.loop { rec with state:=.exhausted,pending:=some c' }) hh rfl rfl rfl hran.lo (λq=>by cases q) (obs:=(X.over a' N1 none).obs) (λp hp=>.inr ⟨hos p hp,by rw[hdo];exact zt _ hp⟩);have hYu2:{ Y.done c' with obs:=(X.over a' N1 none).obs }=X.over a' N1 none:=by rw[<-hYu];rfl
   rw[hYu2] at t1;have t2:=s3.pop t1;simp only;cases c' <;> simp only[CX] at hq <;> first | (exact hq.elim) | skip
   .exact wpIn_exit ⟨X,_,_,t2,⟨rfl,rfl⟩,hq⟩
   .exact wpIn_ret ⟨X,_,_,t2,⟨rfl,rfl⟩,hq⟩
 cases ex <;> simp only[lift,Rz,bodyPostM] at q |- <;> first
  | (obtain⟨X',g1,st1,h1,_,h2⟩:=q;exact key X' g1 st1 h1 h2)
  | (obtain⟨X',g1,st1,h1,_,h2⟩:=q;exact h2.elim)
  | exact q.elim
end
end Go.Pw
namespace Go.Pw
open Go.RowKit Go.Sh
def DL:List Tmp->List PV->(Nat->PV)->Nat->PV
 | p::ps,d::ds,f=>DL ps ds (w7 f p d)
 | _,_,f=>f
def SO(X2 X3:Ctx)(body:Code)(Qb:PX->Ctx->St->Prop):PX->Ctx->St->Prop
 | .normal,X',s=>X'=X2/\X4 X3 body Qb s
 | _,_,_=>False
def UO(X3:Ctx)(kT:St->Prop)(kF:Code->St->Prop):PX->Ctx->St->Prop
 | .normal,X',s=>X'=X3/\kT s
 | .ret,X',s=>X'=X3/\kF .ret s
 | .exit id,X',s=>X'=X3/\kF (.exit id) s
 | .goto _,_,_=>False
def TJ(P:Program)(Y:Ctx)(fn:Func)(k:PV->St->Prop):PX->Ctx->St->Prop
 | .normal,X',s | .ret,X',s=>X'=Y/\∃rs,xM P s fn.results.toList rs/\k (fI rs) s
 | _,_,_=>False
section
variable{X:Ctx}{Q:PX->Ctx->St->Prop}{st:St}{g:Gh}{a:Act}{w:World}
theorem A3.Yg{N:Nat}{ρ:Option Nat}{st':St}{a':Act}{w0:World}{o1 o2:List (Nat × Obj)}(h0:A3 X g st a w0){g':Gh}(h:A3 { X.over a N ρ with obs:=o1 } g' st' a' w)(ho:∀p∈iS a.defers++o2,p∈o1):A3 { X with obs:=o2 } g' ⟨lF st'.env,st'.σ⟩ a w:=by
 refine⟨h0.size,λi=>?_,h.rows,h.disj,h.ownimm,h.immlt,h.immsub,h.immsup,h.below,?_,λp hp=>h.obs p (ho p (zas _ hp)),h0.big,h.maps⟩
 .have:=h.env (i+1000000);have e1:Ctx.val { X.over a N ρ with obs:=o1 } a' (i+1000000)=Ctx.val { X with obs:=o2 } a i:=by
   have q:¬i+1000000<1000000:=by omega
   unfold Ctx.over;rw[Ctx.val,za q];simp only[Nat.add_sub_cancel];rfl
  rw[e1] at this;exact this
 .obtain⟨rs,h1,h2,h3⟩:=h0.marks;refine⟨rs,h1,h2,λr hr=>⟨?_,(h3 r hr).2⟩⟩;refine (h.obs (r,.deferred (some [])) (ho _ (mt _ ?_))).1;rw[h2,iT];exact zI.2 ⟨r,hr,rfl⟩
theorem ua:∀(l:List (Tmp × Value)) (tm:Array Value),(l.foldl (λtmps (t,a)=>tmps.setIfInBounds t a) tm).size=tm.size
 | [],tm=>rfl
 | p::l,tm=>by
  rw[zap,ua l];simp
theorem yy{w:World}{imm:Nat->Nat->Prop}{μ:Nat->H6}{p7:Nat->Prop}:∀(ps:List Tmp) (vs:List Value) (ds:List PV) (tm:Array Value) (f:Nat->PV),vs.length=ds.length->(∀(i:Nat) v d,vs[i]? = some v->ds[i]? = some d->Rd w imm μ p7 v d) ->
  (∀p∈ps,p<tm.size)->(∀i,i<1000000->Rd w imm μ p7 (tm.getD i undef) (f i))->∀i,i<1000000->Rd w imm μ p7 (((ps.zip vs).foldl (λtmps (t,a)=>tmps.setIfInBounds t a) tm).getD i undef) (DL ps ds f i)
 | [],_,ds,tm,f,_,_,_,h=>by
  cases ds <;> exact h
 | p::ps,[],[],tm,f,_,_,_,h=>h
 | p::ps,[],_::_,tm,f,hn,_,_,h=>by cases hn
 | p::ps,_::_,[],tm,f,hn,_,_,h=>by cases hn
 | p::ps,v::vs,d::ds,tm,f,hn,hv,hp,h=>by
  have ih:=yy ps vs ds (tm.setIfInBounds p v) (w7 f p d) (by simpa using hn) (λi v' d' h1 h2=>hv (i+1) v' d' (by simpa using h1) (by simpa using h2)) (λq hq=>by
   simp only[Array.size_setIfInBounds];exact hp q (zt _ hq)) (λi hi=>by
   unfold w7;by_cases e:i=p
   .subst e;have:=hp i (zi ..);rw[zb rfl];simp only[zE,m9,zU,this];exact hv 0 v d rfl rfl
   .rw[za e];simp only[zE,m9,za (zam e)];rw[<-zE];exact h i hi)
  exact ih
theorem EO{P:Program}{o:Oper}{x:Operand}{args:Array Operand}{ts:Array TypeId}{l:Nat}{r:Loop}(ho:o.op = .call { callee:=.value x,args,argTypes:=ts })(hx:a.eval x = .func (.yield l) #[] #[])(h:w.heap[l]? = some (.loop r))(hs:args.size=r.params.size) :
  (execOp a.eval o).run P w = .ok (.round l r.fn ((r.params.zip (args.map a.eval)).foldl (λtmps (t,a)=>tmps.setIfInBounds t a) r.tmps) r.assign r.body) w:=by
 obtain⟨dst,op,ty,pos,after,guard⟩:=o;simp only at ho;subst ho;simp only[execOp,resolve,hx,Deferred.ofValue,zp,rx,zh,invoke];have:=run_yield (P:=P) (args:=args.map a.eval) h (by simpa using hs);simpa using this
end
section
variable{X:Ctx}{ops:Array Oper}{i:Nat}{os:List Oper}{K:Ctx->St->Prop}{env:Nat->PV}{σ:Nat->Option Row}{ty:TypeId}{pos:String}{after:Array Edge}{gd:Option (Nat × Bool)}{t:Tmp}
def NV(X:Ctx)(ops:Array Oper)(i:Nat)(K:Ctx->St->Prop)(st:St):Prop:=
 eT X.N ops=true->∀(n:Nat) (g:Gh) (a:Act) (w:World) (next:Act->World->Prop) (Qo:Exit->Act->World->Prop),A3 X g st a w ->
  (∀X' g' s' a' w',A3 X' g' s' a' w'->(X'.P=X.P/\X'.ρ=X.ρ)/\X'.N=X.N->K X' s'->next a' w')->wpOpIn (FX X.ρ) n X.P ops Qo i next a w
theorem Jw{o:Oper}{st:St}(h:NV X ops i (λX' s=>Sq X' ops (i+1) os K s) st):Sq X ops i (o::os) K st:=λhd hi n g a w Qo hs hq=>by
 have e:List.range' i (o::os).length=i::List.range' (i+1) os.length:=rfl;rw[e,wpOpsIn_cons];refine h hd n g a w _ Qo hs λX' g' s' a' w' hs' hX k=>?_;have:=k (by rw[hX.2];exact hd) (λj=>by have:=hi (j+1);simpa[so,za6 1 j] using this) n g' a' w' Qo hs' λX2 g2 s2 a2 w2 h2 hX2=>hq X2 g2 s2 a2 w2 h2 ⟨hX2.1.trans hX.1.1,hX2.2.trans hX.1.2⟩;rw[hX.1.1,hX.1.2] at this;exact this
theorem I7{o:Oper}{st:St}(h:ops[i]? = some o->NV X ops i (λX' s=>Sq X' ops (i+1) os K s) st):Sq X ops i (o::os) K st:=λhd hi=>by
 have ho:=hi 0;simp only[m8,zaf] at ho;exact Jw (h ho.symm) hd hi
theorem xE{N0:Nat}{ps:Array Tmp}{assign body:Code}{l:Nat}{args:Array Operand}{ts:Array TypeId}{x:Operand}{ds:List PV}(ho:ops[i]? = some ⟨some t,.call { callee:=.value x,args,argTypes:=ts },ty,pos,after,gd⟩)(hR:Xj X N0 ps assign body l)(hw:B1 ops env ⟨some t,.call { callee:=.value x,args,argTypes:=ts },ty,pos,after,gd⟩=some true)
  (hf:y5 env x = .fn (.yield l) [])(ha:args.toList.map (y5 env)=ds)(hps:args.size=ps.size)(hpn:(ps.toList.all λp=>decide (p<N0))=true)(hcalm:X.calm=true)
  (h:∀e2 o2 o3,X4 { P:=X.P,N:=N0,ρ:=some l,w0:=X.w0,imm0:=X.imm0,ext:=e2,obs:=o2,calm:=true,tab:=X.tab } assign
   (SO { P:=X.P,N:=N0,ρ:=some l,w0:=X.w0,imm0:=X.imm0,ext:=e2,obs:=o2,calm:=true,tab:=X.tab } { P:=X.P,N:=N0,ρ:=some l,w0:=X.w0,imm0:=X.imm0,ext:=e2,obs:=o3,calm:=true,tab:=X.tab } body
    (UO { P:=X.P,N:=N0,ρ:=some l,w0:=X.w0,imm0:=X.imm0,ext:=e2,obs:=o3,calm:=true,tab:=X.tab } (λs=>K X ⟨w7 (lF s.env) t (.bool true),s.σ⟩) (λc s=>K (X.done c) ⟨w7 (lF s.env) t (.bool false),s.σ⟩)))
   ⟨pM (DL ps.toList ds (lF env)) env,σ⟩)(hN:N0<=1000000:=by exact zD rfl) :
  NV X ops i K ⟨env,σ⟩:=by
 intro hd n g a w next Qo hs hq;unfold wpOpIn;rw[ho];simp only;rw[zb (Q8 hs hw)];obtain⟨⟨tm,fid,D,os',hobs,hne,htz,hext⟩,hlo⟩:=hR;have hdef:a.defers = []:=hs.big.2 hcalm;have hL:=(hs.obs (l,.loop (nF fid tm ps assign body D)) (by rw[hobs];exact zi ..)).1;have hxv:=hs.eval x;rw[show y5 (St.env ⟨env,σ⟩) x = .fn (.yield l) [] from hf] at hxv;obtain⟨vs0,e0,hn0,_⟩:=gC hxv;have:vs0 = #[]:=by
  have:vs0.size=0:=by simpa using hn0
  exact Array.size_eq_zero_iff.1 this
 subst this;refine⟨λ_ _=>trivial,?_⟩;rw[Oper.semAt_eq _ _ _ (λc q=>by cases q),EO rfl e0 hL hps];refine⟨λq=>by simp[FX] at q,?_⟩;refine roundIn_of_wpIn (F:=FX X.ρ) trivial ?_;show assign.wpIn (FX (some l)) (n-1) X.P _ _ w;have hrd:∀(j:Nat) v d,(args.toList.map a.eval)[j]? = some v->ds[j]? = some d->Rd w g.imm g.μ (St.p7 ⟨env,σ⟩) v d:=by
  intro j v d hv hd';subst ha;rw[zL] at hv hd';cases hx:args.toList[j]? with
  | none=>rw[hx] at hv;cases hv
  | some y=>
   rw[hx] at hv hd';cases hv;cases hd';exact hs.eval y
 have hbase:∀j,j<1000000->Rd w g.imm g.μ (St.p7 ⟨env,σ⟩) (tm.getD j undef) (lF env j):=λj hj=>by
  have:=hs.env (j+1000000);rw[Ctx.val,za (by omega),hext j hj] at this;exact this
 have hzip:(ps.zip (args.map a.eval)).foldl (λtmps (t,a)=>tmps.setIfInBounds t a) tm=(ps.toList.zip (args.toList.map a.eval)).foldl (λtmps (t,a)=>tmps.setIfInBounds t a) tm:=by
  rw[<-Array.foldl_toList,Array.toList_zip,Array.toList_map]
 have hsz:((ps.zip (args.map a.eval)).foldl (λtmps (t,a)=>tmps.setIfInBounds t a) tm).size=N0:=by rw[hzip,ua,htz]
 have s1:=hs.push (N:=N0) (some l) (tmps:=(ps.zip (args.map a.eval)).foldl (λtmps (t,a)=>tmps.setIfInBounds t a) tm) (top:=DL ps.toList ds (lF env)) hN hsz (λj hj=>by
  rw[hzip];refine yy ps.toList _ ds tm _ (by rw[<-ha];simp) hrd (λp hp=>?_) hbase j hj;rw[htz];have:=zd.1 hpn p hp;simpa using this)
 generalize hX2:X.over a N0 (some l)=X2 at s1;have hX2e:X2={ P:=X.P,N:=N0,ρ:=some l,w0:=X.w0,imm0:=X.imm0,ext:=X2.ext,obs:=X2.obs,calm:=true,tab:=X.tab }:=by
  rw[<-hX2];simp only[Ctx.over]
 have hX2o:X2.obs=(l,.loop (nF fid tm ps assign body D))::os':=by
  rw[<-hX2];simp only[Ctx.over];rw[hdef,hobs];rfl
 have h1:=h X2.ext X2.obs ((l,.loop { nF fid tm ps assign body D with state:=.busy })::os');rw[<-hX2e] at h1;have hX3e:({ P:=X.P,N:=N0,ρ:=some l,w0:=X.w0,imm0:=X.imm0,ext:=X2.ext,obs:=(l,.loop { nF fid tm ps assign body D with state:=.busy })::os',calm:=true,tab:=X.tab }:Ctx)={ X2 with obs:=(l,.loop { nF fid tm ps assign body D with state:=.busy })::os' }:=by
  rw[hX2e]
 rw[hX3e] at h1;generalize hX3:({ X2 with obs:=(l,.loop { nF fid tm ps assign body D with state:=.busy })::os' }:Ctx)=X3 at h1;have hX3o:X3.obs=(l,.loop { nF fid tm ps assign body D with state:=.busy })::os':=by rw[<-hX3]
 have hX2ρ:X2.ρ=some l:=by rw[hX2e]
 have hX2P:X2.P=X.P:=by rw[hX2e]
 have hX3ρ:X3.ρ=some l:=by rw[<-hX3,hX2ρ]
 have hX3P:X3.P=X.P:=by rw[<-hX3,hX2P]
 have hX2w:X2.w0=X.w0:=by rw[hX2e]
 have hX3w:X3.w0=X.w0:=by rw[<-hX3,hX2w]
 have w1:=h1 (n-1) g _ w s1;rw[hX2ρ,hX2P] at w1;refine zbr w1 λex a1 w1 q=>?_;cases ex <;> simp only[lift,SO,Exit.then] at q |- <;> first | (obtain⟨_,_,_,_,_,q⟩:=q;exact q.elim) | exact q.elim | skip
 obtain⟨X',g1,t1,hs1,_,rfl,hb⟩:=q;have hL1:=(hs1.obs _ (by rw[hX2o];exact zi ..)).1;refine⟨_,run_beginRound hL1 rfl,?_⟩;have hs2:=hs1.QY (o':=.loop { nF fid tm ps assign body D with state:=.busy }) hL1 rfl rfl rfl (by rw[hX2w];exact hlo) (λq=>by cases q) (obs:=(l,.loop { nF fid tm ps assign body D with state:=.busy })::os') (λp hp=>by
  rcases zJ.1 hp with rfl | hp
  .exact .inl rfl
  .exact .inr ⟨hne p hp,by rw[hX2o];exact zt _ hp⟩)
 rw[hX3] at hs2;have w2:=hb (n-1) _ _ _ hs2;rw[hX3ρ,hX3P] at w2;refine zbr w2 λex a2 w3 q=>?_;have hLB:∀g2 t2,A3 X3 g2 t2 a2 w3->w3.heap[l]? = some (.loop { nF fid tm ps assign body D with state:=.busy }):=λg2 t2 hs3=>(hs3.obs _ (by rw[hX3o];exact zi ..)).1;have back:∀(g2:Gh) (t2:St) (r:Loop),A3 X3 g2 t2 a2 w3->A3 { X with obs:=(l,.loop r)::os' } g2 ⟨lF t2.env,t2.σ⟩ a (w3.putObj l (.loop r)):=by
  intro g2 t2 r hs3;have s4:=hs3.QY (o':=.loop r) (hLB g2 t2 hs3) rfl rfl rfl (by rw[hX3w];exact hlo) (λq=>by cases q) (obs:=(l,.loop r)::os') (λp hp=>by
   rcases zJ.1 hp with rfl | hp
   .exact .inl rfl
   .exact .inr ⟨hne p hp,by rw[hX3o];exact zt _ hp⟩)
  have e4:({ X3 with obs:=(l,.loop r)::os' }:Ctx)={ X.over a N0 (some l) with obs:=(l,.loop r)::os' }:=by rw[<-hX3,<-hX2]
  rw[e4] at s4;exact hs.Yg s4 (λp hp=>by rw[hdef] at hp;simpa[iS] using hp)
 have kF:∀(c:Code) (g2:Gh) (t2:St),A3 X3 g2 t2 a2 w3->K (X.done c) ⟨w7 (lF t2.env) t (.bool false),t2.σ⟩->∃v w',(Instr.endRound l (some c)).run X.P w3 = .ok v w'/\next (a.put (some t) v) w':=by
  intro c g2 t2 hs3 hk;refine⟨_,_,run_endRound (some c) (hLB g2 t2 hs3),?_⟩;have s5:=back g2 t2 { nF fid tm ps assign body D with state:=.done,pending:=some c } hs3;have e5:X.done c={ X with obs:=(l,.loop { nF fid tm ps assign body D with state:=.done,pending:=some c })::os' }:=by
   unfold Ctx.done;rw[hobs];rfl
  rw[<-e5] at s5;have hdst:∀u,(some t:Option Tmp)=some u->u<(X.done c).N:=F4 hd ho;exact hq _ _ _ _ _ (s5.put hdst (.cl (.bool false))) ⟨⟨rfl,rfl⟩,rfl⟩ hk
 cases ex <;> simp only[lift,UO,roundPost] at q |- <;> first
  | (obtain⟨X',g2,t2,hs3,_,rfl,hk⟩:=q;exact kF _ g2 t2 hs3 hk)
  | (obtain⟨_,_,_,_,_,q⟩:=q;exact q.elim)
  | exact q.elim
  | skip
 obtain⟨X',g2,t2,hs3,_,rfl,hk⟩:=q;refine⟨_,_,run_endRound none (hLB g2 t2 hs3),?_⟩;have s5:=back g2 t2 (nF fid tm ps assign body D) hs3;have e5:({ X with obs:=(l,.loop (nF fid tm ps assign body D))::os' }:Ctx)=X:=by rw[<-hobs]
 rw[e5] at s5;exact hq _ _ _ _ _ (s5.put (F4 hd ho) (.cl (.bool true))) ⟨⟨rfl,rfl⟩,rfl⟩ hk
theorem mj{N0:Nat}{ps:Array Tmp}{assign body:Code}{l:Nat}{args:Array Operand}{ts:Array TypeId}{x:Operand}{ds:List PV}(hR:Xj X N0 ps assign body l)(hw:B1 ops env ⟨some t,.call { callee:=.value x,args,argTypes:=ts },ty,pos,after,gd⟩=some true)
  (hf:y5 env x = .fn (.yield l) [])(ha:args.toList.map (y5 env)=ds)(hps:args.size=ps.size)(hpn:(ps.toList.all λp=>decide (p<N0))=true)(hcalm:X.calm=true)
  (h:∀e2 o2 o3,X4 { P:=X.P,N:=N0,ρ:=some l,w0:=X.w0,imm0:=X.imm0,ext:=e2,obs:=o2,calm:=true,tab:=X.tab } assign
   (SO { P:=X.P,N:=N0,ρ:=some l,w0:=X.w0,imm0:=X.imm0,ext:=e2,obs:=o2,calm:=true,tab:=X.tab } { P:=X.P,N:=N0,ρ:=some l,w0:=X.w0,imm0:=X.imm0,ext:=e2,obs:=o3,calm:=true,tab:=X.tab } body
    (UO { P:=X.P,N:=N0,ρ:=some l,w0:=X.w0,imm0:=X.imm0,ext:=e2,obs:=o3,calm:=true,tab:=X.tab } (λs=>Sq X ops (i+1) os K ⟨w7 (lF s.env) t (.bool true),s.σ⟩) (λc s=>Sq (X.done c) ops (i+1) os K ⟨w7 (lF s.env) t (.bool false),s.σ⟩)))
   ⟨pM (DL ps.toList ds (lF env)) env,σ⟩)(hN:N0<=1000000:=by exact zD rfl) :
  Sq X ops i (⟨some t,.call { callee:=.value x,args,argTypes:=ts },ty,pos,after,gd⟩::os) K ⟨env,σ⟩:=I7 λho=>xE ho hR hw hf ha hps hpn hcalm h hN
theorem Vr{args:Array Operand}{ts:Array TypeId}{x:Operand}{gf:FuncId}{cap ds:List PV}{fn:Func}{c:Code}{N1:Nat}(ho:ops[i]? = some ⟨some t,.call { callee:=.value x,args,argTypes:=ts },ty,pos,after,gd⟩)(hw:B1 ops env ⟨some t,.call { callee:=.value x,args,argTypes:=ts },ty,pos,after,gd⟩=some true)
  (hf:y5 env x = .fn (.func gf) cap)(hk:X.P.funcs[gf]? = some fn)(hb:fn.body=some c)(hname':x8 X.P gf)(hN:fn.ntmps=N1)(ha:args.toList.map (y5 env)++cap=ds)(hn:ds.length<=N1)
  (h:∀e1 o1,X4 { P:=X.P,N:=N1,ρ:=none,w0:=X.w0,imm0:=X.imm0,ext:=e1,obs:=o1,calm:=true,tab:=X.tab } c
   (TJ X.P { P:=X.P,N:=N1,ρ:=none,w0:=X.w0,imm0:=X.imm0,ext:=e1,obs:=o1,calm:=true,tab:=X.tab } fn (λd s=>K X ⟨w7 (lF s.env) t d,s.σ⟩)) ⟨pM (L7 ds) env,σ⟩)(h6:N1<=1000000:=by exact zD rfl) :
  NV X ops i K ⟨env,σ⟩:=by
 intro hd n g a w next Qo hs hq;obtain⟨fn2,c2,hf2,_,hname⟩:=hname';rw[hk] at hf2;cases hf2;unfold wpOpIn;rw[ho];simp only;rw[zb (Q8 hs hw)];have hv:=hs.eval x;rw[show y5 (St.env ⟨env,σ⟩) x = .fn (.func gf) cap from hf] at hv;obtain⟨vs,e0,hnv,hcap⟩:=gC hv;have hexec:=gh (P:=X.P) (w:=w) (o:=⟨some t,.call { callee:=.value x,args,argTypes:=ts },ty,pos,after,gd⟩) rfl e0 ⟨fn,c,hk,hb,hname⟩;refine⟨λ_ _=>trivial,?_⟩;rw[Oper.semAt_eq _ _ _ (λc q=>by cases q),hexec];refine⟨λq=>by simp[FX] at q,?_⟩;obtain⟨av,hav⟩:∃av:Array Value,av=args.map a.eval++vs:=⟨_,rfl⟩;rw[<-hav];have hz:av.size=ds.length:=by rw[hav,<-ha];simp[hnv]
 have hrd:∀(j:Nat) v d,av[j]? = some v->ds[j]? = some d->Rd w g.imm g.μ (St.p7 ⟨env,σ⟩) v d:=by
  intro j v d hv hd';subst hav;subst ha;rcases zB j args.size with q | q
  .rw[pu (by simpa using q),Array.getElem?_map] at hv;rw[zN (by simpa using q),zL] at hd';cases hx:args[j]? with
   | none=>rw[hx] at hv;cases hv
   | some y=>
    have hx':args.toList[j]? = some y:=by simpa using hx
    rw[hx] at hv;rw[hx'] at hd';cases hv;cases hd';exact hs.eval y
  .rw[zac (by simpa using q)] at hv;rw[zM (by simpa using q)] at hd';exact hcap _ v d hv (by simpa using hd')
 have s1:=hs.push (N:=N1) none (tmps:=av++Array.replicate (fn.ntmps-av.size) undef) (top:=L7 ds) h6 (by
   simp only[zbt,Array.size_replicate];omega) (λi _=>HD hz hrd _ i)
 generalize hY:X.over a N1 none=Y at s1;have hYe:Y={ P:=X.P,N:=N1,ρ:=none,w0:=X.w0,imm0:=X.imm0,ext:=Y.ext,obs:=Y.obs,calm:=true,tab:=X.tab }:=by
  rw[<-hY];simp only[Ctx.over]
 have h1:=h Y.ext Y.obs;rw[<-hYe] at h1;have hYρ:Y.ρ=none:=by rw[hYe]
 have hYP:Y.P=X.P:=by rw[hYe]
 have hYc:Y.calm=true:=by rw[hYe]
 have w1:=h1 (n-1) g _ w s1;rw[hYρ,hYP] at w1;have hc:CallsIn (FX none) (n-1) X.P gf av w λe w''=>∃v,e = .returned v/\next (a.put (some t) v) w'':=by
  refine callsIn_of_wp_marks hk hb trivial ?_ rfl;refine zbr w1 λex a1 w1 q=>?_;have key:∀X' g1 t1,A3 X' g1 t1 a1 w1->(X'=Y/\∃rs,xM X.P t1 fn.results.toList rs/\K X ⟨w7 (lF t1.env) t (fI rs),t1.σ⟩)->LeavesInM (FX none) (n-1) X.P fn a1.tmps (λe w''=>∃v,e = .returned v/\next (a.put (some t) v) w'') a1.defers .returning w1:=by
   rintro X' g1 t1 hs1 ⟨rfl,rs,hr,hk'⟩;rw[hs1.big.2 hYc];rw[<-hYP] at hr;obtain⟨v,hrun,hvr⟩:=HI hs1 hr;rw[hYP] at hrun;refine⟨v,hrun,v,rfl,?_⟩;rw[<-hY] at hs1;have s2:=hs.pop hs1;exact hq _ _ _ _ _ (s2.put (F4 hd ho) hvr) ⟨⟨rfl,rfl⟩,rfl⟩ hk'
  cases ex <;> simp only[lift,TJ,bodyPostM] at q |- <;> first
   | (obtain⟨X',g1,t1,h1,_,h2⟩:=q;exact key X' g1 t1 h1 h2)
   | (obtain⟨X',g1,t1,h1,_,h2⟩:=q;exact h2.elim)
   | exact q.elim
 have hc2:CallsIn (FX X.ρ) (n-1) X.P gf av w λe w''=>∃v,e = .returned v/\next (a.put (some t) v) w'':=hc;refine hc2.mono λe w'' hr=>?_;obtain⟨v,rfl,hk⟩:=hr;exact hk
theorem Aj{args:Array Operand}{ts:Array TypeId}{x:Operand}{gf:FuncId}{cap ds:List PV}{fn:Func}{c:Code}{N1:Nat}(hw:B1 ops env ⟨some t,.call { callee:=.value x,args,argTypes:=ts },ty,pos,after,gd⟩=some true)
  (hf:y5 env x = .fn (.func gf) cap)(hk:X.P.funcs[gf]? = some fn)(hb:fn.body=some c)(hname':x8 X.P gf)(hN:fn.ntmps=N1)(ha:args.toList.map (y5 env)++cap=ds)(hn:ds.length<=N1)
  (h:∀e1 o1,X4 { P:=X.P,N:=N1,ρ:=none,w0:=X.w0,imm0:=X.imm0,ext:=e1,obs:=o1,calm:=true,tab:=X.tab } c
   (TJ X.P { P:=X.P,N:=N1,ρ:=none,w0:=X.w0,imm0:=X.imm0,ext:=e1,obs:=o1,calm:=true,tab:=X.tab } fn (λd s=>Sq X ops (i+1) os K ⟨w7 (lF s.env) t d,s.σ⟩)) ⟨pM (L7 ds) env,σ⟩)(h6:N1<=1000000:=by exact zD rfl) :
  Sq X ops i (⟨some t,.call { callee:=.value x,args,argTypes:=ts },ty,pos,after,gd⟩::os) K ⟨env,σ⟩:=I7 λho=>Vr ho hw hf hk hb hname' hN ha hn h h6
end
section
variable{X:Ctx}{Q:PX->Ctx->St->Prop}{st:St}
theorem UB{J R:Type}{x:Code}{κ:J->Option R}{r:R}(F:J->St)(hk:∀j,κ j=some r->Q .normal X (F j))(hx:X4 X x (jb (λX' s=>X'=X/\∃j,κ j=some r/\Wk s (F j)) Q) st):X4 X x Q st:=λn g a w hs=>zbr (hx n g a w hs) λe a' w' q=>by
 cases e <;> simp only[lift,jb] at q |- <;> first | exact q | skip
 obtain⟨X',g',st',h1,h3,rfl,j,h4,h5⟩:=q;obtain⟨g2,h6⟩:=h5 X' g' a' w' h1;exact⟨X',g2,_,h6,h3,hk j h4⟩
def Tk(K:Ctx->St->Prop):PX->Ctx->St->Prop
 | .normal,X,s | .ret,X,s=>K X s
 | _,_,_=>False
theorem UC{J R:Type}{x:Code}{κ:J->Option R}{r:R}(F:J->St)(hk:∀j,κ j=some r->Q .normal X (F j)/\Q .ret X (F j))(hx:X4 X x (Tk (λX' s=>X'=X/\∃j,κ j=some r/\Wk s (F j))) st):X4 X x Q st:=λn g a w hs=>zbr (hx n g a w hs) λe a' w' q=>by
 cases e <;> simp only[lift,Tk] at q |- <;> first | (obtain⟨X',g',st',h1,h3,h4⟩:=q;exact h4.elim) | exact q | skip
 all_goals
  obtain⟨X',g',st',h1,h3,rfl,j,h4,h5⟩:=q;obtain⟨g2,h6⟩:=h5 X' g' a' w' h1;first | exact⟨X',g2,_,h6,h3,(hk j h4).1⟩ | exact⟨X',g2,_,h6,h3,(hk j h4).2⟩
theorem dup{p q:Prop}(h:p)(e:p=q:=by rfl):p/\q:=⟨h,e▸h⟩
end
end Go.Pw
namespace Go.Pw
open Go.RowKit Go.Sh
theorem yr{x y y' z:PV}{j k:Nat}(hx:x.el=true)(hj:x.cells[j]? = some y)(hs:y'.sc=true)(h:(G5 x j [y']).cells[k]? = some z):(k=j/\z=y')\/(k≠j/\x.cells[k]? = some z):=by
 have hlt:=PV.C1 hj;have hc:=(lU (x:=x) (f:=j) (cs:=[y']) hx (by simp;omega) (by simp[hs])).1;rw[hc] at h;have hk:(x.cells.take j).length=j:=by simp;omega
 by_cases e:k=j
 .subst e;left;refine⟨rfl,?_⟩;rw[pm,zM (by omega)] at h;simp[hk] at h;exact h.symm
 .right;refine⟨e,?_⟩;rcases zB k j with q | q
  .rw[pm,zN (by omega),zaj q] at h;exact h
  .rw[zM (by simp;omega)] at h;simp only[zC,hk,zl,zW,sm] at h;rwa [show j+(0+1)+(k-(j+(0+1)))=k by omega] at h
section
variable{X:Ctx}{st:St}{a:Act}{w:World}{g:Gh}
theorem A3.MG(h:A3 X g st a w){l0 j:Nat}{r0:Row}{x y y':PV}{cl':Bool}(hl:st.σ l0=some r0)(he:r0.els = [x])(hj:x.cells[j]? = some y)(hs:y'.sc=true)(hr:∀b s v,(g.μ l0).A=some ⟨b,s,none⟩->w.cell? ⟨b,s+0*(g.μ l0).z+j,none⟩=some v->Rd w g.imm g.μ st.p7 v y->Rd w g.imm g.μ st.p7 v y')
  (hcl:cl'=true->r0.cl=true/\∀v,Rd0 w g.imm v y->Rd0 w g.imm v y'):A3 X g ⟨st.env,w7 st.σ l0 (some ⟨[G5 x j [y']],r0.lo,r0.opn,r0.z,cl'⟩)⟩ a w:=by
 have hp:∀l,st.p7 l->St.p7 ⟨st.env,w7 st.σ l0 (some ⟨[G5 x j [y']],r0.lo,r0.opn,r0.z,cl'⟩)⟩ l/\g.μ l=g.μ l:=by
  rintro l ⟨r,hr⟩;refine⟨?_,rfl⟩;by_cases e:l=l0
  .subst e;exact⟨_,o8 _ _ _⟩
  .exact⟨r,by rw[<-hr];exact o5 _ _ e⟩
 have nomap:MB<=l0->False:=λq=>by
  obtain⟨b',es,h1,_⟩:=h.maps.at_ l0 r0 q hl;rw[he] at h1;cases h1;cases hj
 have hR:=h.rows l0 r0 hl;have hxel:=hR.el x (by rw[he];exact zi ..);have hlt:=PV.C1 hj;have hset:=lU (x:=x) (f:=j) (cs:=[y']) hxel.1 (by simp;omega) (by simp[hs]);have hlen:(G5 x j [y']).cells.length=x.cells.length:=by rw[hset.1];simp;omega
 have hown:∀b o,G9 (g.μ l0) ⟨[G5 x j [y']],r0.lo,r0.opn,r0.z,cl'⟩ b o->G9 (g.μ l0) r0 b o:=λb o q=>q;have hcase:∀l r,w7 st.σ l0 (some ⟨[G5 x j [y']],r0.lo,r0.opn,r0.z,cl'⟩) l=some r->∃r1,st.σ l=some r1/\(∀b o,G9 (g.μ l) r b o->G9 (g.μ l) r1 b o):=by
  intro l r q;by_cases e:l=l0
  .subst e;rw[o8] at q;cases q;exact⟨r0,hl,hown⟩
  .rw[o5 _ _ e] at q;exact⟨r,q,λ_ _ q=>q⟩
 refine⟨h.size,λi=>(h.env i).mono (Ext.refl _ _) hp,λl r q=>?_,λl l' r r' hne q q' b o ho k=>?_,λl r b o q ho=>?_,h.immlt,h.immsub,h.immsup,h.below,h.marks,h.obs,h.big,h.maps.w7 hl (λq=>(nomap q).elim) λq=>(nomap q).elim⟩
 .by_cases e:l=l0
  .subst e;rw[show (St.mk st.env (w7 st.σ l (some ⟨[G5 x j [y']],r0.lo,r0.opn,r0.z,cl'⟩))).σ l=_ from o8 _ _ _] at q;cases q;refine⟨by rw[hR.n,he];rfl,hR.z,hR.C,hR.lo,λz hz=>?_,hR.nil,hR.spot,λi z k c hz hc=>?_,λb o ho=>hR.own b o ho⟩
   .simp only[zH] at hz;subst hz;exact⟨hset.2,by rw[hlen];exact hxel.2⟩
   .cases i with
    | succ i=>simp at hz
    | zero=>
     simp only[m8,wp] at hz;subst hz;rcases yr hxel.1 hj hs hc with ⟨rfl,rfl⟩ | ⟨_,hc'⟩
     .obtain⟨b,s,u,k1,k2,k3,k4,k5⟩:=hR.cell 0 x k y (by rw[he];rfl) hj;exact⟨b,s,u,k1,k2,(hr b s u k1 k2 k3).mono (Ext.refl _ _) hp,k4,λq=>(hcl q).2 u (k5 (hcl q).1)⟩
     .obtain⟨b,s,u,k1,k2,k3,k4,k5⟩:=hR.cell 0 x k c (by rw[he];rfl) hc';exact⟨b,s,u,k1,k2,k3.mono (Ext.refl _ _) hp,k4,λq=>k5 (hcl q).1⟩
  .rw[show (St.mk st.env (w7 st.σ l0 (some ⟨[G5 x j [y']],r0.lo,r0.opn,r0.z,cl'⟩))).σ l=st.σ l from o5 _ _ e] at q;exact (h.rows l r q).mono (Ext.refl _ _) hp λ_ _ _=>⟨rfl,rfl⟩
 .obtain⟨r1,h1,k1⟩:=hcase l r q;obtain⟨r2,h2,k2⟩:=hcase l' r' q';exact h.disj l l' r1 r2 hne h1 h2 b o (k1 b o ho) (k2 b o k)
 .obtain⟨r1,h1,k1⟩:=hcase l r q;exact h.ownimm l r1 b o h1 (k1 b o ho)
end
theorem vy{s:St}{l0 j l z:Nat}{x x':PV}{lo zz:Nat}{opn cl:Bool}(hl0:s.σ l0=some ⟨[x],lo,opn,zz,cl⟩)(hj:x.cells[j]? = some (.G8 true []))(hl:s.σ l=none)(hx:G5 x j [.sl l]=x')(hne:(l==l0)=false)(hlm:l<MB:=by exact zD rfl) :
  Wk s ⟨s.env,w7 (w7 s.σ l (some ⟨[],0,true,z,true⟩)) l0 (some ⟨[x'],lo,opn,zz,false⟩)⟩:=λX g a w h=>by
 subst hx;have hne':l≠l0:=by simpa using hne
 have nomap:MB<=l0->False:=λq=>by
  obtain⟨b',es,h1,_⟩:=h.maps.at_ l0 _ q hl0;cases h1;cases hj
 have hxr:=(h.rows l0 _ hl0).cell 0 x j _ rfl hj;obtain⟨b0,s0,u,hA0,hu,hv,_,_⟩:=hxr;obtain⟨A,c,z',u',e,h1,h2,h3,_⟩:=hv.fS;have hc:=h2 rfl;simp only[zW] at hc e;subst hc;have hs:=h.vo (l:=l) (A:=A) (xs:=[]) (z:=z) hlm hl (λ_=>rfl) (λ_ q=>by cases q) (λq=>absurd q (zbz _)) true;have hl0':(St.mk s.env (w7 s.σ l (some ⟨[],0,true,z,true⟩))).σ l0=some ⟨[x],lo,opn,zz,cl⟩:=by rw[<-hl0];exact o5 _ _ (zam hne')
 have hs':A3 X ⟨g.imm,w7 g.μ l ⟨A,0,0,z⟩⟩ ⟨s.env,w7 s.σ l (some ⟨[],0,true,z,true⟩)⟩ a w:=hs;have hR:=hs'.rows l0 _ hl0';have hμ:w7 g.μ l ⟨A,0,0,z⟩ l0=g.μ l0:=o5 _ _ (zam hne');have hp:∀l',St.p7 ⟨s.env,w7 s.σ l (some ⟨[],0,true,z,true⟩)⟩ l'->St.p7 ⟨s.env,w7 (w7 s.σ l (some ⟨[],0,true,z,true⟩)) l0 (some ⟨[G5 x j [.sl l]],lo,opn,zz,false⟩)⟩ l'/\w7 g.μ l ⟨A,0,0,z⟩ l'=w7 g.μ l ⟨A,0,0,z⟩ l':=by
  rintro l' ⟨r,hr⟩;refine⟨?_,rfl⟩;by_cases e:l'=l0
  .subst e;exact⟨_,o8 _ _ _⟩
  .exact⟨r,by rw[<-hr];exact o5 _ _ e⟩
 have hxel:=hR.el x (zi ..);have hlt:=PV.C1 hj;have hset:=lU (x:=x) (f:=j) (cs:=[.sl l]) hxel.1 (by simp;omega) rfl;have hlen:(G5 x j [.sl l]).cells.length=x.cells.length:=by rw[hset.1];simp;omega
 have hcase:∀l' r,w7 (w7 s.σ l (some ⟨[],0,true,z,true⟩)) l0 (some ⟨[G5 x j [.sl l]],lo,opn,zz,false⟩) l'=some r->∃r1,w7 s.σ l (some ⟨[],0,true,z,true⟩) l'=some r1/\(∀b o,G9 (w7 g.μ l ⟨A,0,0,z⟩ l') r b o->G9 (w7 g.μ l ⟨A,0,0,z⟩ l') r1 b o):=by
  intro l' r q;by_cases e:l'=l0
  .subst e;rw[o8] at q;cases q;exact⟨_,hl0',λ_ _ q=>q⟩
  .rw[o5 _ _ e] at q;exact⟨r,q,λ_ _ q=>q⟩
 refine⟨⟨g.imm,w7 g.μ l ⟨A,0,0,z⟩⟩,⟨hs'.size,λi=>(hs'.env i).mono (Ext.refl _ _) hp,λl' r q=>?_,λl1 l2 r r' hne q q' b o ho k=>?_,λl' r b o q ho=>?_,hs'.immlt,hs'.immsub,hs'.immsup,hs'.below,hs'.marks,hs'.obs,hs'.big,hs'.maps.w7 hl0' (λq=>(nomap q).elim) λq=>(nomap q).elim⟩⟩
 .by_cases e:l'=l0
  .subst e;rw[show (St.mk s.env (w7 (w7 s.σ l (some ⟨[],0,true,z,true⟩)) l' (some ⟨[G5 x j [.sl l]],lo,opn,zz,false⟩))).σ l'=_ from o8 _ _ _] at q;cases q;refine⟨hR.n,hR.z,hR.C,hR.lo,λz hz=>?_,hR.nil,hR.spot,λi z k c hz hc=>?_,λb o ho=>hR.own b o ho⟩
   .simp only[zH] at hz;subst hz;exact⟨hset.2,by rw[hlen];exact hxel.2⟩
   .cases i with
    | succ i=>simp at hz
    | zero=>
     simp only[m8,wp] at hz;subst hz;rcases yr hxel.1 hj rfl hc with ⟨rfl,rfl⟩ | ⟨_,hc'⟩
     .obtain⟨b,s1,u1,k1,k2,k3,k4,k5⟩:=hR.cell 0 x k _ rfl hj;refine⟨b,s1,u1,k1,k2,?_,k4,λq=>by cases q⟩;simp only[hμ] at k1 k2;rw[hA0] at k1;cases k1;rw[hu] at k2;cases k2;rw[e];exact dy (m:=⟨A,0,0,z⟩) ⟨⟨[],0,true,z,true⟩,(o5 _ _ hne').trans (o8 _ _ _)⟩ (o8 _ _ _)
     .obtain⟨b,s,u,k1,k2,k3,k4,k5⟩:=hR.cell 0 x k c rfl hc';exact⟨b,s,u,k1,k2,k3.mono (Ext.refl _ _) hp,k4,λq=>by cases q⟩
  .rw[show (St.mk s.env (w7 (w7 s.σ l (some ⟨[],0,true,z,true⟩)) l0 (some ⟨[G5 x j [.sl l]],lo,opn,zz,false⟩))).σ l'=w7 s.σ l (some ⟨[],0,true,z,true⟩) l' from o5 _ _ e] at q;exact (hs'.rows l' r q).mono (Ext.refl _ _) hp λ_ _ _=>⟨rfl,rfl⟩
 .obtain⟨r1,h1,k1⟩:=hcase l1 r q;obtain⟨r2,h2,k2⟩:=hcase l2 r' q';exact hs'.disj l1 l2 r1 r2 hne h1 h2 b o (k1 b o ho) (k2 b o k)
 .obtain⟨r1,h1,k1⟩:=hcase l' r q;exact hs'.ownimm l' r1 b o h1 (k1 b o ho)
theorem qw{s:St}(l0 j:Nat){x x' y:PV}{lo zz:Nat}{opn cl:Bool}(hl0:s.σ l0=some ⟨[x],lo,opn,zz,cl⟩)(hj:x.cells[j]? = some y)(hs:y.w1.sc=true)(hx:G5 x j [y.w1]=x'):Wk s ⟨s.env,w7 s.σ l0 (some ⟨[x'],lo,opn,zz,cl⟩)⟩:=λX g a w h=>by
 subst hx;exact⟨g,h.MG hl0 rfl hj hs (λ_ _ v _ _ q=>q.w1) (λq=>⟨q,λv q=>q.w1⟩)⟩
end Go.Pw
namespace Go.Pw
open Go.RowKit Go.Sh
def tT(M:Array Nat)(n m:Nat):Bool:=(List.range n).all λx=>decide (x<m)||(List.range m).all λj=>(M.getD x 0).testBit j
theorem vI{M:Array Nat}{n m:Nat}(h:tT M n m=true){x j:Nat}(hx:x<n)(hm:m<=x)(hj:j<m):(M.getD x 0).testBit j=true:=by
 have:=zd.1 h x (by simpa using hx);rw[me] at this;rcases this with q | q
 .have:x<m:=by simpa using q
  omega
 .exact zd.1 q j (by simpa using hj)
section
variable{X:Ctx}{ops:Array Oper}{n:Nat}{ρ:Option Nat}{Q:Exit->Act->World->Prop}
def Down(ops:Array Oper)(listed:Array Bool):Prop:=∀i o,listed.getD i false=true->ops[i]? = some o->∀e∈o.after,Region.binds .any e=true->listed.getD e.on false=true
theorem uf{bar:List Nat}{M:Array Nat}(hr:pP ops bar M=true){listed:Array Bool}(hsz:listed.size=ops.size){i:Nat}{c:List Nat}(h:dH ops.size listed=i::c):i∈Region.ready .any ops listed:=by
 have hmem:i∈dH ops.size listed:=by rw[h];simp
 obtain⟨hi1,hi2⟩:=zy.1 hmem;have hi:i<ops.size:=by simpa using hi1
 refine zy.2 ⟨hi1,?_⟩;rw[hi2,zak,zo hi];simp only[wd,zR];rw[za9];intro e he;cases hb:Region.binds .any e with
 | false=>rfl
 | true=>
 have hlt:=(aQ hr (zo hi)).2.1 e he hb;show (!true||_)=true;rw[me];right;cases hq:listed.getD e.on false with
 | true=>rfl
 | false=>
  exfalso;have hon:e.on∈dH ops.size listed:=zy.2 ⟨by simp;omega,by
   have:listed.getD e.on true=false:=by
    have hlt':e.on<listed.size:=by omega
    simp[zE,hlt'] at hq |-;exact hq
   rw[this];rfl⟩
  have hs:=fm ops.size listed;rw[h] at hs hon;rw[ul] at hs;rcases zJ.1 hon with q | q
  .omega
  .have:=hs.1 _ q;omega
theorem qs{listed:Array Bool}{i:Nat}(hi:i∈Region.ready .any ops listed):i<ops.size/\i∈dH ops.size listed/\∀o,ops[i]? = some o->∀e∈o.after,Region.binds .any e=true->listed.getD e.on false=true:=by
 obtain⟨k1,k2⟩:=zy.1 hi;rw[zk] at k2;have hil:i<ops.size:=by simpa using k1
 refine⟨hil,zy.2 ⟨k1,k2.1⟩,λo ho e he hb=>?_⟩;have:=k2.2;rw[ho] at this;simp only[wd,zR] at this;rw[za9] at this;have:=this e he;rw[hb] at this;simpa using this
theorem ur{bar:List Nat}{M:Array Nat}(hr:pP ops bar M=true){listed:Array Bool}(hdown:Down ops listed){i:Nat}{o:Oper}(ho:ops[i]? = some o)(haf:∀e∈o.after,Region.binds .any e=true->listed.getD e.on false=true) :
  ∀j,(M.getD i 0).testBit j=true->listed.getD j false=true:=by
 have key:∀(m k:Nat) (o:Oper),k<m->ops[k]? = some o->(∀e∈o.after,Region.binds .any e=true->listed.getD e.on false=true)->∀j,(M.getD k 0).testBit j=true->listed.getD j false=true:=by
  intro m;induction m with
  | zero=>intro k o hk;omega
  | succ m ihm=>
   intro k o hk ho haf j hj;obtain⟨e,he1,he2,he3⟩:=(aQ hr ho).1 j hj;have hl:=haf e he1 he2;rcases he3 with rfl | he3
   .exact hl
   .have hlt:=(aQ hr ho).2.1 e he1 he2;have hklt:k<ops.size:=by
     rcases zB k ops.size with q | q
     .exact q
     .rw[zbp q] at ho;cases ho
    exact ihm e.on _ (by omega) (zo (show e.on<ops.size by omega)) (λe' h1 h2=>hdown e.on _ hl (zo (show e.on<ops.size by omega)) e' h1 h2) j he3
 exact key (i+1) i o (by omega) ho haf
theorem ql{listed:Array Bool}{j:Nat}(h:j∈dH ops.size listed):listed.getD j false=false:=by
 obtain⟨q1,q2⟩:=zy.1 h;have q2':listed.getD j true=false:=by simpa using q2
 rw[zE] at q2' |-;cases hq:listed[j]? with
 | none=>rfl
 | some b=>rw[hq] at q2';exact q2'
theorem Down.set{listed:Array Bool}(hd:Down ops listed){i:Nat}(haf:∀o,ops[i]? = some o->∀e∈o.after,Region.binds .any e=true->listed.getD e.on false=true):Down ops (listed.setIfInBounds i true):=by
 intro k o hk ho e he hb;by_cases q:k=i
 .subst q;exact getD_set_true (haf o ho e he hb)
 .rw[getD_set_ne (listed:=listed) (i:=i) (j:=k) false (zam q)] at hk;exact getD_set_true (hd k o hk ho e he hb)
theorem yp{bar:List Nat}{M:Array Nat}{m:Nat}{stM:St}(hd:eT X.N ops=true)(hr:pP ops bar M=true)(hc:tT M ops.size m=true){N:Nat}
  {tail:List Nat}(ht:∀x∈tail,m<=x)
  (hK:∀listed g' a' w',listed.size=ops.size->dH ops.size listed=tail->Down ops listed->A3 X g' stM a' w'->wpAnyIn (FX ρ) n X.P .any ops Q N listed a' w') :
  ∀(k:Nat) (c:List Nat) (listed:Array Bool) (g:Gh) (st:St) (a:Act) (w:World),c.length=k->A3 X g st a w->listed.size=ops.size->dH ops.size listed=c++tail->(∀j∈c,j<m)->Down ops listed->Cu X.P ops bar true c st stM ->
   wpAnyIn (FX ρ) n X.P .any ops Q (k+N) listed a w:=by
 intro k;induction k with
 | zero=>
  intro c listed g st a w hk h hsz hrem hcm hdown hrun;have:c = []:=zG hk;subst this;have:st=stM:=hrun;subst this;rw[zab];exact hK listed g a w hsz (by simpa using hrem) hdown h
 | succ k ih=>
  intro c listed g st a w hk h hsz hrem hcm hdown hrun;rw[Nat.succ_add];refine⟨λhnil=>?_,λi hi=>?_⟩
  .exfalso;cases c with
   | nil=>simp at hk
   | cons j c=>
    have:=uf hr hsz hrem;rw[hnil] at this;cases this
  .obtain⟨hil,hirem,hafter⟩:=qs hi;have hget:=zo hil;have hwait:=ur hr hdown hget (hafter _ hget);have hic:i∈c:=by
    rw[hrem] at hirem;rcases zw.1 hirem with q | q
    .exact q
    .exfalso;obtain⟨j,hj⟩:∃j,j∈c:=by
      cases c with
      | nil=>simp at hk
      | cons j c=>exact⟨j,zi ..⟩
     have h1:=hwait j (vI hc hil (ht i q) (hcm j hj));rw[ql (ops:=ops) (listed:=listed) (j:=j) (by rw[hrem];exact mt _ hj)] at h1;cases h1
   obtain⟨c1,c2,hcc⟩:=List.append_of_mem hic;have hs:=fm ops.size listed;rw[hrem,hcc] at hs;rw[hcc] at hrun;have hs':(c1++i::(c2++tail)).Pairwise (· < ·):=by simpa using hs
   rw[za4] at hs';have hind:∀j∈c1,∀oj,ops[j]? = some oj->oj.apart ops ops[i]=true/\allowed (cls bar j oj.op) (cls bar i ops[i].op)=true:=by
    intro j hj oj hoj;have hji:=hs'.2.2 j hj i (zi ..);rcases (aQ hr hget).2.2 j oj hji hoj with q | q
    .have:=hwait j q;rw[ql (ops:=ops) (listed:=listed) (j:=j) (by rw[hrem,hcc];simp[hj])] at this;cases this
    .exact q
   obtain⟨σF,st',hst,hrest⟩:=xg hget c1 c2 st stM hind hrun;refine tP hget h hst (F4 hd hget) λg' a' w' h'=>?_;have hrem':=xb (c1:=c1) (c2:=c2++tail) hsz hil (by rw[hrem,hcc];simp);refine ih (c1++c2) _ g' st' a' w' ?_ h' (by simpa using hsz) (by rw[hrem'];simp) (λj hj=>hcm j (by rw[hcc];rcases zw.1 hj with q | q <;> simp[q])) (hdown.set hafter) hrest;rw[hcc] at hk;simp at hk |-;omega
theorem OR{bar:List Nat}{M:Array Nat}{m:Nat}(hr:pP ops bar M=true)(hc:tT M ops.size (m+1)=true){tail:List Nat}(ht:∀x∈tail,m+1<=x){N:Nat}{listed:Array Bool}{a:Act}{w:World}(hsz:listed.size=ops.size)
  (hrem:dH ops.size listed=m::tail)(hdown:Down ops listed)
  (h:∀listed',listed'.size=ops.size->dH ops.size listed'=tail->Down ops listed'->wpOpIn (FX ρ) n X.P ops Q m (wpAnyIn (FX ρ) n X.P .any ops Q N listed') a w):wpAnyIn (FX ρ) n X.P .any ops Q (N+1) listed a w:=by
 refine⟨λhnil=>?_,λi hi=>?_⟩
 .have:=uf hr hsz hrem;rw[hnil] at this;cases this
 .obtain⟨hil,hirem,hafter⟩:=qs hi;have hget:=zo hil;have hwait:=ur hr hdown hget (hafter _ hget);rw[hrem] at hirem;rcases zJ.1 hirem with rfl | q
  .exact h _ (by simpa using hsz) (by simpa using xb (c1:=[]) hsz hil (by simpa using hrem)) (hdown.set hafter)
  .exfalso;have h1:=hwait m (vI hc hil (ht i q) (Nat.lt_succ_self m));rw[ql (ops:=ops) (listed:=listed) (j:=m) (by rw[hrem];exact zi ..)] at h1;cases h1
end
theorem nN{P:Program}{bar:List Nat}{dr:Bool}{K:St->Prop}{ops:Array Oper}:∀(os:List Oper) (i:Nat) (st:St),(∀j,j<os.length->os[j]? = ops[i+j]?)->Ex P ops bar dr i os st K->∃s,Cu P ops bar dr (List.range' i os.length) st s/\K s
 | [],_,st,_,h=>⟨st,rfl,h⟩
 | o::os,i,st,hi,h=>by
  obtain⟨s,h1,h2⟩:=h;obtain⟨s',k1,k2⟩:=nN os (i+1) s (λj hj=>by
   have:=hi (j+1) (by simpa using hj);rwa [zag,show i+(j+1)=i+1+j by omega] at this) h2
  have h0:=hi 0 (by simp);exact⟨s',⟨o,s,by simpa using h0.symm,h1,k1⟩,k2⟩
section
variable{X:Ctx}{Q:PX->Ctx->St->Prop}{st:St}
theorem Mi{ops:Array Oper}{i:Nat}{K:Ctx->St->Prop}{st':St}(h:Wk st st')(k:NV X ops i K st'):NV X ops i K st:=λhd n g a w next Qo hs hq=>by
 obtain⟨g',hs'⟩:=h X g a w hs;exact k hd n g' a w next Qo hs' hq
theorem XZ{id:Nat}{s:St}(h:Q (.exit id) X s):CX Q (.exit id) X s:=h
theorem Px{s:St}(h:Q .ret X s):CX Q .ret X s:=h
theorem Pb{M:Array Nat}{n:Nat}:tT M n n=true:=zd.2 λx hx=>by
 have:x<n:=by simpa using hx
 simp[this]
theorem Yn{id:Nat}{l:List Oper}{y:Code}(bar:List Nat)(m:Nat)(hm:X.P.follows .mixedOrders=true)(hd:eT X.N l.toArray=true)(hr:pP l.toArray bar (Region.before l.toArray)=true)
  (hc:tT (Region.before l.toArray) l.length m=true)(hc1:tT (Region.before l.toArray) l.length (m+1)=true)(hlt:m<l.length)
  (h:Ex X.P l.toArray bar true 0 (l.take m) st (λs=>NV X l.toArray m (λX' s'=>∃s2,Wk s' s2/\Ex X'.P l.toArray bar true (m+1) (l.drop (m+1)) s2 (λs''=>X4 X' y Q s'')) s)):X4 X (.seq (.region id l.toArray true) y) Q st:=by
 intro n g a w hs;refine wpIn_seq (wpIn_region_any hm ?_);have hsize:l.toArray.size=l.length:=by simp
 obtain⟨stM,hrun1,hop⟩:=nN (ops:=l.toArray) (l.take m) 0 st (λj hj=>by
  have:j<m:=by simp at hj;omega
  simp[zaj this]) h
 have hlen:(l.take m).length=m:=by simp;omega
 rw[hlen] at hrun1;have hrem:dH l.toArray.size (Array.replicate l.toArray.size false)=List.range' 0 m++(m::List.range' (m+1) (l.length-(m+1))):=by
  have e1:dH l.toArray.size (Array.replicate l.toArray.size false)=List.range l.toArray.size:=zbc.2 λi hi=>by
   have:i<l.length:=by simpa using hi
   simp[zE,this]
  have e2:(m::List.range' (m+1) (l.length-(m+1)))=List.range' (0+m) (l.length-m):=by
   rw[show l.length-m=(l.length-(m+1))+1 by omega,zab];rfl
  rw[e1,e2,hsize,List.range_eq_range',List.range'_append_1,show m+(l.length-m)=l.length by omega]
 have hdown0:Down l.toArray (Array.replicate l.toArray.size false):=λi o hi=>by
  exfalso;rw[zE,zbj] at hi;split at hi <;> cases hi
 have hfuel:l.toArray.size=m+((l.length-(m+1))+1):=by rw[hsize];omega
 have hc':tT (Region.before l.toArray) l.toArray.size m=true:=by rw[hsize];exact hc
 have hc1':tT (Region.before l.toArray) l.toArray.size (m+1)=true:=by rw[hsize];exact hc1
 have goal:=yp (X:=X) (ρ:=X.ρ) (n:=n) (Q:=Exit.then (λa w=>y.wpIn (FX X.ρ) n X.P (lift X Q) a w) (lift X Q)) (N:=(l.length-(m+1))+1) hd hr hc' (tail:=m::List.range' (m+1) (l.length-(m+1))) (λx hx=>by
   rcases zJ.1 hx with rfl | hx
   .exact zq _
   .have:=List.mem_range'_1.1 hx;omega) (stM:=stM) (λlisted g1 a1 w1 hsz1 hrem1 hdown1 hs1=>?_) m (List.range' 0 m) _ g st a _ (by simp) hs.drew (by simp) hrem (λj hj=>by have:=List.mem_range'_1.1 hj;omega) hdown0 hrun1
 .rw[<-hfuel] at goal;exact goal
 refine OR (X:=X) hr hc1' (λx hx=>by have:=List.mem_range'_1.1 hx;omega) hsz1 hrem1 hdown1 λlisted2 hsz2 hrem2 hdown2=>?_;refine hop hd n g1 a1 w1 _ _ hs1 λX' g2' s2' a2 w2 hs2' hX hex'=>?_;obtain⟨s2,hw2,hex⟩:=hex';obtain⟨g2,hs2⟩:=hw2 X' g2' a2 w2 hs2';obtain⟨⟨hXP,hXρ⟩,hXN⟩:=hX;obtain⟨sE,hrun2,hk⟩:=nN (ops:=l.toArray) (l.drop (m+1)) (m+1) s2 (λj _=>by simp[sm]) hex;have hlen2:(l.drop (m+1)).length=l.length-(m+1):=by simp
 rw[hlen2] at hrun2;have goal2:=yp (X:=X') (ρ:=X.ρ) (n:=n) (Q:=Exit.then (λa w=>y.wpIn (FX X.ρ) n X.P (lift X Q) a w) (lift X Q)) (N:=0) (by rw[hXN];exact hd) hr (m:=l.toArray.size) Pb (tail:=[]) (λx hx=>by cases hx) (stM:=sE) (λlisted g3 a3 w3 hsz3 hrem3 hdown3 hs3=>⟨?_,?_⟩) (l.length-(m+1)) (List.range' (m+1) (l.length-(m+1))) listed2 g2 s2 a2 w2 (by simp) hs2 hsz2 (by simpa using hrem2) (λj hj=>by have:=List.mem_range'_1.1 hj;rw[hsize];omega) hdown2 hrun2
 .rw[hXP] at goal2;exact goal2
 .cases hq:Region.ready .any l.toArray listed with
  | nil=>rfl
  | cons i r=>
   have:=(qs (ops:=l.toArray) (listed:=listed) (i:=i) (by rw[hq];exact zi ..)).2.1;rw[hrem3] at this;cases this
 .have:=hk n g3 a3 w3 hs3;rw[rn ⟨hXP,hXρ⟩,hXP,hXρ] at this;exact this
end
end Go.Pw
namespace Go.Pw
open Go.RowKit Go.Sh Go.Instr
def lx{K:Type}[BEq K]:List K->K->Option Nat
 | [],_=>none
 | a::ks,k=>if k==a then some 0 else (lx ks k).map (· + 1)
theorem yM{K V:Type}[BEq K]:∀(es:List (K × V)) (k:K),y9 es k=(lx (es.map (·.1)) k).bind λi=>es[i]?.map (·.2)
 | [],_=>rfl
 | p::es,k=>by
  unfold y9;rw[ww,lx];split;·rfl
  .rw[yM es k];cases lx (es.map (·.1)) k <;> rfl
theorem ti{K V:Type}[BEq K]:∀(es:List (K × V)) (k:K) (v:V),o0 es k v=match lx (es.map (·.1)) k with
  | some i=>es.set i (k,v)
  | none=>es ++ [(k,v)]
 | [],_,_=>rfl
 | p::es,k,v=>by
  unfold o0;rw[ww,lx];split;·rfl
  .rw[ti es k v];cases lx (es.map (·.1)) k <;> rfl
theorem Ha{K:Type}[BEq K]:∀(ks:List K) (k:K) (i:Nat),lx ks k=some i->∃h:i<ks.length,(k==ks[i])=true
 | [],_,_,h=>by cases h
 | a::ks,k,i,h=>by
  rw[lx] at h;split at h
  .rename_i q;cases h;exact⟨Nat.zero_lt_succ _,q⟩
  .rw[Option.map_eq_some_iff] at h;obtain⟨j,h1,rfl⟩:=h;obtain⟨h2,h3⟩:=Ha ks k j h1;exact⟨Nat.succ_lt_succ h2,by simpa using h3⟩
def VF{K:Type}(EK:K->PV)(ents:List MapEntry)(ks:List K)(w:World)(imm:Nat->Nat->Prop):Prop:=
 ents.length=ks.length/\∀(i:Nat) e k,ents[i]? = some e->ks[i]? = some k->Rd0 w imm e.key (EK k)
structure uw (P:Program) (kt:TypeId) {K:Type} [BEq K] (EK:K->PV):Prop where
 check:∀ {w:World} {imm:Nat->Nat->Prop} {kv:Value} {k:K} (b:Bool),Rd0 w imm kv (EK k)->(checkKey b 10000 kt kv).run P w = .ok () w
 find:∀ {w:World} {imm:Nat->Nat->Prop} {kv:Value} {k:K} (ents:List MapEntry) (ks:List K),Rd0 w imm kv (EK k)->VF EK ents ks w imm->(findKey kt kv ents).run P w = .ok ((lx ks k).bind λi=>ents[i]?.map λe=>(i,e.val)) w
 stays:∀ {w:World} {imm:Nat->Nat->Prop} {kv ku:Value} {k u:K},Rd0 w imm kv (EK k)->Rd0 w imm ku (EK u)->(k==u)=true->(keyThatStays ku kv).run P w = .ok kv w
 fp:∀k:K,(EK k).fp=true/\(EK k).w1=EK k
 eq:∀k u:K,(k==u)=true->k=u
theorem tX{ik:IntKind}{n:Int}:∀(ents:List MapEntry) (ks:List Int) (i0:Nat),ents.length=ks.length->(∀(i:Nat) e k,ents[i]? = some e->ks[i]? = some k->e.key = .int ik k) ->
  findNow (.int ik) (.int ik n) ents i0=some ((lx ks n).bind λi=>ents[i]?.map λe=>(i0+i,e.val))
 | [],[],i0,_,_=>rfl
 | e::ents,[],_,h,_=>by simp at h
 | [],k::ks,_,h,_=>by simp at h
 | e::ents,k::ks,i0,hl,h=>by
  have h0:=h 0 e k rfl rfl;rw[findNow,h0,lx];simp only[sameNow,zU];by_cases q:n=k
  .subst q;simp
  .have q1:(n==k)=false:=by simpa using q
   rw[q1];simp only[zm,zY];rw[tX ents ks (i0+1) (by simpa using hl) λi e' k' h1 h2=>h (i+1) e' k' (by simpa using h1) (by simpa using h2)];cases lx ks n with
   | none=>rfl
   | some j=>
    simp only[zbq,wd,zag];rw[so,za6 1 j]
theorem A9{P:Program}{kt:TypeId}{ik:IntKind}(h:P.underlying kt=some (.int ik)):uw P kt (PV.int ik) where
 check b hr:=by
  cases hr
  unfold checkKey
  simp only[zp,zO h,zh]
  rfl
 find ents ks hr hk:=by
  cases hr
  unfold findKey
  simp only[zp,zO h,zh]
  rw[tX ents ks 0 hk.1 λi e k h1 h2=>by
   have:=hk.2 i e k h1 h2
   cases hq:e.key <;> rw[hq] at this <;> cases this
   rfl]
  simp only[zab]
  rfl
 stays h1 h2 he:=by
  cases h1
  cases h2
  rename_i k u
  have:k=u:=by simpa using he
  subst this
  unfold keyThatStays
  rw[zb (by simp[sameBits])]
  rfl
 fp k:=⟨rfl,rfl⟩
 eq k u h:=by simpa using h
theorem wb{P:Program}{w:World}{b:Nat}{ents:Array MapEntry}{clock:Nat}(h:w.heap[b]? = some (.map ents clock)):(getObj b).run P w = .ok (.map ents clock) w:=by
 simp[getObj,Sem.run,h]
theorem xl{P:Program}{w:World}{b:Nat}{ents:Array MapEntry}{clock:Nat}(o:Obj)(h:w.heap[b]? = some (.map ents clock)):(setObj b o).run P w = .ok () (w.putObj b o):=by
 simp[setObj,Sem.run,h,World.putObj]
def fP{K V:Type}(EK:K->PV)(E:V->PV)(p:K × V):PV:=.tup [EK p.1,E p.2]
def pq(P:Program)(t:TypeId):Option (TypeId × TypeId):=match P.underlying t with | some (.map k e)=>some (k,e) | _=>none
theorem DW{P:Program}{t k e:TypeId}(h:pq P t=some (k,e)):P.underlying t=some (.map k e):=by
 unfold pq at h;split at h;·rename_i h';cases h;exact h'
 .cases h
section
variable{P:Program}{w:World}{imm:Nat->Nat->Prop}{K V:Type}[BEq K]{EK:K->PV}{E:V->PV}
theorem iA.keys{b:Nat}{es:List (K × V)}(h:iA w imm b (es.map (fP EK E))):∃ents clock,w.heap[b]? = some (.map ents clock)/\ents.toList.length=es.length/\VF EK ents.toList (es.map (·.1)) w imm /\
  ∀(i:Nat) e p,ents.toList[i]? = some e->es[i]? = some p->Rd0 w imm e.val (E p.2):=by
 rcases h with ⟨ents,clock,h1,h2,h3⟩ | ⟨s,pos,_,h2⟩;rotate_left
 .cases es with
  | nil=>cases h2
  | cons p es=>cases h2
 have hl:ents.toList.length=es.length:=by simpa using h2
 refine⟨ents,clock,h1,hl,⟨by simpa using hl,λi e k q1 q2=>?_⟩,λi e p q1 q2=>?_⟩
 .obtain⟨kk,vv,k1,k2,k3⟩:=h3 i e (by simpa using q1);rw[zL] at k1 q2;cases hq:es[i]? with
  | none=>rw[hq] at q2;cases q2
  | some p=>
   rw[hq] at k1 q2;cases q2;cases k1;exact k2
 .obtain⟨kk,vv,k1,k2,k3⟩:=h3 i e (by simpa using q1);rw[zL,q2] at k1;cases k1;exact k3
theorem iA.find{b:Nat}{es:List (K × V)}(h:iA w imm b (es.map (fP EK E))){kt:TypeId}(hK:uw P kt EK){kv:Value}{k:K}(hk:Rd0 w imm kv (EK k)) :
  ∃ents clock,w.heap[b]? = some (.map ents clock)/\(∀e,(checkKey e 10000 kt kv).run P w = .ok () w)/\((y9 es k=none/\lx (es.map (·.1)) k=none/\(findKey kt kv ents.toList).run P w = .ok none w) \/
   ∃i e p,lx (es.map (·.1)) k=some i/\ents[i]? = some e/\es[i]? = some p/\y9 es k=some p.2/\(k==p.1)=true/\Rd0 w imm e.val (E p.2)/\Rd0 w imm e.key (EK p.1)/\(findKey kt kv ents.toList).run P w = .ok (some (i,e.val)) w):=by
 obtain⟨ents,clock,h1,h2,h3,h4⟩:=h.keys;refine⟨ents,clock,h1,λe=>hK.check e hk,?_⟩;have hf:=hK.find ents.toList (es.map (·.1)) hk h3;rw[yM];cases hi:lx (es.map (·.1)) k with
 | none=>rw[hi] at hf;exact .inl ⟨rfl,rfl,hf⟩
 | some i=>
  obtain⟨q1,q2⟩:=Ha _ _ _ hi;have q1':i<es.length:=by simpa using q1
  have q3:i<ents.toList.length:=by omega
  rw[hi] at hf;rw[zbq,zc q3] at hf;refine .inr ⟨i,ents.toList[i],es[i],rfl,?_,zc q1',?_,by simpa using q2,h4 i _ _ (zc q3) (zc q1'),h3.2 i _ _ (zc q3) (by rw[zL,zc q1'];rfl),hf⟩;·rw[<-Array.getElem?_toList,zc q3]
  .rw[zbq,zc q1'];rfl
def RH(E:V->PV)(r:Option V)(z:PV)(ok:Bool):PV:=
 if ok then .tup [match r with | some v=>E v | none=>z,.bool r.isSome] else match r with | some v=>E v | none=>z
theorem TP(E:V->PV)(r:Option V)(z:V):RH E r (E z) false=E (r.getD z):=by cases r <;> rfl
theorem Yc(E:V->PV)(r:Option V)(z:V):RH E r (E z) true = .tup [E (r.getD z),.bool r.isSome]:=by cases r <;> rfl
theorem xf{b:Nat}{es:List (K × V)}(h:iA w imm b (es.map (fP EK E))){T kt et:TypeId}(hT:pq P T=some (kt,et))(hK:uw P kt EK){kv:Value}{k:K}(hk:Rd0 w imm kv (EK k)){zv:Value}(hz:A2 P et=some zv)(ok:Bool) :
  ∃v,(Instr.lookup T (.map (some b)) kv ok).run P w = .ok v w/\Rd0 w imm v (RH E (y9 es k) (PV.iu zv) ok):=by
 obtain⟨ents,clock,h1,h2,h3⟩:=h.find hK hk;unfold Instr.lookup;simp only[zp,zO (DW hT),zh,wb h1,rx,h2];rcases h3 with ⟨q1,_,q2⟩ | ⟨i,e,p,_,_,_,q1,_,q3,_,q4⟩
 .rw[q1,q2];simp only[zh,zp,kh hz,rx];cases ok;·exact⟨_,rfl,tD _ _ _⟩
  .refine⟨_,rfl,.tup _ _ rfl λi v c hv hc=>?_⟩;match i with
   | 0=>simp at hv hc;subst hv;subst hc;exact tD _ _ _
   | 1=>simp at hv hc;subst hv;subst hc;exact .bool _
   | _+2=>simp at hv
 .rw[q1,q4];simp only[zh,zp,rx];cases ok;·exact⟨_,rfl,q3⟩
  .refine⟨_,rfl,.tup _ _ rfl λi v c hv hc=>?_⟩;match i with
   | 0=>simp at hv hc;subst hv;subst hc;exact q3
   | 1=>simp at hv hc;subst hv;subst hc;exact .bool _
   | _+2=>simp at hv
end
section
variable{X:Ctx}{g:Gh}{st:St}{a:Act}{w:World}{K V:Type}[BEq K]{EK:K->PV}{E:V->PV}
theorem Kl{l:Nat}{o o':Obj}(hl:w.heap[l]? = some o)(hc:o.isCells=false)(hc':o'.isCells=false)(b i:Nat):(w.putObj l o').cell? ⟨b,i,none⟩=w.cell? ⟨b,i,none⟩:=by
 have hlt:l<w.heap.size:=(wl.1 hl).1;by_cases e:b=l
 .subst e;have none_of:∀(W:World) (o:Obj),W.heap[b]? = some o->o.isCells=false->W.cell? ⟨b,i,none⟩=none:=by
   intro W o hW ho;cases hq:W.cell? ⟨b,i,none⟩ with
   | none=>rfl
   | some u=>
    obtain⟨o2,k1,k2⟩:=cells_of_cell hq;rw[show W.heap[b]? = some o2 from k1] at hW;cases hW;rw[k2] at ho;cases ho
  rw[none_of _ _ (World.putObj_heap_same hlt) hc',none_of _ _ hl hc]
 .exact World.cell?_of_block (by rw[World.putObj_heap_other e])
theorem A3.o0(h:A3 X g st a w){l b:Nat}{r:Row}{o':Obj}{es':List PV}(hl:MB<=l)(hr:st.σ l=some r)(hrc:r.cl=false)(hA:(g.μ l).A=some ⟨b,0,none⟩)
  (ho':br o'=true)(hm:Ext w g.imm (w.putObj b o') g.imm->(w.putObj b o').heap[b]? = some o'->iA (w.putObj b o') g.imm b es') :
  A3 X g ⟨st.env,w7 st.σ l (some { r with els:=[.mapc es'] })⟩ a (w.putObj b o'):=by
 obtain⟨b',es0,m1,m2,m3,m4,m5,m6⟩:=h.maps.at_ l r hl hr;rw[hA] at m2;cases m2;obtain⟨x0,q0,q0m⟩:=m4.obj;have hni:=m5 hrc;have hlt:b<w.heap.size:=(wl.1 q0).1;have hcell:=Kl (w:=w) (o':=o') q0 (K4 q0m) (K4 ho');have hx:Ext w g.imm (w.putObj b o') g.imm:=⟨λ_ _ q=>q,λb i _=>hcell b i,λb2 i x q hx' hm'=>by
  by_cases e:b2=b
  .subst e;exact absurd q (hni i)
  .rw[World.putObj_heap_other e];exact hx'⟩
 have hp:∀l',st.p7 l'->St.p7 ⟨st.env,w7 st.σ l (some { r with els:=[.mapc es'] })⟩ l'/\g.μ l'=g.μ l':=by
  rintro l' ⟨r',hr'⟩;refine⟨?_,rfl⟩;by_cases e:l'=l
  .exact⟨_,by rw[e];exact o8 _ _ _⟩
  .exact⟨r',by rw[show (St.mk st.env (w7 st.σ l (some { r with els:=[.mapc es'] }))).σ l'=st.σ l' from o5 _ _ e];exact hr'⟩
 have hcase:∀l' r',w7 st.σ l (some { r with els:=[.mapc es'] }) l'=some r'->(l'=l/\r'={ r with els:=[.mapc es'] })\/(l'≠l/\st.σ l'=some r'):=by
  intro l' r' q;by_cases e:l'=l
  .subst e;rw[o8] at q;cases q;exact .inl ⟨rfl,rfl⟩
  .rw[o5 _ _ e] at q;exact .inr ⟨e,q⟩
 have hfro:∀l' r',st.σ l'=some r'->∀b2 i,G9 (g.μ l') r' b2 i->(w.putObj b o').frozen? ⟨b2,i,none⟩=w.frozen? ⟨b2,i,none⟩:=λl' r' q b2 i ho=>by
  have e:b2≠b:=λe=>by
   subst e;have:=lD (h.rows l' r' q) ho q0;rw[q0m] at this;cases this
  unfold World.frozen?;simp only;rw[World.putObj_heap_other e]
 have hR:=h.rows l r hr;refine⟨h.size,λi=>(h.env i).mono hx hp,λl' r' q=>?_,λl1 l2 r1 r2 hne q1 q2 b' o' ho=>?_,λl' r' b' o' q ho=>?_,λb2 i q=>?_,h.immsub,h.immsup,?_,?_,λp hp=>?_,h.big,⟨λl' r' hl' q=>?_,λl1 l2 r1 r2 h1 h2 hne q1 q2 q3=>?_⟩⟩
 .rcases hcase l' r' q with ⟨rfl,rfl⟩ | ⟨e,q'⟩
  .refine⟨?_,hR.z,hR.C,?_,λx hx'=>?_,hR.nil,hR.spot,λi x j y hx' hy=>?_,λb2 o2 ho=>?_⟩;·rw[hR.n,m1];rfl
   .exact hR.lo
   .simp only[zH] at hx';subst hx';refine⟨rfl,?_⟩;have:=(hR.el _ (by rw[m1];exact zi ..)).2;rw[<-this];rfl
   .have:x = .mapc es':=by
     cases i with
     | zero=>simp at hx';exact hx'.symm
     | succ i=>simp at hx'
    subst this;cases hy
   .obtain⟨k1,k2,k3⟩:=hR.own b2 o2 ho;exact⟨k1,by rw[hcell];exact k2,by rw[hfro _ _ hr _ _ ho];exact k3⟩
  .exact (h.rows l' r' q').mono hx hp λb2 i ho=>⟨hcell b2 i,hfro l' r' q' b2 i ho⟩
 .rcases hcase l1 r1 q1 with ⟨rfl,rfl⟩ | ⟨e1,q1'⟩ <;> rcases hcase l2 r2 q2 with ⟨rfl,rfl⟩ | ⟨e2,q2'⟩
  .exact absurd rfl hne
  .exact λk=>h.disj l1 l2 r r2 hne hr q2' b' o' ho k
  .exact λk=>h.disj l1 l2 r1 r hne q1' hr b' o' ho k
  .exact h.disj l1 l2 r1 r2 hne q1' q2' b' o' ho
 .rcases hcase l' r' q with ⟨rfl,rfl⟩ | ⟨e,q'⟩;·exact h.ownimm l' r b' o' hr ho
  .exact h.ownimm l' r' b' o' q' ho
 .have:=h.immlt b2 i q;simpa[World.putObj] using this
 .exact h.below.trans ⟨⟨rfl,rfl,rfl,by simp[World.putObj],λk hk=>World.putObj_heap_other (by omega)⟩,zq _⟩
 .obtain⟨rs,h1,h2,h3⟩:=h.marks;refine⟨rs,h1,h2,λr hr=>⟨?_,(h3 r hr).2⟩⟩;rw[World.putObj_heap_other (λe=>by subst e;have h4:=(h3 _ hr).1;rw[q0] at h4;cases h4;cases q0m)];exact (h3 r hr).1
 .obtain⟨k1,k2,k3⟩:=h.obs p hp;refine⟨?_,k2,k3⟩;rw[World.putObj_heap_other (λe=>by rw[e,q0] at k1;rw[<-u8 k1,q0m] at k3;cases k3)];exact k1
 .have apart':=h.maps.apart;rcases hcase l' r' q with ⟨rfl,rfl⟩ | ⟨e,q'⟩;·exact⟨b,es',rfl,hA,m3,hm hx (World.putObj_heap_same hlt),m5,m6⟩
  .obtain⟨b2,es2,n1,n2,n3,n4,n5,n6⟩:=h.maps.at_ l' r' hl' q';have hne:b2≠b:=λe2=>by
    subst e2;exact h.maps.apart l l' r r' hl hl' (zam e) hr q' hrc (by rw[hA,n2])
   exact⟨b2,es2,n1,n2,n3,n4.mono hx λo k1 k2=>by rw[World.putObj_heap_other hne];exact k1,n5,n6⟩
 .have f:∀l' q,w7 st.σ l (some { r with els:=[.mapc es'] }) l'=some q->∃q',st.σ l'=some q'/\q'.cl=q.cl:=λl' q hq=>by
   rcases hcase l' q hq with ⟨rfl,rfl⟩ | ⟨e,q'⟩;·exact⟨r,hr,rfl⟩
   .exact⟨q,q',rfl⟩
  obtain⟨s1,k1,k2⟩:=f l1 r1 q1;obtain⟨s2,k3,_⟩:=f l2 r2 q2;exact h.maps.apart l1 l2 s1 s2 h1 h2 hne k1 k3 (by rw[k2];exact q3)
theorem A3.Ye(h:A3 X g st a w){l b:Nat}{r:Row}{ents':Array MapEntry}{clock':Nat}{es':List PV}(hl:MB<=l)(hr:st.σ l=some r)(hrc:r.cl=false)(hA:(g.μ l).A=some ⟨b,0,none⟩)
  (hn:ents'.size=es'.length)(hm:∀(i:Nat) e,ents'[i]? = some e->∃k v,es'[i]? = some (.tup [k,v])/\Rd0 w g.imm e.key k/\Rd0 w g.imm e.val v) :
  A3 X g ⟨st.env,w7 st.σ l (some { r with els:=[.mapc es'] })⟩ a (w.putObj b (.map ents' clock')):=by
 refine h.o0 hl hr hrc hA rfl λhx hp=>.inl ⟨ents',clock',hp,hn,λi e hi=>?_⟩;obtain⟨k,v,k1,k2,k3⟩:=hm i e hi;exact⟨k,v,k1,k2.mono hx,k3.mono hx⟩
theorem A3.RL(h:A3 X g st a w){l:Nat}{o:Obj}{es:List PV}(ho:br o=true)(hm:(w.alloc o).heap[w.heap.size]? = some o->iA (w.alloc o) g.imm w.heap.size es)(hl:MB<=l)(hn:st.σ l=none) :
  A3 X ⟨g.imm,w7 g.μ l ⟨some ⟨w.heap.size,0,none⟩,1,1,0⟩⟩ ⟨st.env,w7 st.σ l (some ⟨[.mapc es],0,false,0,false⟩)⟩ a (w.alloc o):=by
 have h1:=h.alloc o;have hno:∀b o,¬G9 ⟨some ⟨w.heap.size,0,none⟩,1,1,0⟩ ⟨[.mapc es],0,false,0,false⟩ b o:=by
  rintro b o ⟨s,_,k1,k2⟩;simp only[Nat.mul_zero,zaf] at k1 k2;omega
 have hp:∀l',st.p7 l'->St.p7 ⟨st.env,w7 st.σ l (some ⟨[.mapc es],0,false,0,false⟩)⟩ l'/\w7 g.μ l ⟨some ⟨w.heap.size,0,none⟩,1,1,0⟩ l'=g.μ l':=by
  rintro l' ⟨r',hr'⟩;have hne:l'≠l:=λe=>by subst e;rw[hn] at hr';cases hr'
  exact⟨⟨r',by simpa[o5 _ _ hne] using hr'⟩,o5 _ _ hne⟩
 have hcase:∀l' r',w7 st.σ l (some ⟨[.mapc es],0,false,0,false⟩) l'=some r'->(l'=l/\r'=⟨[.mapc es],0,false,0,false⟩)\/(l'≠l/\st.σ l'=some r'):=by
  intro l' r' q;by_cases e:l'=l
  .subst e;rw[o8] at q;cases q;exact .inl ⟨rfl,rfl⟩
  .rw[o5 _ _ e] at q;exact .inr ⟨e,q⟩
 have hnew:(w.alloc o).heap[w.heap.size]? = some o:=World.alloc_heap_new ..;refine⟨h1.size,λi=>(h1.env i).mono (Ext.refl _ _) hp,λl' r' q=>?_,λl1 l2 r1 r2 hne q1 q2 b o ho=>?_,λl' r' b o q ho=>?_,h1.immlt,h1.immsub,h1.immsup,h1.below,h1.marks,h1.obs,h1.big,⟨λl' r' hl' q=>?_,λl1 l2 r1 r2 k1 k2 hne q1 q2 q3=>?_⟩⟩
 .rcases hcase l' r' q with ⟨rfl,rfl⟩ | ⟨e,q'⟩
  .simp only[o8];refine⟨rfl,rfl,zq _,t8 _,λx hx=>?_,(λq=>by cases q),λ_=>⟨_,_,rfl⟩,λi x j y hx hy=>?_,λb o ho=>absurd ho (hno b o)⟩;·simp only[zH] at hx;subst hx;exact⟨rfl,rfl⟩
   .have:x = .mapc es:=by
     cases i with
     | zero=>simp at hx;exact hx.symm
     | succ i=>simp at hx
    subst this;cases hy
  .simp only[o5 _ _ e];exact (h1.rows l' r' q').mono (Ext.refl _ _) hp λ_ _ _=>⟨rfl,rfl⟩
 .rcases hcase l1 r1 q1 with ⟨rfl,rfl⟩ | ⟨e1,q1'⟩ <;> rcases hcase l2 r2 q2 with ⟨rfl,rfl⟩ | ⟨e2,q2'⟩
  .exact absurd rfl hne
  .simp only[o8] at ho;exact absurd ho (hno b o)
  .simp only[o8];exact hno b o
  .simp only[o5 _ _ e1,o5 _ _ e2] at ho |-;exact h1.disj l1 l2 r1 r2 hne q1' q2' b o ho
 .rcases hcase l' r' q with ⟨rfl,rfl⟩ | ⟨e,q'⟩;·simp only[o8] at ho;exact absurd ho (hno b o)
  .simp only[o5 _ _ e] at ho;exact h1.ownimm l' r' b o q' ho
 .rcases hcase l' r' q with ⟨rfl,rfl⟩ | ⟨e,q'⟩
  .simp only[o8];refine⟨w.heap.size,es,rfl,rfl,h.below.size,hm hnew,λ_ o q=>?_,λq=>by cases q⟩;exact absurd (h.immlt _ _ q) (zbz _)
  .simp only[o5 _ _ e];exact h1.maps.at_ l' r' hl' q'
 .have old:∀l' r',MB<=l'->st.σ l'=some r'->(g.μ l').A≠some ⟨w.heap.size,0,none⟩:=λl' r' hl' q e=>by
   obtain⟨b,es,_,n2,_,n4,_⟩:=h.maps.at_ l' r' hl' q;rw[e] at n2;cases n2;obtain⟨_,n5,_⟩:=n4.obj;exact absurd (wl.1 n5).1 (zbz _)
  rcases hcase l1 r1 q1 with ⟨rfl,rfl⟩ | ⟨e1,q1'⟩ <;> rcases hcase l2 r2 q2 with ⟨rfl,rfl⟩ | ⟨e2,q2'⟩
  .exact absurd rfl hne
  .simp only[o8,o5 _ _ e2];exact λq=>old l2 r2 k2 q2' q.symm
  .simp only[o8,o5 _ _ e1];exact old l1 r1 k1 q1'
  .simp only[o5 _ _ e1,o5 _ _ e2];exact h1.maps.apart l1 l2 r1 r2 k1 k2 hne q1' q2' q3
theorem A3.Yd(h:A3 X g st a w){l:Nat}(hl:MB<=l)(hn:st.σ l=none) :
  A3 X ⟨g.imm,w7 g.μ l ⟨some ⟨w.heap.size,0,none⟩,1,1,0⟩⟩ ⟨st.env,w7 st.σ l (some ⟨[.mapc []],0,false,0,false⟩)⟩ a (w.alloc (.map #[] 0)):=by
 exact h.RL rfl (λhp=>.inl ⟨#[],0,hp,rfl,λi e hi=>by simp at hi⟩) hl hn
theorem Ci{s:St}(t l:Nat){es:List PV}{lo z:Nat}{opn:Bool}(ht:s.env t = .mp l)(hr:s.σ l=some ⟨[.mapc es],lo,opn,z,false⟩) :
  Wk s ⟨w7 s.env t (.abs (V5 es)),w7 s.σ l (some ⟨[.mapc es],lo,opn,z,true⟩)⟩:=λX g a w h=>by
 have hv:=h.env t;rw[ht] at hv;obtain⟨_,hl,b,hA,hb⟩:=hv.wD;obtain⟨b',es0,m1,m2,m3,m4,m5,m6⟩:=h.maps.at_ l _ hl hr;rw[hA] at m2;cases m2;cases m1;obtain⟨x0,q0,q0m⟩:=m4.obj;have hx:Ext w g.imm w (λb2 o=>g.imm b2 o\/b2=b):=⟨λ_ _ q=>.inl q,λ_ _ _=>rfl,λ_ _ _ _ q _=>q⟩;have hp:∀l',s.p7 l'->St.p7 ⟨w7 s.env t (.abs (V5 es)),w7 s.σ l (some ⟨[.mapc es],lo,opn,z,true⟩)⟩ l'/\g.μ l'=g.μ l':=by
  rintro l' ⟨r',hr'⟩;refine⟨?_,rfl⟩;by_cases e:l'=l
  .exact⟨_,by rw[e];exact o8 _ _ _⟩
  .exact⟨r',by rw[show (St.mk (w7 s.env t (.abs (V5 es))) (w7 s.σ l (some ⟨[.mapc es],lo,opn,z,true⟩))).σ l'=s.σ l' from o5 _ _ e];exact hr'⟩
 have hcase:∀l' r',w7 s.σ l (some ⟨[.mapc es],lo,opn,z,true⟩) l'=some r'->(l'=l/\r'=⟨[.mapc es],lo,opn,z,true⟩)\/(l'≠l/\s.σ l'=some r'):=by
  intro l' r' q;by_cases e:l'=l
  .subst e;rw[o8] at q;cases q;exact .inl ⟨rfl,rfl⟩
  .rw[o5 _ _ e] at q;exact .inr ⟨e,q⟩
 have hR:=h.rows l _ hr;have hlt:b<w.heap.size:=(wl.1 q0).1;refine⟨⟨λb2 o=>g.imm b2 o\/b2=b,g.μ⟩,⟨h.size,λi=>?_,λl' r' q=>?_,λl1 l2 r1 r2 hne q1 q2 b' o' ho=>?_,λl' r' b' o' q ho=>?_,λb2 o q=>?_,λb2 o q=>?_,λb2 o q=>.inl (h.immsup b2 o q),h.below,h.marks,h.obs,h.big,⟨λl' r' hl' q=>?_,λl1 l2 r1 r2 h1 h2 hne q1 q2 q3=>?_⟩⟩⟩
 .by_cases e:i=t
  .subst e;rw[show (St.mk (w7 s.env i (.abs (V5 es))) (w7 s.σ l (some ⟨[.mapc es],lo,opn,z,true⟩))).env i = .abs (V5 es) from o8 _ _ _,hb];exact .cl (DC ⟨b,rfl,.inr rfl,m4.mono hx λo k1 k2=>k1⟩)
  .rw[show (St.mk (w7 s.env t (.abs (V5 es))) (w7 s.σ l (some ⟨[.mapc es],lo,opn,z,true⟩))).env i=s.env i from o5 _ _ e];exact (h.env i).mono hx hp
 .rcases hcase l' r' q with ⟨rfl,rfl⟩ | ⟨e,q'⟩
  .refine⟨hR.n,hR.z,hR.C,hR.lo,hR.el,hR.nil,hR.spot,λi x j y hx' hy=>?_,λb2 o2 ho=>hR.own b2 o2 ho⟩;have:x = .mapc es:=by
    cases i with
    | zero=>simp at hx';exact hx'.symm
    | succ i=>simp at hx'
   subst this;cases hy
  .exact (h.rows l' r' q').mono hx hp λ_ _ _=>⟨rfl,rfl⟩
 .rcases hcase l1 r1 q1 with ⟨rfl,rfl⟩ | ⟨e1,q1'⟩ <;> rcases hcase l2 r2 q2 with ⟨rfl,rfl⟩ | ⟨e2,q2'⟩
  .exact absurd rfl hne
  .exact λk=>h.disj l1 l2 _ r2 hne hr q2' b' o' ho k
  .exact λk=>h.disj l1 l2 r1 _ hne q1' hr b' o' ho k
  .exact h.disj l1 l2 r1 r2 hne q1' q2' b' o' ho
 .have own':∀r0,s.σ l'=some r0->G9 (g.μ l') r0 b' o'->¬(g.imm b' o'\/b'=b):=λr0 q0' ho' k=>by
   rcases k with k | k
   .exact h.ownimm l' r0 b' o' q0' ho' k
   .subst k;have:=lD (h.rows l' r0 q0') ho' q0;rw[q0m] at this;cases this
  rcases hcase l' r' q with ⟨rfl,rfl⟩ | ⟨e,q'⟩;·exact own' _ hr ho
  .exact own' _ q' ho
 .rcases q with q | rfl
  .exact h.immlt b2 o q
  .exact hlt
 .rcases q with q | rfl
  .exact h.immsub b2 o q
  .exact .inr m3
 .rcases hcase l' r' q with ⟨rfl,rfl⟩ | ⟨e,q'⟩;·exact⟨b,es,rfl,hA,m3,m4.mono hx λo k1 k2=>k1,λq=>(by cases q),λ_=>.inr rfl⟩
  .obtain⟨b2,es2,n1,n2,n3,n4,n5,n6⟩:=h.maps.at_ l' r' hl' q';have hne:b2≠b:=λe2=>by
    subst e2;exact h.maps.apart l l' _ r' hl hl' (zam e) hr q' rfl (by rw[hA,n2])
   exact⟨b2,es2,n1,n2,n3,n4.mono hx λo k1 k2=>k1,λc o k=>k.elim (n5 c o) hne,λc=>.inl (n6 c)⟩
 .rcases hcase l1 r1 q1 with ⟨rfl,rfl⟩ | ⟨e1,q1'⟩;·cases q3
  .rcases hcase l2 r2 q2 with ⟨rfl,rfl⟩ | ⟨e2,q2'⟩;·exact h.maps.apart l1 l2 r1 _ h1 h2 hne q1' hr q3
   .exact h.maps.apart l1 l2 r1 r2 h1 h2 hne q1' q2' q3
end
theorem Rd.uR{w:World}{imm:Nat->Nat->Prop}{μ:Nat->H6}{p7:Nat->Prop}{v:Value}{R:World->(Nat->Nat->Prop)->Value->Prop}(h:Rd w imm μ p7 v (.abs R)):R w imm v:=by
 generalize hd:PV.abs R=d at h;cases h <;> try cases hd
 rename_i h;generalize hd':PV.abs R=d' at h;cases h <;> cases hd'
 rename_i _ h;exact h w imm (Ext.refl _ _)
section
variable{X:Ctx}{ops:Array Oper}{i:Nat}{os:List Oper}{K:Ctx->St->Prop}{env:Nat->PV}{σ:Nat->Option Row}{ty:TypeId}{pos:String}{after:Array Edge}{gd:Option (Nat × Bool)}{t:Tmp}{KT VT:Type}[BEq KT]{EK:KT->PV}{E:VT->PV}
theorem gj{o:Oper}{st:St}(ho:ops[i]? = some o)(hw:B1 ops st.env o=some true)(hnd:∀c,o.op ≠ .defer c)
  (h:∀g a w,A3 X g st a w->∃v w' g' st' d,(execOp a.eval o).run X.P w = .ok (.value v) w'/\A3 X g' st' a w'/\Rd w' g'.imm g'.μ st'.p7 v d/\K X ⟨P8 st'.env o.dst d,st'.σ⟩):NV X ops i K st:=by
 intro hd n g a w next Qo hs hq;unfold wpOpIn;rw[ho];simp only;rw[zb (Q8 hs hw)];obtain⟨v,w',g',st',d,h1,h2,h3,h4⟩:=h g a w hs;exact D2 hnd h1 (hq X _ _ _ _ (h2.put (F4 hd ho) h3) ⟨⟨rfl,rfl⟩,rfl⟩ h4)
theorem Mh{o:Oper}{st:St}(ho:ops[i]? = some o)(hw:B1 ops st.env o=some true)(hnd:∀c,o.op ≠ .defer c)(hdst:o.dst=none)
  (h:∀g a w,A3 X g st a w->∃w' g' st',(execOp a.eval o).run X.P w = .ok .skip w'/\A3 X g' st' a w'/\K X st'):NV X ops i K st:=by
 intro hd n g a w next Qo hs hq;unfold wpOpIn;rw[ho];simp only;rw[zb (Q8 hs hw)];obtain⟨w',g',st',h1,h2,h4⟩:=h g a w hs;refine tq hnd h1 ?_;rw[hdst];exact hq X _ _ _ _ h2 ⟨⟨rfl,rfl⟩,rfl⟩ h4
theorem Ak{T:TypeId}(l:Nat)(hw:B1 ops env ⟨some t,.makeMap T none,ty,pos,after,gd⟩=some true)(hn:σ l=none)(k:Sq X ops (i+1) os K ⟨w7 env t (.mp l),w7 σ l (some ⟨[.mapc (([]:List (KT × VT)).map (fP EK E))],0,false,0,false⟩)⟩)(hl:MB<=l:=by exact zD rfl) :
  Sq X ops i (⟨some t,.makeMap T none,ty,pos,after,gd⟩::os) K ⟨env,σ⟩:=I7 λho=>gj ho hw (λc q=>by cases q) λg a w hs=>
 ⟨_,_,_,_,.mp l,F0 (run_makeMap T w),hs.Yd hl hn,.mp l _ ⟨_,o8 _ _ _⟩ hl (or H6.A (o8 _ _ _)),k⟩
theorem NI{T kt et:TypeId}{x y:Operand}{ok:Bool}{l lo z:Nat}{opn cl:Bool}{es:List (KT × VT)}{k:KT}{zv:Value}{d z0:PV}(hw:B1 ops env ⟨some t,.lookup T x y ok,ty,pos,after,gd⟩=some true)(hx:y5 env x = .mp l)(hl:σ l=some ⟨[.mapc (es.map (fP EK E))],lo,opn,z,cl⟩)
  (hy:y5 env y=EK k)(hT:pq X.P T=some (kt,et))(hK:uw X.P kt EK)(hz:A2 X.P et=some zv)(hz0:(PV.iu zv).w1=z0)(hd:(RH E (y9 es k) z0 ok)=d)
  (kk:Sq X ops (i+1) os K ⟨w7 env t d,σ⟩):Sq X ops i (⟨some t,.lookup T x y ok,ty,pos,after,gd⟩::os) K ⟨env,σ⟩:=I7 λho=>gj ho hw (λc q=>by cases q) λg a w hs=>by
 have hxv:=hs.eval x;rw[show y5 (St.env ⟨env,σ⟩) x=_ from hx] at hxv;obtain⟨_,hlm,b,hA,e⟩:=hxv.wD;have hyv:=hs.eval y;rw[show y5 (St.env ⟨env,σ⟩) y=_ from hy] at hyv;obtain⟨b',es0,m1,m2,m3,m4,_⟩:=hs.maps.at_ l _ hlm hl;rw[hA] at m2;cases m2;cases m1;obtain⟨v,h1,h2⟩:=xf (P:=X.P) m4 hT hK (hyv.fp (hK.fp k).1) hz ok;refine⟨v,w,g,_,d,F0 (by rw[e];exact h1),hs,?_,kk⟩;rw[<-hd,<-hz0];cases hm:y9 es k with
 | some u=>rw[hm] at h2;cases ok <;> exact .cl h2
 | none=>
  rw[hm] at h2;cases ok;·exact .cl h2.w1
  .refine .cl ?_;cases h2 with
   | tup vs _ hn h=>
    refine .tup vs _ hn λi v c hv hc=>?_;match i with
    | 0=>simp at hc;subst hc;exact (h 0 v _ hv rfl).w1
    | 1=>simp at hc;subst hc;exact h 1 v _ hv rfl
    | _+2=>simp at hc
theorem NK{op:Op}{T kt et:TypeId}{x y u:Operand}{l lo z:Nat}{opn:Bool}{es:List (KT × VT)}{k:KT}{v:VT}(hop:op = .mapUpdate T x y u\/op = .insert T x y u)(hw:B1 ops env ⟨none,op,ty,pos,after,gd⟩=some true)(hx:y5 env x = .mp l)
  (hl:σ l=some ⟨[.mapc (es.map (fP EK E))],lo,opn,z,false⟩)(hy:y5 env y=EK k)(hu:∀(w:World) (imm:Nat->Nat->Prop) (μ:Nat->H6) (p7:Nat->Prop) (q:Value),Rd w imm μ p7 q (y5 env u)->Rd w imm μ p7 q (E v))(hE:(E v).fp=true)(hT:pq X.P T=some (kt,et))(hK:uw X.P kt EK)
  (kk:Sq X ops (i+1) os K ⟨env,w7 σ l (some ⟨[.mapc ((o0 es k v).map (fP EK E))],lo,opn,z,false⟩)⟩):Sq X ops i (⟨none,op,ty,pos,after,gd⟩::os) K ⟨env,σ⟩:=I7 λho=>Mh ho hw (λc q=>by rcases hop with rfl | rfl <;> cases q) rfl λg a w hs=>by
 have hxv:=hs.eval x;rw[show y5 (St.env ⟨env,σ⟩) x=_ from hx] at hxv;obtain⟨_,hlm,b,hA,e⟩:=hxv.wD;have hyv:=hs.eval y;rw[show y5 (St.env ⟨env,σ⟩) y=_ from hy] at hyv;have hy0:=hyv.fp (hK.fp k).1;have huv:=hu _ _ _ _ _ (hs.eval u);have hu0:=huv.fp hE;obtain⟨b',es0,m1,m2,m3,m4,_⟩:=hs.maps.at_ l _ hlm hl;rw[hA] at m2;cases m2;cases m1;have hrun:∃ents' clock',(Instr.mapUpdate T (.map (some b)) (a.eval y) (a.eval u)).run X.P w = .ok () (w.putObj b (.map ents' clock'))/\ents'.size=((o0 es k v).map (fP EK E)).length /\
   ∀(i:Nat) e,ents'[i]? = some e->∃k' v',((o0 es k v).map (fP EK E))[i]? = some (.tup [k',v'])/\Rd0 w g.imm e.key k'/\Rd0 w g.imm e.val v':=by
  obtain⟨ents,clock,h1,h2,h3⟩:=m4.find hK hy0;obtain⟨ents2,clock2,g1,g2,g3,g4⟩:=m4.keys;rw[h1] at g1;cases g1;unfold Instr.mapUpdate;simp only[zp,zO (DW hT),zh,wb h1,h2];have hsz:ents.size=es.length:=by simpa using g2
  have old:∀(i:Nat) e,ents[i]? = some e->∃p,es[i]? = some p/\Rd0 w g.imm e.key (EK p.1)/\Rd0 w g.imm e.val (E p.2):=λi e hi=>by
   have hlt:i<es.length:=by rw[<-hsz];exact (wl.1 hi).1
   have hi':ents.toList[i]? = some e:=by simpa using hi
   exact⟨es[i],zc hlt,g3.2 i e _ hi' (by rw[zL,zc hlt];rfl),g4 i e _ hi' (zc hlt)⟩
  rcases h3 with ⟨q1,q2,q3⟩ | ⟨j,e1,p,q1,q2,q3,q4,q5,q6,q7,q8⟩
  .rw[q3,ti,q2];simp only[zh,xl _ h1];refine⟨_,_,rfl,by simp[hsz],λi e' hi=>?_⟩;rw[Array.getElem?_push] at hi;split at hi
   .rename_i hie;cases hi;refine⟨EK k,E v,?_,hy0,hu0⟩;rw[zL,hie,hsz,zM (zq _),Nat.sub_self];rfl
   .obtain⟨p,k1,k2,k3⟩:=old i e' hi;refine⟨_,_,?_,k2,k3⟩;rw[zL,zN (A7 k1),k1];rfl
  .have hst:=hK.stays hy0 q7 q5;rw[q8,ti,q1];refine⟨ents.modify j λe=>{ e with key:=a.eval y,val:=a.eval u },clock,?_,by simp[hsz],λi e' hi=>?_⟩;·simp only[zh,q2,wd,zR,zp,hst,xl _ h1]
   rw[Array.getElem?_modify] at hi;split at hi
   .rename_i hji;subst hji;rw[q2] at hi;cases hi;refine⟨EK k,E v,?_,hy0,hu0⟩;rw[zL,ms (A7 q3)];rfl
   .rename_i hji;obtain⟨p,k1,k2,k3⟩:=old i e' hi;refine⟨_,_,?_,k2,k3⟩;rw[zL,zbs hji,k1];rfl
 obtain⟨ents',clock',h1,h2,h3⟩:=hrun;refine⟨_,g,_,?_,hs.Ye (clock':=clock') hlm hl rfl hA h2 h3,kk⟩;rcases hop with rfl | rfl
 .exact HN (by rw[e];exact h1)
 .exact HN (by rw[e];exact h1)
theorem G1{op:Op}{T kt et:TypeId}{x y u:Operand}{l lo z:Nat}{opn:Bool}{es:List (KT × VT)}{k:KT}{v:VT}(hop:op = .mapUpdate T x y u\/op = .insert T x y u)(hw:B1 ops env ⟨none,op,ty,pos,after,gd⟩=some true)(hx:y5 env x = .mp l)
  (hl:σ l=some ⟨[.mapc (es.map (fP EK E))],lo,opn,z,false⟩)(hy:y5 env y=EK k)(hu:(y5 env u).w1=E v)(hE:(E v).fp=true)(hT:pq X.P T=some (kt,et))(hK:uw X.P kt EK)
  (kk:Sq X ops (i+1) os K ⟨env,w7 σ l (some ⟨[.mapc ((o0 es k v).map (fP EK E))],lo,opn,z,false⟩)⟩):Sq X ops i (⟨none,op,ty,pos,after,gd⟩::os) K ⟨env,σ⟩:=NK hop hw hx hl hy (λ_ _ _ _ _ q=>hu▸q.w1) hE hT hK kk
end
section
variable{P:Program}{σ:Nat->Option Row}{ρ:Operand->PV}{dst:Option Tmp}{KT VT:Type}[BEq KT]{EK:KT->PV}{E:VT->PV}
theorem LV{W:PV->PV}(hW:∀ {w:World} {imm:Nat->Nat->Prop} {v:Value} {d:PV},Rd0 w imm v d->Rd0 w imm v (W d)){T kt et:TypeId}{x y:Operand}{ok:Bool}{es:List (KT × VT)}{k:KT}{zv:Value}{d z0:PV}(hx:ρ x = .abs (V5 (es.map (fP EK E))))(hy:ρ y=EK k)(hT:pq P T=some (kt,et))(hK:uw P kt EK)(hz:A2 P et=some zv)
  (hz0:W (PV.iu zv)=z0)(hd:(RH E (y9 es k) z0 ok)=d):B9 P σ ρ dst (.lookup T x y ok) d .none:=by
 refine .pureV _ _ (λc q=>by cases q) (λT x q=>by cases q) λo w imm μ p7 ev ho hev=>?_;have hxv:=hev x (by simp[Op.operands]);have hyv:=hev y (by simp[Op.operands]);rw[hx] at hxv;rw[hy] at hyv;have hy0:=hyv.fp (hK.fp k).1;have:V5 (es.map (fP EK E)) w imm (ev x):=hxv.uR;obtain⟨b,e,_,m4⟩:=this;obtain⟨v,h1,h2⟩:=xf (P:=P) m4 hT hK hy0 hz ok;obtain⟨dst,op,ty,pos,after,guard⟩:=o;simp only at ho;subst ho;refine⟨v,F0 (by rw[e];exact h1),?_⟩;rw[<-hd,<-hz0];cases hm:y9 es k with
 | some u=>rw[hm] at h2;cases ok <;> exact .cl h2
 | none=>
  rw[hm] at h2;cases ok;·exact .cl (hW h2)
  .refine .cl ?_;cases h2 with
   | tup vs _ hn h=>
    refine .tup vs _ hn λi v c hv hc=>?_;match i with
    | 0=>simp at hc;subst hc;exact hW (h 0 v _ hv rfl)
    | 1=>simp at hc;subst hc;exact h 1 v _ hv rfl
    | _+2=>simp at hc
theorem Dl{T kt et:TypeId}{x y:Operand}{ok:Bool}{es:List (KT × VT)}{k:KT}{zv:Value}{d z0:PV}(hx:ρ x = .abs (V5 (es.map (fP EK E))))(hy:ρ y=EK k)(hT:pq P T=some (kt,et))(hK:uw P kt EK)(hz:A2 P et=some zv)
  (hz0:(PV.iu zv).w1=z0)(hd:(RH E (y9 es k) z0 ok)=d):B9 P σ ρ dst (.lookup T x y ok) d .none:=LV (W:=PV.w1) (λq=>q.w1) hx hy hT hK hz hz0 hd
end
end Go.Pw
namespace Go.Pw
open Go.RowKit
section
variable{X:Ctx}{g:Gh}{st:St}{a:Act}{w:World}{n:Nat}{K:Act->World->Prop}{Q:Exit->Act->World->Prop}{ρ:Option Nat}{P:Program}
theorem JZ{R0:List (Nat × Row)}:∀ {R:List (Nat × Row)},Ar R0 st R->∀p∈R,iB id R0 st.σ p
 | [],_,_,h=>by cases h
 | _::_,h,p,hp=>by
  rcases zJ.1 hp with rfl | hp
  .exact h.1
  .exact JZ h.2 p hp
theorem Ur(h:A3 X g st a w){L:List (Nat × PV)}{R:List (Nat × Row)}(hR:Ar R st R){l:Nat}{r:Row}(hl:(St.of L R).σ l=some r):∃r1,st.σ l=some r1/\∀b o,G9 (g.μ l) r b o->G9 (g.μ l) r1 b o:=by
 obtain⟨r1,k1,_,k2,k3,k4,_,k6⟩:=JZ hR _ (bW hl);refine⟨r1,k1,?_⟩;rintro b o ⟨s',hA,q1,q2⟩;have hC:=(h.rows _ _ k1).C;refine⟨s',hA,by simp only at k3;rw[k3];exact q1,?_⟩;have:(if r.opn then (g.μ l).C else (g.μ l).n)*(g.μ l).z<=(if r1.opn then (g.μ l).C else (g.μ l).n)*(g.μ l).z:=zn _ (by
  simp only[id] at hC;cases q:r.opn;·simp only[zm,zY];split <;> omega
  .rw[k4 q];exact zq _)
 omega
theorem Um{o:Oper}{x y:Operand}{T E:TypeId}{ys:List PV}{z by_ l s:Nat}{r:Row}{zv:Value}(L:List (Nat × PV))(R:List (Nat × Row))(h:A3 X g st a w)(hAg:Ag R st L)(hAr:Ar R st R)(hsR:R.lookup s=none)
  (ho:o.op = .call { callee:=.builtin .append,args:=#[x,y],argTypes:=#[T,T] })(hdst:∀t,o.dst=some t->t<X.N)(hlm:l<MB)(hl:R.lookup l=none)
  (hx:y5 st.env x = .sl s)(hsr:st.σ s=some r)(hop:r.opn=true)(hlo0:r.lo=0)(hcl:r.cl=true)(hy:Src st.σ (y5 st.env y) ys true)(hE:B0 X.P T=some E)(hz:u0 X.P E=some z)(hb:K7 X.P E=some by_)(hzv:A2 X.P E=some zv)
  (hzz:zv.cells.size=z)(hel:∀e∈r.els++ys,e.cells.length=z)(hrz:r.z=z)(hfit:(r.els.length+ys.length)*by_<=140737488355328)(h63:r.els.length+ys.length<=9223372036854775807)
  (hK:∀g' a' w',A3 X g' ⟨P8 (KG L) o.dst (.sl l),w7 (rowsOf R) l (some ⟨r.els++ys,0,true,z,true⟩)⟩ a' w'->K a' w'):o.wpIn (FX ρ) n X.P a w K Q:=by
 have hnd:∀c,o.op ≠ .defer c:=λc=>by rw[ho];simp
 have hv:=h.eval x;have hu:=h.eval y;rw[hx] at hv;obtain⟨hp,e⟩:=hv.bz;have hR:=h.rows s r hsr;obtain⟨B,cB,vals,eB,hyel,hlv,hvr,hone,hvc⟩:=Src.reads h hu hy (z:=z) (λy hy=>hel y (zas _ hy));have hD:A3 X g (St.of L R) a w:=ND L R hAg hAr X g a w h;have hDl:(St.of L R).σ l=none:=hl;have hDs:(St.of L R).σ s=none:=hsR;have hmz:(g.μ s).z=z:=by rw[hR.z,hrz]
 rcases zB (g.μ s).C ((g.μ s).n+ys.length) with hbig | hroom
 .-- a new block
  have hm:0<ys.length:=by have:=hR.C;omega
  obtain⟨bB,sB,rfl,hBc⟩:=hvc hm;obtain⟨A',cA,olds,eA,hxel,hlo,hor,_,hoc⟩:=Src.reads h hv (.inr ⟨s,r,rfl,hsr,rfl,rfl⟩:Src st.σ (.sl s) r.els r.cl) (z:=z) (λy hy=>hel y (mt _ hy));rw[e] at eA;simp only[Value.slice.injEq] at eA;obtain⟨rfl,hn',rfl⟩:=eA;rw[hn'] at e hbig;obtain⟨C',cs,hr,hC',hcs,rest,hrest⟩:=ic (P:=X.P) (w:=w) (ty:=o.type) (c:=cB) (B:=⟨bB,sB,none⟩) (m:=ys.length) hE hz hb hzv hzz hbig (by rw[<-hn'];exact hR.C) hR.nil hlo (λq=>hoc q) hlv
   (λj u hj=>by rw[H7];exact hBc j u hj) hfit h63
  have hs:=hD.drew.tG (l:=l) (els:=r.els++ys) (T:=E) (C:=C') (z:=z) (opn:=true) (cl:=true) cs hlm hDl (by simpa using hC') hcs
   (λe he=>⟨(zw.1 he).elim (hxel e) (hyel e),hel e he⟩) (λi x j y u hx hy hu=>by
    have hu':(olds++vals++rest)[i*z+j]? = some u:=by rw[<-hrest];simpa using hu
    have:=wo (R:=λu y=>Rd0 w g.imm u y) hlo (λx hx=>hel x hx) (λi x j y u hx hy hu=>(hor i x j y u hx hy hu).2 hcl) (λi x j y u hx hy hu=>(hvr i x j y u hx hy hu).2 rfl) rest hlv i x j y u hx hy hu';have hx0:Ext w g.imm w.drew g.imm:=⟨λ_ _ q=>q,λ_ _ _=>rfl,λ_ _ _ _ q _=>q⟩;exact⟨.cl (this.mono hx0),λ_=>this.mono hx0⟩)
  refine D2 hnd (cp ho (by rw[e,eB];exact hr)) (hK _ _ _ (hs.put hdst ?_));have:=dy (w':=w.drew.alloc (.cells cs E)) (imm:=g.imm) (μ:=w7 g.μ l ⟨some ⟨w.heap.size,0,none⟩,(r.els++ys).length,C',z⟩)
   (p7:=St.p7 ⟨(St.of L R).env,w7 (St.of L R).σ l (some ⟨r.els++ys,0,true,z,true⟩)⟩) (l:=l) ⟨_,o8 _ _ _⟩ (o8 _ _ _)
  simpa using this
 .-- in place
  have hn:=hR.n;have hT:∀b s',(g.μ s).A=some ⟨b,s',none⟩->∀o',s'+(g.μ s).n*z<=o'->o'<s'+(g.μ s).C*z->G9 (g.μ s) r b o':=λb s' hA o' q1 q2=>
   ⟨s',hA,by have:r.lo*(g.μ s).z<=(g.μ s).n*(g.μ s).z:=zn _ hR.lo;rw[hmz] at *;omega,by rw[hop,zb rfl,hmz];exact q2⟩
  have hTi:∀b o',(∃s',(g.μ s).A=some ⟨b,s',none⟩/\s'+(g.μ s).n*z<=o'/\o'<s'+(g.μ s).C*z)->¬g.imm b o':=by
   rintro b o' ⟨s',hA,q1,q2⟩ q;exact h.ownimm s r b o' hsr (hT b s' hA o' q1 q2) q
  have hW:∀b s',(g.μ s).A=some ⟨b,s',none⟩->∀o',s'<=o'->o'<s'+(g.μ s).C*z->G9 (g.μ s) r b o':=λb s' hA o' q1 q2=>
   ⟨s',hA,by rw[hlo0,zbu];exact q1,by rw[hop,zb rfl,hmz];exact q2⟩
  have hnew:∀(w':World) (v':Value),(Builtin.append_ #[T,T] o.type #[.slice (g.μ s).A (g.μ s).n (g.μ s).C,a.eval y]).run X.P w = .ok (.slice (g.μ s).A ((g.μ s).n+ys.length) (g.μ s).C) w' ->
    (w'=w/\ys.length=0\/∃b s',(g.μ s).A=some ⟨b,s',none⟩/\w'=w.setCells b (s'+(g.μ s).n*z) vals)->o.wpIn (FX ρ) n X.P a w K Q:=by
   intro w' v' hrun hw';have hcell:∀b o',¬(∃s',(g.μ s).A=some ⟨b,s',none⟩/\s'+(g.μ s).n*z<=o'/\o'<s'+(g.μ s).C*z)->w'.cell? ⟨b,o',none⟩=w.cell? ⟨b,o',none⟩/\w'.frozen? ⟨b,o',none⟩=w.frozen? ⟨b,o',none⟩:=by
    intro b o' q;rcases hw' with ⟨rfl,_⟩ | ⟨b',s',hA,rfl⟩;·exact⟨rfl,rfl⟩
    .refine⟨pi b' vals _ w ⟨b,o',none⟩ λq1 _=>?_,za5 b' vals _ w _⟩;simp only at q1 |-;subst q1;rcases zB o' (s'+(g.μ s).n*z) with q2 | q2
     .exact .inl q2
     .right;rcases zB o' (s'+(g.μ s).n*z+vals.length) with q3 | q3
      .exfalso;refine q ⟨s',hA,q2,?_⟩;have:((g.μ s).n+ys.length)*z<=(g.μ s).C*z:=zn _ hroom;rw[we] at this;omega
      .exact q3
   have hxw:Ext w (g.imm) w' (g.imm):=⟨λ_ _ q=>q,λb o' q=>(hcell b o' λq'=>hTi b o' q' q).1,λk _ x _ hx hc=>by
    rcases hw' with ⟨rfl,_⟩ | ⟨b',s',hA,rfl⟩;·exact hx
    .exact (D6 b' vals _ w).same k x hx (K4 hc)⟩
   have hlw:w'.heap.size=w.heap.size:=by
    rcases hw' with ⟨rfl,_⟩ | ⟨b',s',hA,rfl⟩;·rfl
    .exact size_setCells _ _ _ _
   have hbw:jf X.w0.heap.size X.w0 w':=by
    rcases hw' with ⟨rfl,_⟩ | ⟨b',s',hA,rfl⟩;·exact h.below
    .rcases n8 vals.length with q | q
     .have:vals = []:=zG q;subst this;exact h.below
     .refine cU b' ?_ vals _ w h.below;refine (h.bt hsr (hT b' s' hA (s'+(g.μ s).n*z) (zq _) ?_)).1;have:((g.μ s).n+ys.length)*z<=(g.μ s).C*z:=zn _ hroom;rw[we] at this;omega
   have hother:∀l' r' b o',(St.of L R).σ l'=some r'->G9 (g.μ l') r' b o'->¬G9 (g.μ s) r b o':=by
    intro l' r' b o' q ho' k;have hl':l'≠s:=λe=>by rw[e,hDs] at q;cases q
    obtain⟨r1,k1,k2⟩:=Ur h hAr q;exact h.disj l' s r1 r hl' k1 hsr b o' (k2 b o' ho') k
   have hin:∀b o',(∃s',(g.μ s).A=some ⟨b,s',none⟩/\s'+(g.μ s).n*z<=o'/\o'<s'+(g.μ s).C*z)->G9 (g.μ s) r b o':=λb o' ⟨s',hA,q1,q2⟩=>hT b s' hA o' q1 q2;have hM:=hD.move (w':=w') (imm':=g.imm) hxw (λl' r' b o' q ho'=>⟨(hcell b o' λk=>hother l' r' b o' q ho' (hin b o' k)).1,(hcell b o' λk=>hother l' r' b o' q ho' (hin b o' k)).2,hD.ownimm l' r' b o' q ho'⟩)
    (λb o' q=>by rw[hlw];exact hD.immlt b o' q) hD.immsub hbw (λk x hx hc=>by
     rcases hw' with ⟨rfl,_⟩ | ⟨b',s',hA,rfl⟩;·exact hx
     .exact (D6 b' vals _ w).same k x hx hc) (λ_ _ _ q _ _=>q)
   have hown:∀b o',G9 ⟨(g.μ s).A,(g.μ s).n+ys.length,(g.μ s).C,z⟩ ⟨r.els++ys,0,true,z,true⟩ b o'->G9 (g.μ s) r b o':=by
    rintro b o' ⟨s',hA,q1,q2⟩;simp only[zU,zbu,zaf] at q1 q2;exact hW b s' hA o' q1 q2
   have hN:=hM.row (l:=l) (m:=⟨(g.μ s).A,(g.μ s).n+ys.length,(g.μ s).C,z⟩) (r:=⟨r.els++ys,0,true,z,true⟩) hlm hDl
    ⟨by simp[hn],rfl,hroom,t8 _,λe he=>⟨(zw.1 he).elim (λq=>(hR.el e q).1) (hyel e),hel e he⟩,hR.nil,hR.spot,λi x j y hx hy=>?_,λb o' q=>?_⟩
    (λl' r' b o' q ho' k=>hother l' r' b o' q ho' (hown b o' k)) (λb o' q k=>h.ownimm s r b o' hsr (hown b o' q) k)
   .refine D2 hnd (cp ho (by rw[e];exact hrun)) (hK _ _ _ (hN.put hdst ?_));exact dy (l:=l) (m:=⟨(g.μ s).A,(g.μ s).n+ys.length,(g.μ s).C,z⟩) ⟨_,o8 _ _ _⟩ (o8 _ _ _)
   .simp only at hx |-;have hi:=A7 hx;simp at hi;have hxz:x.cells.length=z:=hel x (zg hx);have hj:=PV.C1 hy;rcases zB i r.els.length with q | q
    .rw[zN q] at hx;obtain⟨b,s',u,k1,k2,k3,k4,k5⟩:=hR.cell i x j y hx hy;rw[hmz] at k2;have hzz':(i+1)*z<=(g.μ s).n*z:=zn _ (by omega);rw[we,zaw] at hzz';refine⟨b,s',u,k1,?_,.cl ((k5 hcl).mono hxw),λq'=>absurd q' (zch _),λ_=>(k5 hcl).mono hxw⟩;rw[(hcell b _ ?_).1];· exact k2
     rintro⟨s2,hA2,q1,q2⟩;rw[k1] at hA2;cases hA2;omega
    .rw[zM q] at hx;have hm:0<ys.length:=by omega
     rcases hw' with ⟨_,q0⟩ | ⟨b',s',hA,rfl⟩;·omega
     .have e1:(i-r.els.length)*z=i*z-r.els.length*z:=Nat.sub_mul _ _ _;have e2:r.els.length*z<=i*z:=zn _ q;have e3:(i-r.els.length+1)*z<=ys.length*z:=zn _ (by omega);rw[we,zaw] at e3;have hlt:(i-r.els.length)*z+j<vals.length:=by omega
      have hu':=zc hlt;have hrd:=hvr _ x j y _ hx hy hu';have hin2:=my b' vals (s'+(g.μ s).n*z) w (λj' hj'=>(hR.own b' _ (hT b' s' hA _ (by omega) (by
       have:((g.μ s).n+ys.length)*z<=(g.μ s).C*z:=zn _ hroom;rw[we] at this;omega))).2.1) _ hlt
      rw[show s'+(g.μ s).n*z+((i-r.els.length)*z+j)=s'+i*z+j by rw[hn];omega] at hin2;exact⟨b',s',_,hA,hin2,.cl ((hrd.2 rfl).mono hxw),λq'=>absurd q' (zch _),λ_=>(hrd.2 rfl).mono hxw⟩
   .obtain⟨s',hA,q1,q2⟩:=q;simp only[zU,zbu,zaf] at q1 q2;obtain⟨k1,k2,k3⟩:=hR.own b o' (hW b s' hA o' q1 q2);refine⟨k1,?_,?_⟩
    .rcases hw' with ⟨rfl,_⟩ | ⟨b',s2,hA2,rfl⟩;·exact k2
     .rw[hA] at hA2;cases hA2;by_cases q3:s'+(g.μ s).n*z<=o'/\o'<s'+(g.μ s).n*z+vals.length
      .have:=my b vals (s'+(g.μ s).n*z) w (λj' hj'=>(hR.own b _ (hT b s' hA _ (by omega) (by
        have:((g.μ s).n+ys.length)*z<=(g.μ s).C*z:=zn _ hroom;rw[we] at this;omega))).2.1) (o'-(s'+(g.μ s).n*z)) (by omega)
       rw[show s'+(g.μ s).n*z+(o'-(s'+(g.μ s).n*z))=o' by omega] at this;rw[this];rfl
      .rw[pi b vals _ w ⟨b,o',none⟩ λ_ _=>by simp only;omega];exact k2
    .rcases hw' with ⟨rfl,_⟩ | ⟨b',s2,hA2,rfl⟩;·exact k3
     .rw[za5];exact k3
  rcases n8 ys.length with hm | hm
  .refine hnew w undef ?_ (.inl ⟨rfl,hm⟩);rw[eB,hm];exact lQ hE hz hR.C
  .obtain⟨bB,sB,rfl,hBc⟩:=hvc hm;obtain⟨b,s',hA⟩:=hR.spot (by omega);refine hnew _ undef ?_ (.inr ⟨b,s',hA,rfl⟩);rw[eB,hA];refine kg hE hz hroom hlv (λj u hj=>by rw[H7];exact hBc j u hj) hone λj hj=>(hR.own b _ (hT b s' hA _ (by omega) (by
    have:((g.μ s).n+ys.length)*z<=(g.μ s).C*z:=zn _ hroom;rw[we] at this;omega))).2
end
section
open Go
variable{P:Program}{F:Fence}{n:Nat}{b:Frame}{a:Act}{k:List Item}{cs:List Frame}{w:World}
theorem aT{c:Code}:step P (lone (b.atR a (.code (.scope c)::k)) cs w) = .next (lone (b.atR a (.code c :: .inScope c::k)) cs w):=
 step_lone_go (by simp[stepG,stepG.exec,Frame.atR])
theorem pS{c:Code}:step P (lone (b.atR a (.inScope c::k)) cs w) = .next (lone (b.atR a k) cs w):=
 step_lone_go (by simp[stepG,stepG.exec,Frame.atR])
theorem Gc{c:Code}{Q:Exit->Act->World->Prop}(hg:∀l a w,¬Q (.goto l) a w)(h:c.wpIn F n P Q a w):(Code.scope c).wpIn F n P Q a w:=by
 intro b k cs hro hb hr;have h0:(lone (b.atR a (.code (.scope c)::k)) cs w).fenced P F:=zcb hb hr rfl;obtain⟨e,a₁,w₁,hq,harr⟩:=h b (.inScope c::k) cs hro hb hr;cases e with
 | normal=>exact⟨.normal,a₁,w₁,hq,.head h0 aT (StepsIn.trans harr (.one (zcb hb hr rfl) pS))⟩
 | exit id=>
  have hx:exitTo id (.inScope c::k)=exitTo id k:=by simp[exitTo]
  exact⟨.exit id,a₁,w₁,hq,λk' hk=>.head h0 aT (harr.1 k' (by rw[hx];exact hk)),
   λhr' hk=>let ⟨k₁,h1,h2⟩:=harr.2 hr' (by rw[hx];exact hk);⟨k₁,h1,.head h0 aT h2⟩⟩
 | goto l=>exact absurd hq (hg l _ _)
 | ret=>exact⟨_,a₁,w₁,hq,.of_steps (.one h0 aT) harr⟩
 | panic ch=>exact⟨_,a₁,w₁,hq,.of_steps (.one h0 aT) harr⟩
 | outgrown=>exact⟨_,a₁,w₁,hq,.of_steps (.one h0 aT) harr⟩
end
def FO(Q:PX->Ctx->St->Prop):PX->Ctx->St->Prop
 | .goto _,_,_=>False
 | e,X,s=>Q e X s
theorem yb{Q:PX->Ctx->St->Prop}{X:Ctx}{s:St}(h:Q .normal X s):FO Q .normal X s:=h
theorem wU{X:Ctx}{Q:PX->Ctx->St->Prop}{st:St}{c:Code}(h:X4 X c (FO Q) st):X4 X (.scope c) Q st:=λn g a w hs=>by
 refine zbr (Gc (Q:=lift X (FO Q)) (λl a' w' q=>?_) (h n g a w hs)) λe a' w' q=>?_;·obtain⟨_,_,_,_,_,q⟩:=q;exact q
 .cases e <;> simp only[lift] at q |- <;> first | exact q | (obtain⟨X',g',st',h1,h3,h2⟩:=q;exact⟨X',g',st',h1,h3,h2⟩) | (obtain⟨X',g',st',h1,h3,h2⟩:=q;exact absurd h2 id)
def Yi(e:Option Nat):World->(Nat->Nat->Prop)->Value->Prop:=λ_ _ v=>v=match e with
 | none=>.nilFunc
 | some n=>.func (.func n) #[] #[]
abbrev qV(e:Option Nat):PV:=.abs (Yi e)
def PV.Cq:PV->PV
 | .fn (.func n) []=>qV (some n)
 | .nilfn=>qV none
 | d=>d
def PV.Ts:PV->PV
 | .agg cs=>.agg (cs.map PV.Cq)
 | d=>d.Cq
theorem PV.Tr{d:PV}(h:d.sc=true):d.Cq.sc=true:=by
 unfold PV.Cq;split <;> first | rfl | exact h
theorem Rd0.Cq{w:World}{imm:Nat->Nat->Prop}{v:Value}{d:PV}(h:Rd0 w imm v d):Rd0 w imm v d.Cq:=by
 unfold PV.Cq;split
 .cases h with
  | fn f vs cap hn _=>
   obtain rfl:vs = #[]:=Array.eq_empty_of_size_eq_zero (by simpa using hn);exact .abs _ _ rfl λ_ _ _=>rfl
 .cases h;exact .abs _ _ rfl λ_ _ _=>rfl
 .exact h
theorem Rd.Cq{w:World}{imm:Nat->Nat->Prop}{μ:Nat->H6}{p7:Nat->Prop}{v:Value}{d:PV}(h:Rd w imm μ p7 v d):Rd w imm μ p7 v d.Cq:=by
 unfold PV.Cq;split;·exact .cl (h.Z0 rfl).Cq
 .exact .cl (h.Z0 rfl).Cq
 .exact h
theorem Rd.Ts{w:World}{imm:Nat->Nat->Prop}{μ:Nat->H6}{p7:Nat->Prop}{v:Value}{d:PV}(h:Rd w imm μ p7 v d):Rd w imm μ p7 v d.Ts:=by
 by_cases e:∃cs,d = .agg cs
 .obtain⟨cs,rfl⟩:=e;obtain⟨vs,rfl,hn,hk⟩:=h.fL;have hsc:=h.Aw;refine .agg vs _ (zd.2 λc hc=>?_) (by simpa using hn) λi v c hv hc=>?_
  .obtain⟨c0,h0,rfl⟩:=zI.1 hc;exact PV.Tr (zd.1 hsc c0 h0)
  .obtain⟨c0,k1,rfl⟩:=dh hc;exact (hk i v c0 hv k1).Cq
 .have:d.Ts=d.Cq:=by cases d <;> first | rfl | exact absurd ⟨_,rfl⟩ e
  rw[this];exact h.Cq
theorem Cj{s:St}(t:Nat){d d':PV}(ht:s.env t=d)(hd:∀w imm μ p7 v,Rd w imm μ p7 v d->Rd w imm μ p7 v d'):Wk s ⟨w7 s.env t d',s.σ⟩:=λX g a w h=>by
 refine⟨g,⟨h.size,λi=>?_,h.rows,h.disj,h.ownimm,h.immlt,h.immsub,h.immsup,h.below,h.marks,h.obs,h.big,h.maps⟩⟩;by_cases q:i=t
 .subst q;rw[show (St.mk (w7 s.env i d') s.σ).env i=d' from o8 _ _ _];exact hd _ _ _ _ _ (by rw[<-ht];exact h.env i)
 .rw[show (St.mk (w7 s.env t d') s.σ).env i=s.env i from o5 _ _ q];exact h.env i
theorem mF{s:St}(t:Nat){d':PV}(h:(s.env t).Ts=d'):Wk s ⟨w7 s.env t d',s.σ⟩:=by
 subst h;exact Cj t rfl λ_ _ _ _ _ q=>q.Ts
theorem Se{s:St}(t:Nat){e:Option Nat}{n:Nat}(ht:s.env t=qV e)(he:e=some n):Wk s ⟨w7 s.env t (.fn (.func n) []),s.σ⟩:=by
 subst he;refine Cj t ht λw imm μ p7 v q=>?_;have:=q.uR;unfold Yi at this;rw[this];exact .cl (.fn _ #[] [] rfl λi v c _ hc=>by simp at hc)
section
variable{X:Ctx}{ops:Array Oper}{i:Nat}{os:List Oper}{K:Ctx->St->Prop}{env:Nat->PV}{σ:Nat->Option Row}{ty:TypeId}{pos:String}{after:Array Edge}{gd:Option (Nat × Bool)}{t:Tmp}{KT VT:Type}[BEq KT]{EK:KT->PV}{E:VT->PV}
theorem jA{op:Op}{T kt et:TypeId}{x y u:Operand}{l lo z:Nat}{opn:Bool}{es:List (KT × VT)}{k:KT}{v:VT}(hop:op = .mapUpdate T x y u\/op = .insert T x y u)(hw:B1 ops env ⟨none,op,ty,pos,after,gd⟩=some true)(hx:y5 env x = .mp l)
  (hl:σ l=some ⟨[.mapc (es.map (fP EK E))],lo,opn,z,false⟩)(hy:y5 env y=EK k)(hu:(y5 env u).Ts=E v)(hE:(E v).fp=true)(hT:pq X.P T=some (kt,et))(hK:uw X.P kt EK)
  (kk:Sq X ops (i+1) os K ⟨env,w7 σ l (some ⟨[.mapc ((Go.Sh.o0 es k v).map (fP EK E))],lo,opn,z,false⟩)⟩):Sq X ops i (⟨none,op,ty,pos,after,gd⟩::os) K ⟨env,σ⟩:=NK hop hw hx hl hy (λ_ _ _ _ _ q=>hu▸q.Ts) hE hT hK kk
end
section
variable{P:Program}{σ:Nat->Option Row}{ρ:Operand->PV}{dst:Option Tmp}{KT VT:Type}[BEq KT]{EK:KT->PV}{E:VT->PV}
theorem WD{T kt et:TypeId}{x y:Operand}{ok:Bool}{es:List (KT × VT)}{k:KT}{zv:Value}{d z0:PV}(hx:ρ x = .abs (V5 (es.map (fP EK E))))(hy:ρ y=EK k)(hT:pq P T=some (kt,et))(hK:uw P kt EK)(hz:A2 P et=some zv)
  (hz0:(PV.iu zv).Cq=z0)(hd:(RH E (Go.Sh.y9 es k) z0 ok)=d):B9 P σ ρ dst (.lookup T x y ok) d .none:=LV (W:=PV.Cq) (λq=>q.Cq) hx hy hT hK hz hz0 hd
end
end Go.Pw
namespace Go.Pw
theorem nl{a b:Nat}(h:Nat.ble a b=true:=by rfl):a<=b:=zD h
theorem rS{R:List (Nat × Row)}{σ:Nat->Option Row}{l:Nat}{r r':Row}(h:σ l=some r:=by rfl)(hz:r.z=r'.z:=by rfl)(hl:r.lo=r'.lo:=by rfl)(ho:r'.opn=true->r.opn=true:=by first | exact λ_=>rfl | exact λq=>nomatch q)(hc:r.cl=true:=by rfl)(he:r.els=r'.els:=by rfl)(hc':r'.cl=true:=by rfl)(hm:RQ l l r.cl r'.cl=true:=by rfl):iB id R σ (l,r'):=FL h hz hl ho hc he hc' hm
theorem rN{π:Nat->Nat}{R:List (Nat × Row)}{σ:Nat->Option Row}{l:Nat}{r r':Row}(h:σ (π l)=some r:=by rfl)(hz:r.z=r'.z:=by rfl)(hl:r.lo=r'.lo:=by rfl)(ho:r'.opn=true->r.opn=true:=by first | exact λ_=>rfl | exact λq=>nomatch q)(hc:r.cl=true:=by rfl)(he:r.els=r'.els:=by rfl)(hc':r'.cl=true:=by rfl)(hm:RQ l (π l) r.cl r'.cl=true:=by rfl):iB π R σ (l,r'):=Jq h hz hl ho hc he hc' hm
theorem io{p q:Prop}(h:p\/q:=by first | exact .inl rfl | exact .inr rfl):p\/q:=h
theorem J{α:Sort _}{a:α}:a=a:=rfl
abbrev PV.I(x:Int):PV:=.int .i64 x
abbrev _root_.Go.Value.I(x:Int):Value:=.int .i64 x
abbrev iF:Int->PV:=PV.int .i64
abbrev PV.L{α:Type}(f:α->PV)(l:List α):PV:=.G8 false (List.map f l)
theorem oj{α:Type}{a b:α}(h:some a=some b):a=b:=u8 h
theorem om{P:Program}{σ:Nat->Option Row}{ρ:Operand->PV}{dst:Option Tmp}{x:Operand}{d:PV}(h:ρ x=d):B9 P σ ρ dst (.move x) d .none:=Fq h
theorem mI{P:Program}{σ:Nat->Option Row}{ρ:Operand->PV}{dst:Option Tmp}{x:Operand}{n:Int}(h:ρ x = .int .i64 n):B9 P σ ρ dst (.move x) (.int .i64 n) .none:=Fq h
theorem mB{P:Program}{σ:Nat->Option Row}{ρ:Operand->PV}{dst:Option Tmp}{x:Operand}{n:Bool}(h:ρ x = .bool n):B9 P σ ρ dst (.move x) (.bool n) .none:=Fq h
theorem kC{P:Program}{f:FuncId}{fn:Func}{c:Code}(h:P.funcs[f]? = some fn)(hb:fn.body=some c)(hn:fn.name ≠ "runtime.NumGoroutine" := by decide):x8 P f:=⟨fn,c,h,hb,hn⟩
theorem tr:True:=trivial
theorem oF{P:Program}{σ:Nat->Option Row}{ρ:Operand->PV}{dst:Option Tmp}{T:TypeId}{x:Operand}{f l i q off k:Nat}{ft:TypeId}(hx:ρ x = .ptr l i q)(ho:bT P T f=some (off,ft))(hk:q+off=k):B9 P σ ρ dst (.fieldAddr T x f) (.ptr l i k) .none:=Bn hx ho hk
theorem oS{P:Program}{σ:Nat->Option Row}{ρ:Operand->PV}{dst:Option Tmp}{T:TypeId}{x:Operand}{l i f:Nat}{r:Row}{y d:PV}(hx:ρ x = .ptr l i f)(hl:σ l=some r)(hy:r.els[i]? = some y)(ha:I9 P T=some false)(hd:y.cells[f]? = some d):B9 P σ ρ dst (.load T x) d .none:=vg hx hl hy ha hd
theorem oL{P:Program}{σ:Nat->Option Row}{ρ:Operand->PV}{dst:Option Tmp}{T:TypeId}{x:Operand}{l i f n:Nat}{r:Row}{y:PV}{cs:List PV}(hx:ρ x = .ptr l i f)(hl:σ l=some r)(hy:r.els[i]? = some y)(ha:I9 P T=some true)(hs:u0 P T=some n)(hf:f+n<=y.cells.length)(hd:(y.cells.drop f).take n=cs):B9 P σ ρ dst (.load T x) (.agg cs) .none:=Bo hx hl hy ha hs hf hd
section
variable{X:Ctx}{Q:PX->Ctx->St->Prop}{st:St}
theorem yN{ops:Array Oper}{i:Nat}{K:Ctx->St->Prop}(h:K X st):Sq X ops i [] K st:=Xg h
theorem s1{id:Nat}{l:List Oper}(h:Sq X l.toArray 0 l (Q .normal) st)(hd:eT X.N l.toArray=true:=by kernel_rfl):X4 X (.region id l.toArray false) Q st:=RY hd h
theorem sR{id:Nat}{l:List Oper}{y:Code}(h:Sq X l.toArray 0 l (λX' s=>X4 X' y Q s) st)(hd:eT X.N l.toArray=true:=by kernel_rfl):X4 X (.seq (.region id l.toArray false) y) Q st:=sr hd h
end
theorem A6{α β:Type}{x:Option α}{f:α->Option β}{r:β}{C:Prop}(h:x.bind f=some r)(k:∀v,x=some v->f v=some r->C):C:=by
 cases x with
 | none=>cases h
 | some v=>exact k v rfl h
section
variable{X:Ctx}{ops:Array Oper}{i:Nat}{os:List Oper}{K:Ctx->St->Prop}{env:Nat->PV}{σ:Nat->Option Row}{ty:TypeId}{pos:String}{after:Array Edge}{gd:Option (Nat × Bool)}{t:Tmp}
theorem yS{T:TypeId}{x:Operand}{l j f:Nat}{r:Row}{y d:PV}(hw:B1 ops env ⟨some t,.load T x,ty,pos,after,gd⟩=some true)(hx:y5 env x = .ptr l j f)(hl:σ l=some r)(hy:r.els[j]? = some y)(ha:I9 X.P T=some false)(hd:y.cells[f]? = some d)(k:Sq X ops (i+1) os K ⟨w7 env t d,σ⟩):Sq X ops i (⟨some t,.load T x,ty,pos,after,gd⟩::os) K ⟨env,σ⟩:=y0 hw (vg hx hl hy ha hd) k
end
open Go.RowKit
def Rm(f:FuncId)(ds:List PV)(w:World)(imm:Nat->Nat->Prop)(v:Value):Prop:=∃ws:Array Value,v = .func (.func f) ws #[]/\Ct w imm ws ds
theorem Ct.mono{w:World}{imm:Nat->Nat->Prop}{w':World}{imm':Nat->Nat->Prop}(he:Ext w imm w' imm'){vs:Array Value}{ds:List PV}(h:Ct w imm vs ds):Ct w' imm' vs ds:=⟨h.1,λi v d hv hd=>(h.2 i v d hv hd).mono he⟩
theorem Ct.append{w:World}{imm:Nat->Nat->Prop}{vs us:Array Value}{ds es:List PV}(h:Ct w imm vs ds)(k:Ct w imm us es):Ct w imm (vs++us) (ds++es):=by
 refine⟨by simp[h.1,k.1],λi v d hv hd=>?_⟩;rcases zB i vs.size with q | q
 .rw[pu q] at hv;rw[zN (by rw[<-h.1];exact q)] at hd;exact h.2 i v d hv hd
 .rw[zac q] at hv;rw[zM (by rw[<-h.1];exact q),<-h.1] at hd;exact k.2 _ v d hv hd
theorem UK{w:World}{imm:Nat->Nat->Prop}{v:Value}{f:FuncId}{ds:List PV}(h:Rm f ds w imm v):Rd0 w imm v (.abs (Rm f ds)):=by
 obtain⟨ws,rfl,h⟩:=h;exact .abs _ _ rfl λw' imm' he=>⟨ws,rfl,h.mono he⟩
theorem tp{P:Program}{σ:Nat->Option Row}{ρ:Operand->PV}{dst:Option Tmp}{f:FuncId}{x:Operand}{d:PV}(hx:ρ x=d)(hc:d.fp=true:=by rfl):B9 P σ ρ dst (.makeFunc (.func f) #[x] #[]) (.abs (Rm f [d])) .none:=by
 refine .pureV _ _ (λ_=>nofun) (λ_ _=>nofun) λo w imm μ p7 ev ho hr=>?_;have h1:=hr x (by simp[Op.operands]);rw[hx] at h1;refine⟨.func (.func f) #[ev x] #[],by simp[execOp,ho,Instr.makeFunc],.cl (UK ⟨#[ev x],rfl,rfl,λi v e hv he=>?_⟩)⟩;match i with
 | 0=>
  simp at hv he;subst hv he;exact h1.fp hc
 | i+1=>simp at he
section
variable{X:Ctx}{g:Gh}{st:St}{a:Act}{w:World}{n:Nat}{K:Act->World->Prop}{Q:Exit->Act->World->Prop}{ρ:Option Nat}{P:Program}
theorem EN{o:Oper}{x:Operand}{args:Array Operand}{ts:Array TypeId}{f:FuncId}{ws:Array Value}(ho:o.op = .call { callee:=.value x,args,argTypes:=ts })(hx:a.eval x = .func (.func f) ws #[])
  (hb:∃fn c,P.funcs[f]? = some fn/\fn.body=some c/\fn.name ≠ "runtime.NumGoroutine"):(execOp a.eval o).run P w = .ok (.enter f (ws++args.map a.eval)) w:=by
 obtain⟨fn,c,h1,h2,h3⟩:=hb;obtain⟨dst,op,ty,pos,after,guard⟩:=o;simp only at ho;subst ho;have hne:(fn.name == "runtime.NumGoroutine")=false:=by simpa using h3
 simp only[execOp,resolve,hx,Deferred.ofValue,zp,rx,zh,invoke,callFunc,program,Sem.run,h1,hne,h2];simp
theorem Mb{o:Oper}{x:Operand}{args:Array Operand}{ts:Array TypeId}{f:FuncId}{bs vs:List PV}{d:PV}(h:A3 X g st a w)(ho:o.op = .call { callee:=.value x,args,argTypes:=ts })
  (hdst:∀t,o.dst=some t->t<X.N)(hf:y5 st.env x = .abs (Rm f bs))(hb:∃fn c,X.P.funcs[f]? = some fn/\fn.body=some c/\fn.name ≠ "runtime.NumGoroutine")
  (hok:(args.toList.map (y5 st.env)).all (PV.ky st.σ)=true)(hv:(args.toList.map (y5 st.env)).map (PV.vw st.σ)=vs)(hls:(args.toList.map (y5 st.env)).flatMap (PV.L0 st.σ) = [])(hc:N7 X.P f (bs++vs) d)
  (hK:∀g' a' w',A3 X g' ⟨P8 st.env o.dst d,st.σ⟩ a' w'->K a' w'):o.wpIn (FX ρ) n X.P a w K Q:=by
 subst hv;have hx:=h.eval x;rw[hf] at hx;obtain⟨ws,e,hws⟩:=hx.uR;obtain⟨hsz,hrd⟩:=uS h (args:=args) (vs:=#[]) (cap:=[]) rfl (λi v c hv hd=>by simp at hd);simp only[p0,Array.append_empty] at hsz hrd;obtain⟨imm2,hF,hX,hSh⟩:=h.Q2 [];have hargs:=(kr h (E6.refl _) hX hsz hrd hok (λl hl r hr=>by rw[hls] at hl;cases hl)).w2;refine aW (λc=>by rw[ho];simp) (EN ho e hb) ((hc w imm2 _ hF.immlt h.gt ((hws.mono hX).append hargs)).mono λev w' hr=>?_);obtain⟨v,rfl,hbel,hres⟩:=hr;refine⟨v,rfl,?_⟩;have hS:=hF.called hbel (λ_ _=>True);refine hK _ _ _ (hS.put hdst (.cl (hres.mono ⟨λb o q=>?_,λ_ _ _=>rfl,λ_ _ _ _ q _=>q⟩)));rcases q with q | ⟨q1,q2⟩
 .exact .inl q
 .exact .inr ⟨trivial,q1,q2⟩
end
section
variable{X:Ctx}{ops:Array Oper}{i:Nat}{os:List Oper}{K:Ctx->St->Prop}{env:Nat->PV}{σ:Nat->Option Row}{ty:TypeId}{pos:String}{after:Array Edge}{gd:Option (Nat × Bool)}{t:Tmp}
theorem Ck{x:Operand}{args:Array Operand}{ts:Array TypeId}{f:FuncId}{bs xs vs:List PV}{d:PV}(hw:B1 ops env ⟨some t,.call { callee:=.value x,args,argTypes:=ts },ty,pos,after,gd⟩=some true)(hx:y5 env x = .abs (Rm f bs))(hk:x8 X.P f)
  (ha:args.toList.map (y5 env)=xs)(h:N7 X.P f (bs++vs) d)(k:Sq X ops (i+1) os K ⟨w7 env t d,σ⟩)(hok:xs.all (PV.ky σ)=true:=by rfl)(hv:xs.map (PV.vw σ)=vs:=by rfl)(hls:xs.flatMap (PV.L0 σ) = []:=by rfl) :
  Sq X ops i (⟨some t,.call { callee:=.value x,args,argTypes:=ts },ty,pos,after,gd⟩::os) K ⟨env,σ⟩:=I7 λho=>by
 subst ha;intro hd n g a w next Qo hs hq;unfold wpOpIn;rw[ho];simp only;rw[zb (Q8 hs hw)];exact Mb hs rfl (F4 hd ho) hx hk hok hv hls h λg' a' w' h'=>hq X g' _ a' w' h' ⟨⟨rfl,rfl⟩,rfl⟩ k
end
end Go.Pw
namespace Go.Pw
section
variable{F:Fence}{n:Nat}{P:Program}{Q:Exit->Act->World->Prop}{a:Act}{w:World}
def KH(l:Nat)(J:Act->World->Prop)(Q:Exit->Act->World->Prop):Exit->Act->World->Prop
 | .goto l',a,w=>l'=l/\J a w
 | e,a,w=>Q e a w
theorem xD{l:Nat}{c:Code}(I:Act->World->Prop)(μ:Act->World->Nat)(h₀:I a w)
  (round:∀a w,I a w->c.wpIn F n P (KH l (λa' w'=>I a' w'/\μ a' w'<μ a w) Q) a w):(Code.scope (.seq (.label l) c)).wpIn F n P Q a w:=by
 intro b k cs hro hb hr;have hg:∀k,gotoIn l (.inScope (.seq (.label l) c)::k)=some (.code (.seq .skip c) :: .inScope (.seq (.label l) c)::k):=λk=>by simp[gotoIn,findLabel]
 have key:∀j a w,μ a w=j->I a w ->
   ∃e a' w',Q e a' w'/\ArrivesIn (Machine.fenced P F) P (lone (b.atR a (.code c :: .inScope (.seq (.label l) c)::k)) cs w) b k cs e a' w':=by
  intro j;induction j using Nat.strongRecOn with
  | _ j ih=>
   intro a w hn hI;obtain⟨e,a₁,w₁,hq,harr⟩:=round a w hI b (.inScope (.seq (.label l) c)::k) cs hro hb hr;cases e with
   | normal=>exact⟨.normal,a₁,w₁,hq,StepsIn.trans harr (.one (zcb hb hr rfl) pS)⟩
   | exit id=>
    have hx:exitTo id (.inScope (.seq (.label l) c)::k)=exitTo id k:=by simp[exitTo]
    exact⟨.exit id,a₁,w₁,hq,λk' hk=>harr.1 k' (by rw[hx];exact hk),λhr' hk=>harr.2 hr' (by rw[hx];exact hk)⟩
   | goto l'=>
    obtain⟨rfl,hI₁,hlt⟩:=hq;obtain⟨e₂,a₂,w₂,hq₂,harr₂⟩:=ih (μ a₁ w₁) (hn▸hlt) a₁ w₁ rfl hI₁;exact⟨e₂,a₂,w₂,hq₂,.of_steps (StepsIn.trans (harr.1 _ (hg k)) (.head (zcb hb hr rfl) stepR_seq (.one (zcb hb hr rfl) stepR_skip))) harr₂⟩
   | ret=>exact⟨_,a₁,w₁,hq,harr⟩
   | panic ch=>exact⟨_,a₁,w₁,hq,harr⟩
   | outgrown=>exact⟨_,a₁,w₁,hq,harr⟩
 obtain⟨e,a',w',hq,harr⟩:=key _ a w rfl h₀;exact⟨e,a',w',hq,.of_steps (.head (zcb hb hr rfl) aT (.head (zcb hb hr rfl) stepR_seq (.one (zcb hb hr rfl) stepR_label))) harr⟩
end
def CW(l:Nat)(K:Ctx->St->Prop)(Q:PX->Ctx->St->Prop):PX->Ctx->St->Prop
 | .goto l',X,s=>l'=l/\K X s
 | e,X,s=>Q e X s
section
variable{X:Ctx}{Q:PX->Ctx->St->Prop}{st:St}
open Go.Sh
theorem WO{S E:Type}{f:S->Option (S ⊕ E)}{s0:S}{e:E}{l:Nat}{c:Code}(I:S->Ctx->St->Prop)(h:lp f s0=some e)(h0:∃st1,Wk st st1/\I s0 X st1)(hX:∀s X1 s1,I s X1 s1->X1.P=X.P/\X1.ρ=X.ρ)
  (hr:∀s X1 s1,I s X1 s1->∀x,f s=some x->(∀e',x = .inr e'->e'=e)->X4 X1 c (CW l (λX' s'=>∃s2,x = .inl s2/\∃s'',Wk s' s''/\I s2 X' s'') Q) s1):X4 X (.scope (.seq (.label l) c)) Q st:=by
 intro n g a w hs;let J:Nat->Act->World->Prop:=λm a w=>∃s X1 g1 s1,A3 X1 g1 s1 a w/\I s X1 s1/\Lz f m s=some e
 have least:∀a w,∃k,(∃m,J m a w)->J k a w/\∀m,J m a w->k<=m:=by
  intro a w;by_cases q:∃m,J m a w
  .obtain⟨k,h1,h2⟩:=exists_least q;exact⟨k,λ_=>⟨h1,h2⟩⟩
  .exact⟨0,λh=>absurd h q⟩
 obtain⟨st1,hw1,hi1⟩:=h0;obtain⟨g1,hs1⟩:=hw1 X g a w hs;refine xD (λa w=>∃m,J m a w) (λa w=>Classical.choose (least a w)) ⟨_,s0,X,g1,st1,hs1,hi1,by rw[<-Da];exact h⟩ ?_;rintro a w hI;obtain⟨⟨s,X1,g1,s1,k1,k2,k3⟩,_⟩:=zat (least a w) hI;generalize hm:Classical.choose (least a w)=m at k3 |-;obtain⟨hP,hρ⟩:=hX s X1 s1 k2;cases m with
 | zero=>rw[wy] at k3;cases k3
 | succ m=>
  rw[jM] at k3;cases hf:f s with
  | none=>rw[hf] at k3;cases k3
  | some x=>
   have hx:∀e',x = .inr e'->e'=e:=λe' q=>by
    rw[hf,q] at k3;exact u8 k3
   have:=hr s X1 s1 k2 x hf hx n g1 a w k1;rw[hP,hρ] at this;refine zbr this λex a' w' q=>?_;rw[rn ⟨hP,hρ⟩] at q;cases ex <;> simp only[lift,CW,KH] at q |- <;> first | exact q | skip
   obtain⟨X',g',st',h1,_,hl,s2,hx2,s'',hw2,h2⟩:=q;obtain⟨g2,h1'⟩:=hw2 X' g' a' w' h1;have hJ:J m a' w':=⟨s2,X',g2,s'',h1',h2,by rw[hf,hx2] at k3;exact k3⟩;have hI':∃m,J m a' w':=⟨m,hJ⟩;exact⟨hl,hI',Nat.lt_succ_of_le ((zat (least a' w') hI').2 m hJ)⟩
theorem UE{S E:Type}{f:S->Option (S ⊕ E)}{s0:S}{e:E}{l:Nat}{c:Code}(F:S->St)(h:lp f s0=some e)(h0:Wk st (F s0))
  (hr:∀s x,f s=some x->(∀e',x = .inr e'->e'=e)->X4 X c (CW l (λX' s'=>X'=X/\∃s2,x = .inl s2/\Wk s' (F s2)) Q) (F s)):X4 X (.scope (.seq (.label l) c)) Q st:=
 WO (λs X1 s1=>X1=X/\s1=F s) h ⟨_,h0,rfl,rfl⟩ (λs X1 s1 q=>by rw[q.1];exact⟨rfl,rfl⟩) (by
  rintro s _ _ ⟨rfl,rfl⟩ x hf hx;refine (hr s x hf hx).mono λex X' s' q=>?_;cases ex <;> simp only[CW] at q |- <;> first | exact q | (
   obtain⟨hl,h1,s2,h2,h3⟩:=q;exact⟨hl,s2,h2,_,h3,h1,rfl⟩))
end
open Go.RowKit Go.Instr
section
variable{P:Program}{w:World}{imm:Nat->Nat->Prop}
end
end Go.Pw
namespace Go.Pw
open Go.RowKit
structure TB where
 f:List ((Nat × Nat) × (Nat × Nat))
 a:List (Nat × Bool)
 s:List (Nat × Nat)
 z:List (Nat × PV)
structure TB.Ok (P:Program) (b:TB):Prop where
 f:b.f.map (λp=>bT P p.1.1 p.1.2)=b.f.map (λp=>some p.2)
 a:b.a.map (λp=>I9 P p.1)=b.a.map (λp=>some p.2)
 s:b.s.map (λp=>u0 P p.1)=b.s.map (λp=>some p.2)
 z:b.z.map (λp=>(A2 P p.1).map PV.iu)=b.z.map (λp=>some p.2)
def tk{α:Type}(k:Nat):List (Nat × α)->Option α
 | []=>none
 | p::l=>match Nat.beq p.1 k with
  | true=>some p.2
  | false=>tk k l
def Sa{α:Type}(k m:Nat):List ((Nat × Nat) × α)->Option α
 | []=>none
 | p::l=>match Nat.beq p.1.1 k with
  | true=>match Nat.beq p.1.2 m with
   | true=>some p.2
   | false=>Sa k m l
  | false=>Sa k m l
theorem Ce{α:Type}{k:Nat}{x:α}:∀ {l:List (Nat × α)},tk k l=some x->(k,x)∈l
 | [],h=>by cases h
 | p::l,h=>by
  unfold tk at h;split at h
  .rename_i q;have:=zau q;cases h;subst this;exact zi ..
  .exact zt _ (Ce h)
theorem Cd{α:Type}{k m:Nat}{x:α}:∀ {l:List ((Nat × Nat) × α)},Sa k m l=some x->((k,m),x)∈l
 | [],h=>by cases h
 | p::l,h=>by
  unfold Sa at h;split at h
  .rename_i q;have e1:=zau q;split at h
   .rename_i q;have e2:=zau q;cases h;subst e1;subst e2;exact zi ..
   .exact zt _ (Cd h)
  .exact zt _ (Cd h)
section
variable{P:Program}{b:TB}
theorem TB.Ok.fo(h:b.Ok P){T f:Nat}{p:Nat × Nat}(e:Sa T f b.f=some p):bT P T f=some p:=List.map_inj_left.1 h.f _ (Cd e)
theorem TB.Ok.ag(h:b.Ok P){T:Nat}{p:Bool}(e:tk T b.a=some p):I9 P T=some p:=List.map_inj_left.1 h.a _ (Ce e)
theorem TB.Ok.si(h:b.Ok P){T:Nat}{p:Nat}(e:tk T b.s=some p):u0 P T=some p:=List.map_inj_left.1 h.s _ (Ce e)
theorem TB.Ok.ze(h:b.Ok P){T:Nat}{p:PV}(e:tk T b.z=some p):(A2 P T).map PV.iu=some p:=List.map_inj_left.1 h.z _ (Ce e)
end
def XW{β:Type}(d:PV)(k:PV->Option β):Option β:=
 match d with
 | .bool b=>k (.bool b)
 | .int i n=>k (.int i n)
 | .str s=>k (.str s)
 | .agg cs=>k (.agg cs)
 | .tup vs=>k (.tup vs)
 | .G8 t xs=>k (.G8 t xs)
 | .sl l=>k (.sl l)
 | .mp l=>k (.mp l)
 | .mapc es=>k (.mapc es)
 | .ptr l i f=>k (.ptr l i f)
 | .rptr cs=>k (.rptr cs)
 | .fn f cap=>k (.fn f cap)
 | .nilfn=>k .nilfn
 | .abs R=>k (.abs R)
 | .junk=>k .junk
theorem KJ{β:Type}(d:PV)(k:PV->Option β):XW d k=k d:=by cases d <;> rfl
def Xn{β:Type}:List PV->(List PV->Option β)->Option β
 | [],k=>k []
 | x::xs,k=>XW x λx=>Xn xs λxs=>k (x::xs)
theorem KK{β:Type}:∀(xs:List PV) (k:List PV->Option β),Xn xs k=k xs
 | [],k=>rfl
 | x::xs,k=>by
  unfold Xn;rw[KJ,KK xs]
def fc{β:Type}(d:PV)(k:PV->Option β):Option β:=
 XW d λd=>match d with
 | .agg cs=>Xn cs λcs=>k (.agg cs)
 | d=>k d
theorem vP{β:Type}(d:PV)(k:PV->Option β):fc d k=k d:=by
 unfold fc;rw[KJ];cases d <;> first | rfl | exact KK _ _
def Xm{β:Type}(d:Bool)(k:Bool->Option β):Option β:=
 match d with
 | true=>k true
 | false=>k false
theorem EP{β:Type}(d:Bool)(k:Bool->Option β):Xm d k=k d:=by cases d <;> rfl
def pJ(b:TB)(env:Nat->PV)(σ:Nat->Option Row):Op->Option PV
 | .move x=>some (y5 env x)
 | .assign x=>some (y5 env x)
 | .fieldAddr T x f=>match y5 env x with
  | .ptr l i q=>match Sa T f b.f with
   | some p=>some (.ptr l i (q+p.1))
   | none=>none
  | .rptr cs=>match Sa T f b.f with
   | some p=>some (.rptr (cs.drop p.1))
   | none=>none
  | _=>none
 | .field T x f=>match y5 env x with
  | .agg cs=>match Sa T f b.f with
   | some p=>match tk p.2 b.a with
    | some false=>cs[p.1]?
    | some true=>match tk p.2 b.s with
     | some n=>match Nat.ble (p.1+n) cs.length with
      | true=>some (.agg ((cs.drop p.1).take n))
      | false=>none
     | none=>none
    | none=>none
   | none=>none
  | _=>none
 | .load T x=>match y5 env x with
  | .ptr l i f=>match σ l with
   | some r=>match r.els[i]? with
    | some y=>match tk T b.a with
     | some false=>y.cells[f]?
     | some true=>match tk T b.s with
      | some n=>match Nat.ble (f+n) y.cells.length with
       | true=>some (.agg ((y.cells.drop f).take n))
       | false=>none
      | none=>none
     | none=>none
    | none=>none
   | none=>none
  | .rptr cs=>match tk T b.a with
   | some false=>cs[0]?
   | some true=>match tk T b.s with
    | some n=>match Nat.ble n cs.length with
     | true=>some (.agg (cs.take n))
     | false=>none
    | none=>none
   | none=>none
  | _=>none
 | .unOp .not _ x=>match y5 env x with
  | .bool v=>some (.bool (!v))
  | _=>none
 | .binOp op _ x y _=>match y5 env x with
  | .int k1 m=>match y5 env y with
   | .int k2 n=>match decide (k1=k2) with
    | true=>match Kw op m n with
     | some r=>some (.bool r)
     | none=>match Ka k1 op m n with
      | some r=>some (.int k1 r)
      | none=>none
    | false=>none
   | _=>none
  | _=>none
 | .extract x i=>match y5 env x with
  | .tup ds=>ds[i]?
  | _=>none
 | .makeFunc fn ⟨[]⟩ cap=>some (.fn fn (cap.toList.map (y5 env)))
 | _=>none
theorem ns{P:Program}{b:TB}(hb:b.Ok P){env:Nat->PV}{σ:Nat->Option Row}{dst:Option Tmp}{op:Op}{d:PV}(h:pJ b env σ op=some d):B9 P σ (y5 env) dst op d .none:=by
 cases op <;> simp only[pJ] at h
 case move x=>cases h;exact .move x
 case assign x=>cases h;exact .assign x
 case load T x=>
  split at h
  .rename_i l i f hx;split at h
   .rename_i r hl;split at h
    .rename_i y hy;split at h
     .rename_i ha;exact .jL T x l i f r y d hx hl hy (hb.ag ha) h
     .rename_i ha;split at h
      .rename_i n hn;split at h
       .rename_i hle;cases h;exact .mw T x l i f r y n hx hl hy (hb.ag ha) (hb.si hn) (zD hle)
       .cases h
      .cases h
     .cases h
    .cases h
   .cases h
  .rename_i cs hx;split at h
   .rename_i ha;exact .fw T x cs d hx (hb.ag ha) h
   .rename_i ha;split at h
    .rename_i n hn;split at h
     .rename_i hle;cases h;exact .fv T x cs n hx (hb.ag ha) (hb.si hn) (zD hle)
     .cases h
    .cases h
   .cases h
  .cases h
 case fieldAddr T x f=>
  split at h
  .rename_i l i q hx;split at h
   .rename_i p hp;cases h;exact .fieldAddrP T x f l i q p.1 p.2 hx (hb.fo hp)
   .cases h
  .rename_i cs hx;split at h
   .rename_i p hp;cases h;exact .fieldAddrR T x f cs p.1 p.2 hx (hb.fo hp)
   .cases h
  .cases h
 case field T x f=>
  split at h
  .rename_i cs hx;split at h
   .rename_i p hp;split at h
    .rename_i ha;exact .fieldS T x f cs p.1 p.2 d hx (hb.fo hp) (hb.ag ha) h
    .rename_i ha;split at h
     .rename_i n hn;split at h
      .rename_i hle;cases h;exact .fieldA T x f cs p.1 p.2 n hx (hb.fo hp) (hb.ag ha) (hb.si hn) (zD hle)
      .cases h
     .cases h
    .cases h
   .cases h
  .cases h
 case extract x i=>
  split at h
  .rename_i ds hx;exact .extract x i ds d hx h
  .cases h
 case unOp op t x=>
  cases op <;> simp only[pJ] at h
  case not=>
   split at h
   .rename_i v hx;cases h;exact .not t x v hx
   .cases h
  all_goals cases h
 case binOp op t x y u=>
  split at h
  .rename_i k1 m hx;split at h
   .rename_i k2 n hy;split at h
    .rename_i hk;have hk:=zba hk;subst hk;split at h
     .rename_i r hr;cases h;exact .cmp op t u x y k1 m n r hx hy hr
     .split at h
      .rename_i r hr;cases h;exact .ari op t u x y k1 m n r hx hy hr
      .cases h
    .cases h
   .cases h
  .cases h
 case makeFunc fn first cap=>
  obtain⟨l⟩:=first
  cases l <;> simp only[pJ] at h
  case nil=>cases h;exact .mkFunc fn cap
  all_goals cases h
 all_goals cases h
def XU{β:Type}(b:TB)(o:Oper)(env:Nat->PV)(σ:Nat->Option Row)(k:(Nat->PV)->(Nat->Option Row)->Option β):Option β:=
 match o.guard with
 | some _=>none
 | none=>match o.dst with
  | some t=>match o.op with
   | .box T x=>match σ t with
    | some _=>none
    | none=>fc (y5 env x) λd=>match d.el with
     | true=>Xm d.fp λc=>k (w7 env t (.ptr t 0 0)) (w7 σ t (some ⟨[d],0,false,d.cells.length,c⟩))
     | false=>none
   | .alloc T=>match σ t with
    | some _=>none
    | none=>match tk T b.z with
     | some d=>match d.el with
      | true=>k (w7 env t (.ptr t 0 0)) (w7 σ t (some ⟨[d],0,false,d.cells.length,true⟩))
      | false=>none
     | none=>none
   | op=>match pJ b env σ op with
    | some d=>fc d λd=>k (w7 env t d) σ
    | none=>none
  | none=>match o.op with
   | .store T x y=>match y5 env x with
    | .ptr l 0 q=>match σ l with
     | some r=>match r.els with
      | [x0]=>match r.lo with
       | 0=>match tk T b.s with
        | some n=>fc (y5 env y).w1 λd=>
         match d.el&&(Nat.ble 1 n&&(Nat.beq d.cells.length n&&(Nat.ble (q+n) x0.cells.length&&d.cells.all PV.sc))) with
         | true=>fc (G5 x0 q d.cells) λx'=>Xm (r.cl&&d.cells.all PV.Z0) λc=>k env (w7 σ l (some ⟨[x'],0,r.opn,r.z,c⟩))
         | false=>none
        | none=>none
       | _+1=>none
      | _=>none
     | none=>none
    | _=>none
   | _=>none
theorem IE{β:Type}{P:Program}{b:TB}(hb:b.Ok P){ops:Array Oper}{T:List Nat}{c:Nat}{o:Oper}{env:Nat->PV}{σ:Nat->Option Row}{k:(Nat->PV)->(Nat->Option Row)->Option β}{r:β}(h:XU b o env σ k=some r) :
  ∃env' σ',NW P ops false T c o ⟨env,σ⟩ ⟨env',σ'⟩/\k env' σ'=some r:=by
 obtain⟨dst,op,ty,pos,after,gd⟩:=o;unfold XU at h;simp only at h;cases gd with
 | some g=>cases h
 | none=>
 simp only at h;have hw:∀dst,B1 ops env ⟨dst,op,ty,pos,after,none⟩=some true:=λ_=>rfl;cases dst with
 | some t=>
  simp only at h;have hlook:∀d,pJ b env σ op=some d->k (w7 env t d) σ=some r->∃env' σ',NW P ops false T c ⟨some t,op,ty,pos,after,none⟩ ⟨env,σ⟩ ⟨env',σ'⟩/\k env' σ'=some r:=λd hd hk=>
   ⟨w7 env t d,σ,.run d .none (hw _) (ns hb hd) ⟨E6.refl _,E1.refl _⟩ trivial (λq=>nomatch q) (λq=>nomatch q),hk⟩
  split at h
  .rename_i T' x;split at h;·cases h
   .rename_i hf;rw[vP] at h;split at h
    .rename_i hel;rw[EP] at h;exact⟨_,_,.run (.ptr t 0 0) (.new t ⟨[y5 env x],0,false,(y5 env x).cells.length,(y5 env x).fp⟩) (hw _) (.box T' x t rfl hel) ⟨E6.refl _,E1.refl _⟩ hf (λq=>nomatch q) (λq=>nomatch q),h⟩
    .cases h
  .rename_i T';split at h;·cases h
   .rename_i hf;split at h
    .rename_i d hd;split at h
     .rename_i hel;have:=hb.ze hd;cases hz:A2 P T' with
      | none=>rw[hz] at this;cases this
      | some v=>
       rw[hz] at this;simp only[wd,wp] at this;subst this;exact⟨_,_,.run (.ptr t 0 0) (.new t ⟨[PV.iu v],0,false,(PV.iu v).cells.length,true⟩) (hw _) (.alloc T' t v rfl hz hel) ⟨E6.refl _,E1.refl _⟩ hf (λq=>nomatch q) (λq=>nomatch q),h⟩
     .cases h
    .cases h
  .split at h
   .rename_i d hd;rw[vP] at h;exact hlook d hd h
   .cases h
 | none=>
  simp only at h;split at h
  .rename_i T' x y;split at h
   .rename_i l q hx;split at h
    .rename_i rw hl;obtain⟨els,lo,opn,z,cl⟩:=rw;simp only at h;split at h
     .rename_i x0;split at h
      .split at h
       .rename_i n hn;rw[vP] at h;split at h
        .rename_i hc;simp only[zk] at hc;obtain⟨h1,h2,h3,h4,h5⟩:=hc;have h3:=zau h3;rw[vP,EP] at h;have hop:B9 P σ (y5 env) none (.store T' x y) (.tup []) (.sto l 0 q (y5 env y).w1.cells):=oJ hx (.inr rfl) rfl h1 (hb.si hn) (zD h2) h3;refine⟨env,_,?_,h⟩;have:=qC.run (P:=P) (ops:=ops) (dr:=false) (T:=T) (c:=c) (σF:=σ) (o:=⟨none,.store T' x y,ty,pos,after,none⟩) (st:=⟨env,σ⟩) (.tup []) (.sto l 0 q (y5 env y).w1.cells) (hw _) hop ⟨E6.refl _,E1.refl _⟩ ⟨_,x0,hl,rfl,zq _,by rw[h3];exact zD h4,h5⟩ (λq=>nomatch q) (λq=>nomatch q);simp only[U1.apply,hl] at this;exact this
        .cases h
       .cases h
      .cases h
     .cases h
    .cases h
   .cases h
  .cases h
def run(b:TB):Nat->List Oper->(Nat->PV)->(Nat->Option Row)->Option (List Oper × (Nat->PV) × (Nat->Option Row))
 | 0,l,env,σ=>some (l,env,σ)
 | _+1,[],_,_=>none
 | n+1,o::l,env,σ=>XU b o env σ λenv σ=>run b n l env σ
section
variable{X:Ctx}{ops:Array Oper}{K:Ctx->St->Prop}
theorem UT{b:TB}(hb:b.Ok X.P):∀(n:Nat) {i:Nat} {l l':List Oper} {env env':Nat->PV} {σ σ':Nat->Option Row},run b n l env σ=some (l',env',σ')->Sq X ops (i+n) l' K ⟨env',σ'⟩->Sq X ops i l K ⟨env,σ⟩
 | 0,i,l,l',env,env',σ,σ',h,k=>by cases h;exact k
 | n+1,i,[],l',env,env',σ,σ',h,k=>by cases h
 | n+1,i,o::l,l',env,env',σ,σ',h,k=>by
  obtain⟨env1,σ1,h1,h2⟩:=IE hb h;refine mG h1 (UT hb n h2 ?_);rw[so,za6 1 n];exact k
end
end Go.Pw
namespace Go.Pw
open Go.RowKit Go.Sh
section
variable{X:Ctx}{Q:PX->Ctx->St->Prop}{st:St}
theorem cN{c:Operand}{x y:Code}{α:Type}{b:Bool}{A B:Option α}{r:α}(h:(if b then A else B)=some r)(hx:b=true->A=some r->X4 X x Q st)(hy:b=false->B=some r->X4 X y Q st)(hc:y5 st.env c = .bool b:=by rfl):X4 X (.cond c x y) Q st:=
 F3 b hc (λq=>hx q (NR h q)) λq=>hy q (NQ h q)
theorem jq{J R:Type}{x y:Code}{k:J->Option R}{b:(J->Option R)->Option R}{r:R}(h:jn k b=some r)(F:J->St)(hk:∀j,k j=some r->X4 X y Q (F j))
  (hx:∀κ,b κ=some r->X4 X x (jb (λX' s=>X'=X/\∃j,κ j=some r/\Wk s (F j)) Q) st):X4 X (.seq x y) Q st:=UA F hk (hx k h)
theorem Ya{J R:Type}{x:Code}{k:J->Option R}{b:(J->Option R)->Option R}{r:R}(h:jn k b=some r)(F:J->St)(hk:∀j,k j=some r->Q .normal X (F j))
  (hx:∀κ,b κ=some r->X4 X x (jb (λX' s=>X'=X/\∃j,κ j=some r/\Wk s (F j)) Q) st):X4 X x Q st:=UB F hk (hx k h)
theorem Yb{J R:Type}{x:Code}{k:J->Option R}{b:(J->Option R)->Option R}{r:R}(h:jn k b=some r)(F:J->St)(hk:∀j,k j=some r->Q .normal X (F j)/\Q .ret X (F j))
  (hx:∀κ,b κ=some r->X4 X x (Tk (λX' s=>X'=X/\∃j,κ j=some r/\Wk s (F j))) st):X4 X x Q st:=UC F hk (hx k h)
theorem lq{S E R:Type}{f:S->Option (S ⊕ E)}{s0:S}{k:E->Option R}{r:R}{c:Code}(h:(lp f s0).bind k=some r)(F:S->St)(h0:Wk st (F s0))
  (hr:∀s x,f s=some x->(∀e',x = .inr e'->k e'=some r)->X4 X c (jb (λX' s'=>X'=X/\∃s2,x = .inl s2/\Wk s' (F s2)) Q) (F s)):X4 X (.loop c) Q st:=by
 obtain⟨e,h1,h2⟩:=C6 h;exact UD F h1 h0 λs x hf hx=>hr s x hf λe' q=>by rw[hx e' q];exact h2
theorem Ys{S E R:Type}{f:S->Option (S ⊕ E)}{s0:S}{k:E->Option R}{r:R}{l:Nat}{c:Code}(h:(lp f s0).bind k=some r)(F:S->St)(h0:Wk st (F s0))
  (hr:∀s x,f s=some x->(∀e',x = .inr e'->k e'=some r)->X4 X c (CW l (λX' s'=>X'=X/\∃s2,x = .inl s2/\Wk s' (F s2)) Q) (F s)):X4 X (.scope (.seq (.label l) c)) Q st:=by
 obtain⟨e,h1,h2⟩:=C6 h;exact UE F h1 h0 λs x hf hx=>hr s x hf λe' q=>by rw[hx e' q];exact h2
theorem eJ{J R:Type}{κ:J->Option R}{r:R}{F:J->St}{s:St}{j:J}(h:κ j=some r)(w:Wk s (F j)):X=X/\∃j,κ j=some r/\Wk s (F j):=⟨rfl,j,h,w⟩
theorem eL{S E:Type}{x:S ⊕ E}{F:S->St}{s:St}{j:S}(h:some (.inl j)=some x)(w:Wk s (F j)):X=X/\∃s2,x = .inl s2/\Wk s (F s2):=⟨rfl,j,(u8 h).symm,w⟩
theorem eS{S E:Type}{x:S ⊕ E}{F:S->St}{s:St}{j:S}{l:Nat}(h:some (.inl j)=some x)(w:Wk s (F j)):l=l/\X=X/\∃s2,x = .inl s2/\Wk s (F s2):=⟨rfl,rfl,j,(u8 h).symm,w⟩
theorem xL{S E R:Type}{x:S ⊕ E}{k:E->Option R}{r:R}{e:E}(hx:∀e',x = .inr e'->k e'=some r)(h:some (.inr e)=some x):k e=some r:=hx e (u8 h).symm
abbrev PV.nl:PV:=.G8 true []
abbrev vR(d:PV)(n:Nat):Row:=⟨[d],0,false,n,true⟩
abbrev vS(d:PV)(n:Nat):Row:=⟨[d],0,false,n,false⟩
theorem WE{s:St}(L:List (Nat × PV))(R:List (Nat × Row))(h:Ag R s L:=by (repeat first | refine⟨J,J,J,?_⟩ | refine⟨ct (by assumption),J,J,?_⟩);exact tr)
  (k:Ar R s R:=by (repeat first | refine⟨rS,?_⟩ | refine⟨ef J J J (λq=>nomatch q) J J J J,?_⟩);exact tr):Wk s (St.of L R):=sA L R h k
theorem vC{s:St}(π:Nat->Nat)(L:List (Nat × PV))(R:List (Nat × Row))(h:Xi π R s L:=by (repeat first | refine⟨J,J,J,?_⟩ | refine⟨ct (by assumption),J,J,?_⟩);exact tr)
  (k:VC π R s R:=by (repeat first | refine⟨rN,?_⟩ | refine⟨ef J J J (λq=>nomatch q) J J J J,?_⟩);exact tr)
  (hi:(R.all λp=>R.all λq=>π p.1 != π q.1||p.1==q.1)=true:=by rfl):Wk s (St.of L R):=Gb π L R h k hi
theorem W{s:St}{L:List (Nat × PV)}{R:List (Nat × Row)}(h:Ag R s L:=by (repeat refine⟨J,J,J,?_⟩);exact tr)
  (k:Ar R s R:=by (repeat first | refine⟨rS,?_⟩ | refine⟨ef J J J (λq=>nomatch q) J J J J,?_⟩);exact tr):Wk s (St.of L R):=sA L R h k
theorem WP{s:St}(π:Nat->Nat){L:List (Nat × PV)}{R:List (Nat × Row)}(h:Xi π R s L:=by (repeat refine⟨J,J,J,?_⟩);exact tr)
  (k:VC π R s R:=by (repeat first | refine⟨rN,?_⟩ | refine⟨ef J J J (λq=>nomatch q) J J J J,?_⟩);exact tr)
  (hi:(R.all λp=>R.all λq=>π p.1 != π q.1||p.1==q.1)=true:=by rfl):Wk s (St.of L R):=Gb π L R h k hi
theorem f1{P:Program}{fn:Func}{d v:PV}(h:xM P st fn.results.toList [v]:=by exact⟨J,tr⟩)(h2:(fI [v]).ky st.σ=true:=by rfl)(h3:(fI [v]).view st.σ=d\/((fI [v]).view st.σ).w3=d:=by first | exact .inl rfl | exact .inr rfl):X=X/\Fin P fn d st:=⟨rfl,_,h,h2,h3⟩
theorem f2{P:Program}{fn:Func}{d v u:PV}(h:xM P st fn.results.toList [v,u]:=by exact⟨J,J,tr⟩)(h2:(fI [v,u]).ky st.σ=true:=by rfl)(h3:(fI [v,u]).view st.σ=d\/((fI [v,u]).view st.σ).w3=d:=by first | exact .inl rfl | exact .inr rfl):X=X/\Fin P fn d st:=⟨rfl,_,h,h2,h3⟩
theorem f3{P:Program}{fn:Func}{d v u w:PV}(h:xM P st fn.results.toList [v,u,w]:=by exact⟨J,J,J,tr⟩)(h2:(fI [v,u,w]).ky st.σ=true:=by rfl)(h3:(fI [v,u,w]).view st.σ=d\/((fI [v,u,w]).view st.σ).w3=d:=by first | exact .inl rfl | exact .inr rfl):X=X/\Fin P fn d st:=⟨rfl,_,h,h2,h3⟩
end
theorem pI{P:Program}{f:FuncId}{fn:Func}{c:Code}{ds:List PV}{d:PV}(hf:P.funcs[f]? = some fn)
  (h:∀(w0:WG P) imm0,X4 { P:=P,N:=fn.ntmps,ρ:=none,w0:=w0.1,imm0:=imm0,tab:=w0.2 } c (NO { P:=P,N:=fn.ntmps,ρ:=none,w0:=w0.1,imm0:=imm0,tab:=w0.2 } (Fin P fn d)) ⟨L7 ds,λ_=>none⟩)(hb:fn.body=some c:=by rfl)(hn:ds.length<=fn.ntmps:=by exact nl)(h6:fn.ntmps<=1000000:=by exact nl):N7 P f ds d:=Ms hf hb rfl hn h h6
theorem Yv{P:Program}{f:FuncId}{fn:Func}{c:Code}{ds:List PV}{r:Row}(hf:P.funcs[f]? = some fn)
  (h:∀(w0:WG P) imm0,X4 { P:=P,N:=fn.ntmps,ρ:=none,w0:=w0.1,imm0:=imm0,tab:=w0.2 } c (NO { P:=P,N:=fn.ntmps,ρ:=none,w0:=w0.1,imm0:=imm0,tab:=w0.2 } (JJ P fn r)) ⟨L7 ds,λ_=>none⟩)(hb:fn.body=some c:=by rfl)(hn:ds.length<=fn.ntmps:=by exact nl)(h6:fn.ntmps<=1000000:=by exact nl):kG P f ds r:=Jd hf hb rfl hn h h6
end Go.Pw
namespace Go.Pw
open Go.RowKit Go.Sh
def PO(P:Program)(f:FuncId)(ds:List PV){α:Type}(x:Option α)(d:α->PV):Prop:=x8 P f/\∀r,x=some r->N7 P f ds (d r)
def Sk(P:Program)(f:FuncId)(ds:List PV){α:Type}(x:Option α)(d:α->Row):Prop:=x8 P f/\∀r,x=some r->kG P f ds (d r)
theorem pO{P:Program}{f:FuncId}{fn:Func}{c:Code}{ds:List PV}{α:Type}{x:Option α}{d:α->PV}(hf:P.funcs[f]? = some fn)
  (h:∀r,x=some r->∀(w0:WG P) imm0,X4 { P:=P,N:=fn.ntmps,ρ:=none,w0:=w0.1,imm0:=imm0,tab:=w0.2 } c (NO { P:=P,N:=fn.ntmps,ρ:=none,w0:=w0.1,imm0:=imm0,tab:=w0.2 } (Fin P fn (d r))) ⟨L7 ds,λ_=>none⟩)
  (hb:fn.body=some c:=by rfl)(hn:ds.length<=fn.ntmps:=by exact nl)(h6:fn.ntmps<=1000000:=by exact nl)(hm:fn.name ≠ "runtime.NumGoroutine" := by decide):PO P f ds x d:=⟨⟨fn,c,hf,hb,hm⟩,λr q=>pI hf (h r q) hb hn h6⟩
theorem WK{P:Program}{f:FuncId}{fn:Func}{c:Code}{ds:List PV}{α:Type}{x:Option α}{d:α->Row}(hf:P.funcs[f]? = some fn)
  (h:∀r,x=some r->∀(w0:WG P) imm0,X4 { P:=P,N:=fn.ntmps,ρ:=none,w0:=w0.1,imm0:=imm0,tab:=w0.2 } c (NO { P:=P,N:=fn.ntmps,ρ:=none,w0:=w0.1,imm0:=imm0,tab:=w0.2 } (JJ P fn (d r))) ⟨L7 ds,λ_=>none⟩)
  (hb:fn.body=some c:=by rfl)(hn:ds.length<=fn.ntmps:=by exact nl)(h6:fn.ntmps<=1000000:=by exact nl)(hm:fn.name ≠ "runtime.NumGoroutine" := by decide):Sk P f ds x d:=⟨⟨fn,c,hf,hb,hm⟩,λr q=>Yv hf (h r q) hb hn h6⟩
theorem T0{P:Program}{σ:Nat->Option Row}{ρ:Operand->PV}{dst:Option Tmp}{α:Type}{z:Option α}{v:α}{d:α->PV}{f:FuncId}{args:Array Operand}{ts:Array TypeId}{x:Operand}{ds vs cap:List PV}(hx:ρ x = .fn (.func f) cap)(o:PO P f vs z d)(ha:args.toList.map ρ++cap=ds)(hz:z=some v)
  (hok:ds.all (PV.ky σ)=true:=by rfl)(hv:ds.map (PV.vw σ)=vs:=by rfl)(hfl:(d v).flat=true:=by rfl):B9 P σ ρ dst (.call { callee:=.value x,args,argTypes:=ts }) (d v) .none:=tl hx o.1 ha (o.2 v hz) hok hv hfl
theorem C2{P:Program}{σ:Nat->Option Row}{ρ:Operand->PV}{dst:Option Tmp}{α:Type}{z:Option α}{v:α}{d:α->PV}{f:FuncId}{args:Array Operand}{ts:Array TypeId}{x:Operand}{ds vs cap:List PV}{ls:List Nat}(hx:ρ x = .fn (.func f) cap)(o:PO P f vs z d)(ha:args.toList.map ρ++cap=ds)(hz:z=some v)
  (hok:ds.all (PV.ky σ)=true:=by rfl)(hv:ds.map (PV.vw σ)=vs:=by rfl)(hl:ds.flatMap (PV.L0 σ)=ls:=by rfl):B9 P σ ρ dst (.call { callee:=.value x,args,argTypes:=ts }) (d v) (.mo ls):=vf hx o.1 ha (o.2 v hz) hok hv hl
theorem yP{P:Program}{σ:Nat->Option Row}{ρ:Operand->PV}{dst:Option Tmp}{α:Type}{z:Option α}{v:α}{d:α->Row}{f:FuncId}{args:Array Operand}{ts:Array TypeId}{x:Operand}{ds vs cap:List PV}{ls:List Nat}{l:Tmp}(hx:ρ x = .fn (.func f) cap)(o:Sk P f vs z d)(ha:args.toList.map ρ++cap=ds)(hz:z=some v)
  (hd:dst=some l:=by rfl)(hok:ds.all (PV.ky σ)=true:=by rfl)(hv:ds.map (PV.vw σ)=vs:=by rfl)(hcl:(d v).cl=true:=by rfl)(hl:ds.flatMap (PV.L0 σ)=ls:=by rfl) :
  B9 P σ ρ dst (.call { callee:=.value x,args,argTypes:=ts }) (.sl l) (.frzN ls l (d v)):=PS hx o.1 ha (o.2 v hz) hd hok hv hcl hl
section
variable{X:Ctx}{ops:Array Oper}{i:Nat}{os:List Oper}{K:Ctx->St->Prop}{env:Nat->PV}{σ:Nat->Option Row}{ty:TypeId}{pos:String}{after:Array Edge}{gd:Option (Nat × Bool)}{t:Tmp}{α β:Type}{z:Option α}{k:α->Option β}{r:β}
theorem cA{f:FuncId}{args:Array Operand}{ts:Array TypeId}{c:Operand}{ds vs cap:List PV}{d:α->PV}(h:z.bind k=some r)(o:PO X.P f vs z d)(hx:y5 env c = .fn (.func f) cap)(ha:args.toList.map (y5 env)++cap=ds)
  (kk:∀v,z=some v->k v=some r->Sq X ops (i+1) os K ⟨w7 env t (d v),σ⟩)(hw:B1 ops env ⟨some t,.call { callee:=.value c,args,argTypes:=ts },ty,pos,after,gd⟩=some true:=by rfl)(hok:ds.all (PV.ky σ)=true:=by rfl)(hv:ds.map (PV.vw σ)=vs:=by rfl)(hfl:∀v,(d v).flat=true:=by intro _;rfl) :
  Sq X ops i (⟨some t,.call { callee:=.value c,args,argTypes:=ts },ty,pos,after,gd⟩::os) K ⟨env,σ⟩:=by
 obtain⟨v,h1,h2⟩:=C6 h;exact y0 hw (tl hx o.1 ha (o.2 v h1) hok hv (hfl v)) (kk v h1 h2)
theorem cF{f:FuncId}{args:Array Operand}{ts:Array TypeId}{c:Operand}{ds vs cap:List PV}{d:α->PV}(h:z.bind k=some r)(o:PO X.P f vs z d)(hx:y5 env c = .fn (.func f) cap)(ha:args.toList.map (y5 env)++cap=ds)
  (kk:∀v,z=some v->k v=some r->Sq X ops (i+1) os K ⟨w7 env t (d v),σ⟩)(hw:B1 ops env ⟨some t,.call { callee:=.value c,args,argTypes:=ts },ty,pos,after,gd⟩=some true:=by rfl)(hok:ds.all (PV.ky σ)=true:=by rfl)(hv:ds.map (PV.vw σ)=vs:=by rfl)(hl:ds.flatMap (PV.L0 σ) = []:=by rfl) :
  Sq X ops i (⟨some t,.call { callee:=.value c,args,argTypes:=ts },ty,pos,after,gd⟩::os) K ⟨env,σ⟩:=by
 obtain⟨v,h1,h2⟩:=C6 h;exact yc hw (vf hx o.1 ha (o.2 v h1) hok hv hl) (kk v h1 h2)
theorem iL{γ:Type}{f:γ->PV}{xs:List γ}{k:γ->Option β}{n:Int}{T E:TypeId}{x y:Operand}{b:Bool}{kd:IntKind}{m:Nat}(h:(ix xs n).bind k=some r)(hx:y5 env x = .G8 b (xs.map f))(hy:y5 env y = .int kd n)
  (hE:B0 X.P T=some E)(hz:u0 X.P E=some m)(kk:∀v,ix xs n=some v->k v=some r->Sq X ops (i+1) os K ⟨w7 env t (.rptr (f v).cells),σ⟩)(hl:∀v,(f v).cells.length=m:=by intro _;rfl)(hw:B1 ops env ⟨some t,.indexAddr T x y,ty,pos,after,gd⟩=some true:=by rfl) :
  Sq X ops i (⟨some t,.indexAddr T x y,ty,pos,after,gd⟩::os) K ⟨env,σ⟩:=by
 obtain⟨v,h1,h2⟩:=C6 h;exact y0 hw (F5 h1 hx hy hE hz rfl (hl v)) (kk v h1 h2)
theorem nL{γ:Type}{f:γ->PV}{xs:List γ}{x:Operand}{T E:TypeId}{b:Bool}(hx:y5 env x = .G8 b (xs.map f))(hE:B0 X.P T=some E)(kk:Sq X ops (i+1) os K ⟨w7 env t (.int .i64 xs.length),σ⟩)(hw:B1 ops env ⟨some t,.call { callee:=.builtin .len,args:=#[x],argTypes:=#[T] },ty,pos,after,gd⟩=some true:=by rfl) :
  Sq X ops i (⟨some t,.call { callee:=.builtin .len,args:=#[x],argTypes:=#[T] },ty,pos,after,gd⟩::os) K ⟨env,σ⟩:=y0 hw (nw hx hE) kk
end
theorem d4{P:Program}{ops:Array Oper}{bar:List Nat}{i:Nat}{os:List Oper}{K:St->Prop}{env:Nat->PV}{σ:Nat->Option Row}{ty:TypeId}{pos:String}{after:Array Edge}{gd:Option (Nat × Bool)}{op:Op}{t:Tmp}{d:PV}(hw:B1 ops env ⟨some t,op,ty,pos,after,gd⟩=some true)(h:B9 P σ (y5 env) (some t) op d .none)(hc:cls bar i op=4)(k:Ex P ops bar true (i+1) os ⟨w7 env t d,σ⟩ K) :
  Ex P ops bar true i (⟨some t,op,ty,pos,after,gd⟩::os) ⟨env,σ⟩ K:=x0 hw h (λ_=>by rw[hc];trivial) k
def Lt:Op->Bool
 | .load .. => true
 | _=>false
theorem IV{b:TB}{env:Nat->PV}{σ σ':Nat->Option Row}{op:Op}(h:Lt op=false):pJ b env σ op=pJ b env σ' op:=by
 cases op <;> first | rfl | cases h | skip
 case unOp o _ _=>cases o <;> rfl
 case makeFunc _ l _=>
  obtain⟨l⟩:=l;cases l <;> rfl
def XV{γ:Type}(b:TB)(bar:List Nat)(i:Nat)(o:Oper)(env:Nat->PV)(σ:Nat->Option Row)(k:(Nat->PV)->(Nat->Option Row)->Option γ):Option γ:=
 match o.guard with
 | some _=>none
 | none=>match o.dst with
  | none=>none
  | some t=>match o.op with
   | .box T x=>match σ t with
    | some _=>none
    | none=>match Nat.beq (cls bar i (.box T x)) 1 with
     | false=>none
     | true=>fc (y5 env x) λd=>match d.el with
      | true=>Xm d.fp λc=>match (kept bar).contains t with
       | true=>none
       | false=>k (w7 env t (.ptr t 0 0)) (w7 σ t (some ⟨[d],0,false,d.cells.length,c⟩))
      | false=>none
   | .alloc T=>match σ t with
    | some _=>none
    | none=>match Nat.beq (cls bar i (.alloc T)) 1 with
     | false=>none
     | true=>match tk T b.z with
      | some d=>match d.el with
       | true=>match (kept bar).contains t with
        | true=>none
        | false=>k (w7 env t (.ptr t 0 0)) (w7 σ t (some ⟨[d],0,false,d.cells.length,true⟩))
       | false=>none
      | none=>none
   | op=>match Lt op with
    | true=>match Nat.beq (cls bar i op) 0 with
     | false=>none
     | true=>match pJ b env σ op with
      | some d=>fc d λd=>k (w7 env t d) σ
      | none=>none
    | false=>match Nat.beq (cls bar i op) 7 with
     | false=>none
     | true=>match pJ b env σ op with
      | some d=>fc d λd=>k (w7 env t d) σ
      | none=>none
theorem IF{γ:Type}{P:Program}{b:TB}(hb:b.Ok P){ops:Array Oper}{bar:List Nat}{i:Nat}{o:Oper}{os:List Oper}{env:Nat->PV}{σ:Nat->Option Row}{k:(Nat->PV)->(Nat->Option Row)->Option γ}{r:γ}(h:XV b bar i o env σ k=some r) :
  ∃env' σ',k env' σ'=some r/\∀K,Ex P ops bar true (i+1) os ⟨env',σ'⟩ K->Ex P ops bar true i (o::os) ⟨env,σ⟩ K:=by
 obtain⟨dst,op,ty,pos,after,gd⟩:=o;unfold XV at h;simp only at h;cases gd with
 | some g=>cases h
 | none=>
 simp only at h;cases dst with
 | none=>cases h
 | some t=>
 simp only at h;split at h
 .rename_i T' x;split at h;·cases h
  .rename_i hf;split at h;·cases h
   .rename_i hc;have hc:=zau hc;rw[vP] at h;split at h
    .rename_i hel;rw[EP] at h;split at h;·cases h
     .rename_i hk;exact⟨_,_,h,λK q=>d1 rfl (.box T' x t rfl hel) hf (by simp only[U1.off];rw[hk];rfl) hc q⟩
    .cases h
 .rename_i T';split at h;·cases h
  .rename_i hf;split at h;·cases h
   .rename_i hc;have hc:=zau hc;split at h
    .rename_i d hd;split at h
     .rename_i hel;split at h;·cases h
      .rename_i hk;have:=hb.ze hd;cases hz:A2 P T' with
       | none=>rw[hz] at this;cases this
       | some v=>
        rw[hz] at this;simp only[wd,wp] at this;subst this;exact⟨_,_,h,λK q=>d1 rfl (.alloc T' t v rfl hz hel) hf (by simp only[U1.off];rw[hk];rfl) hc q⟩
     .cases h
    .cases h
 .split at h
  .rename_i hl;split at h;·cases h
   .rename_i hc;split at h
    .rename_i d hd;rw[vP] at h;exact⟨_,_,h,λK q=>d0 rfl (ns hb hd) (zau hc) q⟩
    .cases h
  .rename_i hl;split at h;·cases h
   .rename_i hc;split at h
    .rename_i d hd;rw[vP] at h;exact⟨_,_,h,λK q=>d7 rfl (λσ' _=>ns hb ((IV hl).trans hd)) (zau hc) q⟩
    .cases h
def QI(b:TB)(bar:List Nat):Nat->Nat->List Oper->(Nat->PV)->(Nat->Option Row)->Option (List Oper × (Nat->PV) × (Nat->Option Row))
 | 0,_,l,env,σ=>some (l,env,σ)
 | _+1,_,[],_,_=>none
 | n+1,i,o::l,env,σ=>XV b bar i o env σ λenv σ=>QI b bar n (i+1) l env σ
section
variable{P:Program}{ops:Array Oper}{bar:List Nat}{K:St->Prop}
theorem dG{b:TB}(hb:b.Ok P):∀(n:Nat) {i:Nat} {l l':List Oper} {env env':Nat->PV} {σ σ':Nat->Option Row},QI b bar n i l env σ=some (l',env',σ')->Ex P ops bar true (i+n) l' ⟨env',σ'⟩ K->Ex P ops bar true i l ⟨env,σ⟩ K
 | 0,i,l,l',env,env',σ,σ',h,k=>by cases h;exact k
 | n+1,i,[],l',env,env',σ,σ',h,k=>by cases h
 | n+1,i,o::l,l',env,env',σ,σ',h,k=>by
  obtain⟨env1,σ1,h1,h2⟩:=IF (P:=P) (ops:=ops) (os:=l) hb h;refine h2 _ (dG hb n h1 ?_);rw[so,za6 1 n];exact k
end
end Go.Pw
namespace Go.Sh
structure NU where
 t:Nat
 xs:List Int
def Ek(e:NU)(A k:Nat):Int:=if e.t=A then e.xs.getD k 0 else 0
end Go.Sh
namespace Go.Pw
open Go.RowKit Go.Sh
def TH(n:Nat->Nat)(e:NU):Value:=.iface e.t (.agg ((List.range (n e.t)).map λk=>Value.int .i64 (e.xs.getD k 0)).toArray)
def Wg(n:Nat->Nat)(e:NU):PV:=.abs λ_ _ v=>v=TH n e
def qj(P:Program)(T:TypeId):Bool:=match P.underlying T with | some (.interface _)=>false | some _=>true | none=>false
theorem CZ{P:Program}{T:TypeId}(h:qj P T=true):∃u,P.underlying T=some u/\∀m,u ≠ .interface m:=by
 unfold qj at h;cases hu:P.underlying T with
 | none=>rw[hu] at h;cases h
 | some u=>
  rw[hu] at h;refine⟨u,rfl,λm e=>?_⟩;subst e;cases h
theorem WS{w:World}{imm:Nat->Nat->Prop}{n:Nat->Nat}{e:NU}:Rd0 w imm (TH n e) (Wg n e):=.abs _ _ rfl λ_ _ _=>rfl
theorem HE{w:World}{imm:Nat->Nat->Prop}{v:Value}{xs:List Int}(h:Rd0 w imm v (.agg (xs.map (PV.int .i64)))):v = .agg (xs.map (Value.int .i64)).toArray:=by
 cases h with
 | agg vs cs hsc hn h=>
  congr 1;apply Array.ext;·simpa using hn
  .intro i h1 h2;have hx:i<xs.length:=by simpa using h2
   have:=h i vs[i] (.int .i64 xs[i]) (zo h1) (by simp[hx]);generalize hv:vs[i]=v at this;cases this;rw[List.getElem_toArray,ut]
theorem Fc(xs:List Int)(n:Nat)(h:xs.length=n):(List.range n).map (λk=>xs.getD k 0)=xs:=by
 subst h;apply zbi (by simp);intro i h1 h2;simp[h2]
theorem UL{w:World}{imm:Nat->Nat->Prop}{m:Nat}{f:Nat->Int}{b:Bool}:Rd0 w imm (.tuple #[.agg ((List.range m).map λk=>Value.int .i64 (f k)).toArray,.bool b]) (.tup [.agg ((List.range m).map λk=>.int .i64 (f k)),.bool b]):=by
 refine .tup _ _ rfl λi v c hv hc=>?_;match i with
 | 0=>
  simp at hv hc;subst hv hc;refine .agg _ _ (by simp[PV.sc]) (by simp) λi v c hv hc=>?_;have hi:i<m:=by
   have:=A7 hc;simpa using this
  simp[hi] at hv hc;subst hv hc;exact .int _ _
 | 1=>
  simp at hv hc;subst hv hc;exact .bool _
 | _+2=>simp at hc
theorem Fp{P:Program}{σ:Nat->Option Row}{ρ:Operand->PV}{dst:Option Tmp}{n:Nat->Nat}{T:TypeId}{x:Operand}{xs:List Int}(hx:ρ x = .agg (xs.map (PV.int .i64)))(hT:qj P T=true)(hn:xs.length=n T)(hc:(PV.agg (xs.map (PV.int .i64))).fp=true:=by rfl) :
  B9 P σ ρ dst (.makeInterface T x) (Wg n ⟨T,xs⟩) .none:=by
 refine .pureV _ _ (λ_=>nofun) (λ_ _=>nofun) λo w imm μ p7 ev ho hr=>?_;have h1:=hr x (by simp[Op.operands]);rw[hx] at h1;have h2:=HE (h1.fp hc);have e:TH n ⟨T,xs⟩ = .iface T (ev x):=by
  rw[h2];show Value.iface T (.agg ((List.range (n T)).map λk=>Value.int .i64 (xs.getD k 0)).toArray)=_;rw[show (List.range (n T)).map (λk=>Value.int .i64 (xs.getD k 0))=((List.range (n T)).map λk=>xs.getD k 0).map (Value.int .i64) by rw[List.map_map];rfl,Fc xs _ hn]
 refine⟨TH n ⟨T,xs⟩,?_,.cl WS⟩;rw[e];obtain⟨u,hu,hi⟩:=CZ hT;simp only[execOp,ho,Instr.makeInterface,zp,zO hu,zh];rfl
theorem Bp{P:Program}{σ:Nat->Option Row}{ρ:Operand->PV}{dst:Option Tmp}{n:Nat->Nat}{xT A:TypeId}{x:Operand}{e:NU}{zv:Value}{m:Nat}{d:PV}(hx:ρ x=Wg n e)(hA:qj P A=true)(hz:A2 P A=some zv)
  (hzv:zv = .agg (List.replicate m (.int .i64 0)).toArray)(hm:n A=m)(hd:PV.tup [.agg ((List.range m).map λk=>.int .i64 (Ek e A k)),.bool (decide (e.t=A))]=d):B9 P σ ρ dst (.typeAssert x xT A true) d .none:=by
 subst hd;refine .pureV _ _ (λ_=>nofun) (λ_ _=>nofun) λo w imm μ p7 ev ho hr=>?_;have h1:=hr x (by simp[Op.operands]);rw[hx] at h1;have h2:ev x=TH n e:=by
  have:=h1.fp rfl;generalize ev x=v at this;unfold Wg at this;cases this with
  | abs R v ho h=>exact h w imm (.refl _ _)
 obtain⟨u,hu,hi⟩:=CZ hA;refine⟨.tuple #[.agg ((List.range m).map λk=>Value.int .i64 (Ek e A k)).toArray,.bool (decide (e.t=A))],?_,.cl UL⟩;by_cases q:e.t=A
 .have hg:((List.range (n A)).map λk=>Value.int .i64 (e.xs.getD k 0))=(List.range m).map λk=>Value.int .i64 (Ek e A k):=by
   rw[hm];refine zP λk _=>?_;unfold Ek;rw[zb q]
  simp only[execOp,ho,Instr.typeAssert,zp,zO hu,zh,h2,TH,q,zU,zV,hg];rfl
 .have hg:List.replicate m (Value.int .i64 0)=(List.range m).map λk=>Value.int .i64 (Ek e A k):=by
   apply zbi (by simp);intro i h1 h2;simp[Ek,q]
  simp only[execOp,ho,Instr.typeAssert,zp,zO hu,zh,h2,TH,q,zY,zU,zay,kh hz,hzv,hg];rfl
section
variable{X:Ctx}{g:Gh}{st:St}{a:Act}{w:World}{n:Nat}{K:Act->World->Prop}{Q:Exit->Act->World->Prop}{ρ:Option Nat}{P:Program}
theorem Qg{o:Oper}{T:TypeId}{x y:Operand}{l i f:Nat}(h:A3 X g st a w)(ho:o.op = .store T x y)(hdst:∀t,o.dst=some t->t<X.N)(hx:y5 st.env x = .ptr l i f)(hy:y5 st.env y = .agg [])(hs:u0 X.P T=some 0)
  (hK:∀g' a' w',A3 X g' ⟨P8 st.env o.dst (.tup []),st.σ⟩ a' w'->K a' w'):o.wpIn (FX ρ) n X.P a w K Q:=by
 have h1:=h.eval x;have h2:=h.eval y;rw[hx] at h1;rw[hy] at h2;have e2:a.eval y = .agg #[]:=HE (xs:=[]) (h2.fp rfl);have e1:∃b,a.eval x = .pointer (some b):=by
  generalize a.eval x=u at h1;cases h1 with
  | ptr l i f b s hp hA=>exact⟨_,rfl⟩
  | cl h=>cases h
 obtain⟨b,e1⟩:=e1;refine tq (w':=w) (λc=>by rw[ho];simp) ?_ (hK g _ _ (h.put hdst (.cl (.tup #[] [] rfl λi v c _ hc=>by simp at hc))));have hr:(Instr.storeAt T (a.eval x) (a.eval y)).run X.P w = .ok () w:=by
  rw[e1,e2];simp only[Instr.storeAt,Instr.sureAddr,zp,rx,zh,storeVar,C7 hs,Value.cells];rfl
 obtain⟨dst,op,ty,pos,after,guard⟩:=o;simp only at ho;subst ho;exact HN hr
end
section
variable{X:Ctx}{ops:Array Oper}{i:Nat}{os:List Oper}{K:Ctx->St->Prop}{env:Nat->PV}{σ:Nat->Option Row}{ty:TypeId}{pos:String}{after:Array Edge}{gd:Option (Nat × Bool)}
theorem Vt{x y:Operand}{T:TypeId}{l j f:Nat}(hw:B1 ops env ⟨none,.store T x y,ty,pos,after,gd⟩=some true)(hx:y5 env x = .ptr l j f)(hy:y5 env y = .agg [])(hs:u0 X.P T=some 0)
  (k:Sq X ops (i+1) os K ⟨env,σ⟩):Sq X ops i (⟨none,.store T x y,ty,pos,after,gd⟩::os) K ⟨env,σ⟩:=I7 λho=>by
 intro hd n g a w next Qo hsm hq;unfold wpOpIn;rw[ho];simp only;rw[zb (Q8 hsm hw)];exact Qg (ρ:=X.ρ) hsm rfl (F4 hd ho) hx hy hs λg' a' w' hs'=>hq X _ _ _ _ hs' ⟨⟨rfl,rfl⟩,rfl⟩ k
end
end Go.Pw
namespace Go.Pw
open Go.RowKit Go.Sh
section
variable{P:Program}{ops:Array Oper}{bar:List Nat}{i:Nat}{os:List Oper}{K:St->Prop}{env:Nat->PV}{σ:Nat->Option Row}{ty:TypeId}{pos:String}{after:Array Edge}{gd:Option (Nat × Bool)}
end
end Go.Pw
namespace Go.Pw
open Go.RowKit Go.Sh
section
variable{X:Ctx}{ops:Array Oper}{i:Nat}{os:List Oper}{K:Ctx->St->Prop}{env:Nat->PV}{σ:Nat->Option Row}{ty:TypeId}{pos:String}{after:Array Edge}{gd:Option (Nat × Bool)}{t:Tmp}
end
end Go.Pw
