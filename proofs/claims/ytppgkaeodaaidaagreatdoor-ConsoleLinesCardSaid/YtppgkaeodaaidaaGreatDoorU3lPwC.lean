/- A part. -/
import Derived.Test.YtppgkaeodaaidaaGreatDoorU3lPwB
set_option linter.unusedVariables false
set_option linter.unusedSimpArgs false
set_option linter.unusedSectionVars false
namespace Go.Pw
open Go.RowKit
def tx(top env:Nat->PV):Nat->PV:=λi=>if i<1000000 then top i else env (i-1000000)
def oR(env:Nat->PV):Nat->PV:=λi=>env (i+1000000)
def lj(ds:List Deferred):List (Nat × Obj):=ds.filterMap λd=>match d.target with
 | .collected r=>some (r,.deferred (some []))
 | _=>none
theorem lk(rs:List Nat):lj (rs.map λr=>{ target:=.collected r,args:=#[] })=rs.map λr=>(r,Obj.deferred (some [])):=by
 induction rs with
 | nil=>rfl
 | cons r rs ih=>
  unfold lj at ih |-;rw[ut,List.filterMap_cons];simp only[ih,ut]
def Ctx.over(X:Ctx)(a:Act)(N:Nat)(ρ:Option Nat):Ctx:={ X with N:=N,ρ:=ρ,ext:=λi=>X.val a (i-1000000),obs:=lj a.defers++X.obs,calm:=true }
section
variable{X:Ctx}{g:Gh}{st:St}{a:Act}{w:World}
theorem D1.push(h:D1 X g st a w){N:Nat}(ρ:Option Nat){tmps:Array Value}{top:Nat->PV}(u:N<=1000000)(hs:tmps.size=N)(ht:∀i,i<1000000->Rd w g.imm g.μ st.u3 (tmps.getD i undef) (top i)) :
  D1 (X.over a N ρ) g ⟨tx top st.env,st.σ⟩ { tmps:=tmps,defers:=[] } w:=by
 refine⟨hs,λi=>?_,h.rows,h.disj,h.ownimm,h.immlt,h.immsub,h.immsup,h.below,⟨[],List.nodup_nil,rfl,λr hr=>by cases hr⟩,λp hp=>?_,⟨u,λ_=>rfl⟩,h.maps⟩
 .by_cases q:i<1000000
  .have e:(X.over a N ρ).val { tmps:=tmps,defers:=[] } i=tmps.getD i undef:=zc q;have j:tx top st.env i=top i:=zc q;show Rd w g.imm g.μ st.u3 _ (tx top st.env i);rw[e,j];exact ht i q
  .have e:(X.over a N ρ).val { tmps:=tmps,defers:=[] } i=X.val a (i-1000000):=by
    unfold Ctx.over;rw[Ctx.val,za q]
   have j:tx top st.env i=st.env (i-1000000):=za q;show Rd w g.imm g.μ st.u3 _ (tx top st.env i);rw[e,j];exact h.env _
 .rcases zC.1 hp with hp | hp
  .obtain⟨rs,_,m,o⟩:=h.marks;rw[m,lk] at hp;obtain⟨r,hr,rfl⟩:=zP.1 hp;exact⟨(o r hr).1,rfl,rfl⟩
  .exact h.obs p hp
theorem D1.pop{N:Nat}{ρ:Option Nat}{st':St}{e:Act}{w0:World}(h0:D1 X g st a w0){j:Gh}(h:D1 (X.over a N ρ) j st' e w):D1 X j ⟨oR st'.env,st'.σ⟩ a w:=by
 refine⟨h0.size,λi=>?_,h.rows,h.disj,h.ownimm,h.immlt,h.immsub,h.immsup,h.below,?_,λp hp=>h.obs p (za0 _ hp),h0.big,h.maps⟩
 .have:=h.env (i+1000000);have o:(X.over a N ρ).val e (i+1000000)=X.val a i:=by
   have q:¬i+1000000<1000000:=Δ
   unfold Ctx.over;rw[Ctx.val,za q];simp only[Nat.add_sub_cancel]
  rw[o] at this;exact this
 .obtain⟨rs,u,m,y⟩:=h0.marks;refine⟨rs,u,m,λr hr=>⟨?_,(y r hr).2⟩⟩;refine (h.obs (r,.deferred (some [])) (zac _ ?_)).1;rw[m,lk];exact zP.2 ⟨r,hr,rfl⟩
theorem D1.Yu(h:D1 X g st a w){l:Nat}{o o':Obj}(hl:w.heap[l]? = some o)(hc:o.isCells=false)(hm:cZ o=false)(j:o'.isCells=false)(hb:X.w0.heap.size<=l)(G:o ≠ .deferred (some [])){obs:List (Nat × Obj)}
  (A:∀p∈obs,(p=(l,o'))\/(p.1≠l/\p∈X.obs))(H:cZ o'=false:=by rfl):D1 { X with obs:=obs } g st a (w.putObj l o'):=by
 have y:l<w.heap.size:=(t7.1 hl).1;have hcell:∀b i,(w.putObj l o').cell? ⟨b,i,none⟩=w.cell? ⟨b,i,none⟩:=by
  intro b i;by_cases e:b=l
  .subst e;have none_of:∀(W:World) (o:Obj),W.heap[b]? = some o->o.isCells=false->W.cell? ⟨b,i,none⟩=none:=by
    intro W o hW ho;cases hq:W.cell? ⟨b,i,none⟩ with
    | none=>rfl
    | some u=>
     obtain⟨o2,k1,k2⟩:=cells_of_cell hq;rw[show W.heap[b]? = some o2 from k1] at hW;cases hW;rw[k2] at ho;cases ho
   rw[none_of _ _ (World.putObj_heap_same y) j,none_of _ _ hl hc]
  .exact World.cell?_of_block Δu
 have m:∀b i,(w.putObj l o').frozen? ⟨b,i,none⟩=w.frozen? ⟨b,i,none⟩\/b=l:=by
  intro b i;by_cases e:b=l
  .exact .inr e
  .left;unfold World.frozen?;simp only;rw[World.putObj_heap_other e]
 have hx:Ext w g.imm (w.putObj l o') g.imm:=⟨λ_ _ q=>q,λb i _=>hcell b i,λb i x _ hx hmx=>by
  by_cases e:b=l
  .subst e;rw[hl] at hx;cases hx;rw[hm] at hmx;cases hmx
  .rw[World.putObj_heap_other e];exact hx⟩
 refine⟨h.size,λi=>(h.env i).mono hx λ_ q=>⟨q,rfl⟩,λl' r q=>(h.rows l' r q).mono hx (λ_ k=>⟨k,rfl⟩) λb i ho=>⟨hcell b i,?_⟩,h.disj,h.ownimm,λb i q=>?_,h.immsub,h.immsup,?_,?_,λp hp=>?_,h.big,h.maps.move hx (λ_ _ _ q _ _=>q) λk x N q2=>?_⟩
 .rcases m b i with e | e
  .exact e
  .subst e;obtain⟨_,B,_⟩:=(h.rows l' r q).own b i ho;obtain⟨u,hu⟩:=zap.1 B;obtain⟨o2,k1,k2⟩:=cells_of_cell hu;simp only at k1;rw[hl] at k1;cases k1;rw[hc] at k2;cases k2
 .have:=h.immlt b i q;simpa[World.putObj] using this
 .exact h.below.trans ⟨⟨rfl,rfl,rfl,by simp[World.putObj],λk hk=>World.putObj_heap_other Δ⟩,zq _⟩
 .obtain⟨rs,h1,B,C⟩:=h.marks;refine⟨rs,h1,B,λr hr=>⟨?_,(C r hr).2⟩⟩;rw[World.putObj_heap_other (λe=>by subst e;have h4:=(C _ hr).1;rw[hl] at h4;exact G (t8 h4))];exact (C r hr).1
 .rcases A p hp with rfl | ⟨k1,k2⟩
  .exact⟨World.putObj_heap_same y,j,H⟩
  .rw[World.putObj_heap_other k1];exact h.obs p k2
 .by_cases e:k=l
  .subst e;rw[hl] at N;cases N;rw[hm] at q2;cases q2
  .rw[World.putObj_heap_other e];exact N
theorem D1.mark(h:D1 X g st a w){D:Nat}(o:w.heap[D]? = some (.deferred (some [])))(hb:X.w0.heap.size<=D)(hn:∀d∈a.defers,d.target ≠ .collected D)(hc:X.calm=false) :
  D1 X g st { a with defers:={ target:=.collected D,args:=#[] }::a.defers } w:=by
 obtain⟨rs,j,e,m⟩:=h.marks;refine⟨h.size,h.env,h.rows,h.disj,h.ownimm,h.immlt,h.immsub,h.immsup,h.below,⟨D::rs,?_,by rw[e];rfl,λr hr=>?_⟩,h.obs,⟨h.big.1,λq=>(by rw[hc] at q;cases q)⟩,h.maps⟩
 .refine zax.2 ⟨λhr=>?_,j⟩;exact hn { target:=.collected D,args:=#[] } (by rw[e];exact zP.2 ⟨D,hr,rfl⟩) rfl
 .rcases zV.1 hr with rfl | hr
  .exact⟨o,hb⟩
  .exact m r hr
theorem D1.Tn(h:D1 X g st a w):∀d∈a.defers,∀r,d.target = .collected r->r<w.heap.size:=by
 obtain⟨rs,_,e,j⟩:=h.marks;intro d hd r hr;rw[e] at hd;obtain⟨k,hk,rfl⟩:=zP.1 hd;cases hr;exact (t7.1 (j _ hk).1).1
theorem D1.watch(h:D1 X g st a w){l:Nat}{o:Obj}(hl:w.heap[l]? = some o)(hc:o.isCells=false)(hm:cZ o=false:=by rfl):D1 { X with obs:=(l,o)::X.obs } g st a w:=
 ⟨h.size,h.env,h.rows,h.disj,h.ownimm,h.immlt,h.immsub,h.immsup,h.below,h.marks,λp hp=>by
  rcases zV.1 hp with rfl | hp
  .exact⟨hl,hc,hm⟩
  .exact h.obs p hp,h.big,h.maps⟩
end
end Go.Pw
namespace Go.Pw
open Go.RowKit Go.Sh
section
variable{X:Ctx}{Q:PX->Ctx->St->Prop}{st:St}{ops:Array Oper}{i:Nat}{os:List Oper}{K:Ctx->St->Prop}{env:Nat->PV}{σ:Nat->Option Row}{ty:TypeId}{pos:String}{after:Array Edge}{gd:Option (Nat × Bool)}{op:Op}{t:Tmp}{d:PV}
theorem y0(hw:D9 ops env ⟨some t,op,ty,pos,after,gd⟩=some true)(h:E6 X.P σ (B6 env) (some t) op d .none)(k:Sq X ops (i+1) os K ⟨z7 env t d,σ⟩):Sq X ops i (⟨some t,op,ty,pos,after,gd⟩::os) K ⟨env,σ⟩:=
 pX (.run d .none hw h ⟨H7.refl _,H2.refl _⟩ trivial (λ_=>rfl) (λq=>nomatch q)) k
theorem y1{r:Row}(hw:D9 ops env ⟨some t,op,ty,pos,after,gd⟩=some true)(h:E6 X.P σ (B6 env) (some t) op d (.new t r))(hf:σ t=none)(k:Sq X ops (i+1) os K ⟨z7 env t d,z7 σ t (some r)⟩):Sq X ops i (⟨some t,op,ty,pos,after,gd⟩::os) K ⟨env,σ⟩:=
 pX (.run d (.new t r) hw h ⟨H7.refl _,H2.refl _⟩ hf (λq=>nomatch q) (λq=>nomatch q)) k
theorem dY(hw:D9 ops env ⟨some t,op,ty,pos,after,gd⟩=some false)(k:Sq X ops (i+1) os K ⟨z7 env t (.tup []),σ⟩):Sq X ops i (⟨some t,op,ty,pos,after,gd⟩::os) K ⟨env,σ⟩:=pX (.skip hw) k
theorem Vx.ex{P:Program}{bar:List Nat}{o:Oper}{s:St}{K:St->Prop}(h:Vx P ops true (kept bar) (cls bar i o.op) o st s)(k:Ex P ops bar true (i+1) os s K):Ex P ops bar true i (o::os) st K:=⟨s,h,k⟩
theorem o6{g:Bool}(hw:D9 ops env ⟨some t,op,ty,pos,after,gd⟩=some g)(h:g=true->E6 X.P σ (B6 env) (some t) op d .none)(k:Sq X ops (i+1) os K ⟨z7 env t (cond g d (.tup [])),σ⟩):Sq X ops i (⟨some t,op,ty,pos,after,gd⟩::os) K ⟨env,σ⟩:=by
 cases g;·exact dY hw k
 .exact y0 hw (h rfl) k
theorem tG{ops:Array Oper}{env:Nat->PV}{o:Oper}{j u:Nat}{want g b:Bool}(e:o.guard=some (j,want))(hd:(ops[j]?).bind (·.dst)=some u)(h:B6 env (.tmp u)=cond g (.bool b) (.tup [])):D9 ops env o=some (g&&(b==want)):=by
 unfold D9;rw[e];simp only[hd,h];cases g <;> rfl
theorem dD{x y:Operand}{T:TypeId}{l q n:Nat}{x0 x' d:PV}{cs:List PV}{opn:Bool}{z:Nat}{cl cl':Bool}(hw:D9 ops env ⟨none,.store T x y,ty,pos,after,gd⟩=some true)(hx:B6 env x = .ptr l 0 q)(hy:B6 env y=d\/(B6 env y).w1=d)(hs:w9 X.P T=some n)(k:Sq X ops (i+1) os K ⟨env,z7 σ l (some ⟨[x'],0,opn,z,cl'⟩)⟩)(hl:σ l=some ⟨[x0],0,opn,z,cl⟩:=by rfl)
  (hc:d.cells=cs:=by rfl)(he:d.el=true:=by rfl)(hp:0<n:=by exact zF rfl)(hn:cs.length=n:=by rfl)(hf:q+n<=x0.cells.length:=by exact zF rfl)(hsc:cs.all PV.sc=true:=by rfl)(e:K7 x0 q cs=x':=by rfl)(hcl:(cl&&cs.all PV.aP)=cl':=by rfl) :
  Sq X ops i (⟨none,.store T x y,ty,pos,after,gd⟩::os) K ⟨env,σ⟩:=by
 subst e;subst hcl;have h:E6 X.P σ (B6 env) none (.store T x y) (.tup []) (.sto l 0 q cs):=rU hx hy hc he hs hp hn;have:=pX (X:=X) (K:=K) (os:=os) (i:=i) (ops:=ops) (st:=⟨env,σ⟩) (.run (.tup []) (.sto l 0 q cs) hw h ⟨H7.refl _,H2.refl _⟩ ⟨_,x0,hl,rfl,zq _,by rw[hn];exact hf,hsc⟩ (λq=>nomatch q) (λq=>nomatch q));refine this ?_;simp only[Y5.apply,hl];exact k
theorem fT{α:Type}{f:α->PV}{xs:List α}{e v:α}{m:Int}{x y:Operand}{T:TypeId}{l q n:Nat}{d:PV}{cs:List PV}{opn:Bool}{z:Nat}(h:ix xs m=some e)(hw:D9 ops env ⟨none,.store T x y,ty,pos,after,gd⟩=some true)(hx:B6 env x = .ptr l m.toNat q)(hy:B6 env y=d\/(B6 env y).w1=d)(hs:w9 X.P T=some n)(k:Sq X ops (i+1) os K ⟨env,z7 σ l (some ⟨(xs.set m.toNat v).map f,0,opn,z,true⟩)⟩)(hl:σ l=some ⟨xs.map f,0,opn,z,true⟩:=by rfl)
  (hc:d.cells=cs:=by rfl)(he:d.el=true:=by rfl)(hp:0<n:=by exact zF rfl)(hn:cs.length=n:=by rfl)(hf:q+n<=(f e).cells.length:=by exact zF rfl)(hsc:cs.all PV.sc=true:=by rfl)(j:K7 (f e) q cs=f v:=by rfl)(hcl:cs.all PV.aP=true:=by rfl) :
  Sq X ops i (⟨none,.store T x y,ty,pos,after,gd⟩::os) K ⟨env,σ⟩:=by
 have h0:E6 X.P σ (B6 env) none (.store T x y) (.tup []) (.sto l m.toNat q cs):=rU hx hy hc he hs hp hn;have o:=(lS f h).2;have:=pX (X:=X) (K:=K) (os:=os) (i:=i) (ops:=ops) (st:=⟨env,σ⟩) (.run (.tup []) (.sto l m.toNat q cs) hw h0 ⟨H7.refl _,H2.refl _⟩ ⟨_,f e,hl,o,rg _,by rw[hn];exact hf,hsc⟩ (λq=>nomatch q) (λq=>nomatch q));refine this ?_;simp only[Y5.apply,hl,o,j,hcl,zag];rw[<-zbt];exact k
theorem J4{s:Nat}{r q:Row}(hw:D9 ops env ⟨some t,op,ty,pos,after,gd⟩=some true)(h:E6 X.P σ (B6 env) (some t) op d (.app s t r))(hf:σ t=none)(e:σ s=some q)(ho:q.opn=true)
  (k:Sq X ops (i+1) os K ⟨z7 env t d,z7 (z7 σ s (some ⟨q.els,q.els.length,false,q.z,q.cl⟩)) t (some r)⟩):Sq X ops i (⟨some t,op,ty,pos,after,gd⟩::os) K ⟨env,σ⟩:=by
 have:=pX (X:=X) (K:=K) (os:=os) (i:=i) (ops:=ops) (st:=⟨env,σ⟩) (.run d (.app s t r) hw h ⟨H7.refl _,H2.refl _⟩ ⟨hf,q,e,ho⟩ (λq=>nomatch q) (λq=>nomatch q));refine this ?_;simp only[Y5.apply,e];exact k
theorem yc(hw:D9 ops env ⟨some t,op,ty,pos,after,gd⟩=some true)(h:E6 X.P σ (B6 env) (some t) op d (.pM []))(k:Sq X ops (i+1) os K ⟨z7 env t d,σ⟩):Sq X ops i (⟨some t,op,ty,pos,after,gd⟩::os) K ⟨env,σ⟩:=
 pX (.run d (.pM []) hw h ⟨H7.refl _,H2.refl _⟩ trivial (λq=>nomatch q) (λq=>nomatch q)) k
theorem YH{ls:List Nat}{σ':Nat->Option Row}(hw:D9 ops env ⟨some t,op,ty,pos,after,gd⟩=some true)(h:E6 X.P σ (B6 env) (some t) op d (.pM ls))(hs:T0 σ ls=σ')(k:Sq X ops (i+1) os K ⟨z7 env t d,σ'⟩):Sq X ops i (⟨some t,op,ty,pos,after,gd⟩::os) K ⟨env,σ⟩:=by
 subst hs;exact pX (.run d (.pM ls) hw h ⟨H7.refl _,H2.refl _⟩ trivial (λq=>nomatch q) (λq=>nomatch q)) k
theorem ycN{ls:List Nat}{σ':Nat->Option Row}{r:Row}(hw:D9 ops env ⟨some t,op,ty,pos,after,gd⟩=some true)(h:E6 X.P σ (B6 env) (some t) op d (.frzN ls t r))(hf:σ t=none)(hs:T0 σ ls=σ')(k:Sq X ops (i+1) os K ⟨z7 env t d,z7 σ' t (some r)⟩):Sq X ops i (⟨some t,op,ty,pos,after,gd⟩::os) K ⟨env,σ⟩:=by
 subst hs;exact pX (.run d (.frzN ls t r) hw h ⟨H7.refl _,H2.refl _⟩ hf (λq=>nomatch q) (λq=>nomatch q)) k
theorem a3z{l:Nat}{ys es:List PV}{q:Row}(hw:D9 ops env ⟨some t,op,ty,pos,after,gd⟩=some true)(h:E6 X.P σ (B6 env) (some t) op d (.yT l ys))(hl:σ l=some q)(hlo:q.lo=0)(hn:ys.length<=q.els.length)(he:ys++q.els.drop ys.length=es)
  (k:Sq X ops (i+1) os K ⟨z7 env t d,z7 σ l (some ⟨es,q.lo,q.opn,q.z,q.cl⟩)⟩):Sq X ops i (⟨some t,op,ty,pos,after,gd⟩::os) K ⟨env,σ⟩:=by
 have:=pX (X:=X) (K:=K) (os:=os) (i:=i) (ops:=ops) (st:=⟨env,σ⟩) (.run d (.yT l ys) hw h ⟨H7.refl _,H2.refl _⟩ ⟨q,hl,hlo,hn⟩ (λq=>nomatch q) (λq=>nomatch q));refine this ?_;subst he;simp only[Y5.apply,hl];exact k
end
section
variable{P:Program}{ops:Array Oper}{bar:List Nat}{i:Nat}{os:List Oper}{K:St->Prop}{env:Nat->PV}{σ:Nat->Option Row}{ty:TypeId}{pos:String}{after:Array Edge}{gd:Option (Nat × Bool)}{op:Op}{t:Tmp}{d:PV}
theorem K3(h:K ⟨env,σ⟩):Ex P ops bar true i [] ⟨env,σ⟩ K:=h
theorem d7(hw:D9 ops env ⟨some t,op,ty,pos,after,gd⟩=some true)(h:∀σ',H2 (kept bar) σ σ'->E6 P σ' (B6 env) (some t) op d .none)(e:cls bar i op=7)(k:Ex P ops bar true (i+1) os ⟨z7 env t d,σ⟩ K) :
  Ex P ops bar true i (⟨some t,op,ty,pos,after,gd⟩::os) ⟨env,σ⟩ K:=x7 hw h e k
theorem d0(hw:D9 ops env ⟨some t,op,ty,pos,after,gd⟩=some true)(h:E6 P σ (B6 env) (some t) op d .none)(hc:cls bar i op=0)(k:Ex P ops bar true (i+1) os ⟨z7 env t d,σ⟩ K) :
  Ex P ops bar true i (⟨some t,op,ty,pos,after,gd⟩::os) ⟨env,σ⟩ K:=x0 hw h (λ_=>by rw[hc];rfl) k
theorem d2(hw:D9 ops env ⟨some t,op,ty,pos,after,gd⟩=some true)(h:E6 P σ (B6 env) (some t) op d .none)(hc:cls bar i op=2)(k:Ex P ops bar true (i+1) os ⟨z7 env t d,σ⟩ K) :
  Ex P ops bar true i (⟨some t,op,ty,pos,after,gd⟩::os) ⟨env,σ⟩ K:=x0 hw h (λ_=>by rw[hc];exact .inl rfl) k
theorem d5(hw:D9 ops env ⟨some t,op,ty,pos,after,gd⟩=some true)(h:E6 P σ (B6 env) (some t) op d .none)(hc:cls bar i op=5)(k:Ex P ops bar true (i+1) os ⟨z7 env t d,σ⟩ K) :
  Ex P ops bar true i (⟨some t,op,ty,pos,after,gd⟩::os) ⟨env,σ⟩ K:=x0 hw h (λ_=>by rw[hc];exact .inl rfl) k
theorem aZ(hw:D9 ops env ⟨some t,op,ty,pos,after,gd⟩=some true)(h:E6 P σ (B6 env) (some t) op d (.pM []))(hc:cls bar i op=2)(k:Ex P ops bar true (i+1) os ⟨z7 env t d,σ⟩ K) :
  Ex P ops bar true i (⟨some t,op,ty,pos,after,gd⟩::os) ⟨env,σ⟩ K:=a3y hw h (λ_=>by rw[hc];exact .inr (.inl rfl)) k
theorem d5f{ls:List Nat}{σ':Nat->Option Row}(hw:D9 ops env ⟨some t,op,ty,pos,after,gd⟩=some true)(h:E6 P σ (B6 env) (some t) op d (.pM ls))(hs:T0 σ ls=σ')(hc:cls bar i op=5)(k:Ex P ops bar true (i+1) os ⟨z7 env t d,σ'⟩ K) :
  Ex P ops bar true i (⟨some t,op,ty,pos,after,gd⟩::os) ⟨env,σ⟩ K:=by
 subst hs;exact⟨_,.run d (.pM ls) hw h ⟨H7.refl _,H2.refl _⟩ trivial (λ_=>rfl) (λ_=>by rw[hc];exact .inr (.inl ⟨_,rfl⟩)),k⟩
theorem d1{r:Row}(hw:D9 ops env ⟨some t,op,ty,pos,after,gd⟩=some true)(h:E6 P σ (B6 env) (some t) op d (.new t r))(hf:σ t=none)(ht:(Y5.new t r).off (kept bar)=true)(hc:cls bar i op=1)(k:Ex P ops bar true (i+1) os ⟨z7 env t d,z7 σ t (some r)⟩ K) :
  Ex P ops bar true i (⟨some t,op,ty,pos,after,gd⟩::os) ⟨env,σ⟩ K:=x1 hw h hf (λ_=>ht) (λ_=>by rw[hc];exact .inr ⟨_,_,rfl⟩) k
theorem RQ(hw:D9 ops env ⟨some t,op,ty,pos,after,gd⟩=some true)(h:E6 P σ (B6 env) (some t) op d .none)(hc:cls bar i op=1)(k:Ex P ops bar true (i+1) os ⟨z7 env t d,σ⟩ K) :
  Ex P ops bar true i (⟨some t,op,ty,pos,after,gd⟩::os) ⟨env,σ⟩ K:=x0 hw h (λ_=>by rw[hc];exact .inl rfl) k
theorem d3{r:Row}(hw:D9 ops env ⟨some t,op,ty,pos,after,gd⟩=some true)(h:E6 P σ (B6 env) (some t) op d (.new t r))(hf:σ t=none)(ht:(Y5.new t r).off (kept bar)=true)(hc:cls bar i op=3)(k:Ex P ops bar true (i+1) os ⟨z7 env t d,z7 σ t (some r)⟩ K) :
  Ex P ops bar true i (⟨some t,op,ty,pos,after,gd⟩::os) ⟨env,σ⟩ K:=x1 hw h hf (λ_=>ht) (λ_=>by rw[hc];exact .inl ⟨_,_,rfl⟩) k
theorem WL{s:Nat}{r q:Row}(hw:D9 ops env ⟨some t,op,ty,pos,after,gd⟩=some true)(h:E6 P σ (B6 env) (some t) op d (.app s t r))(hf:σ t=none)(e:σ s=some q)(ho:q.opn=true)(ht:(Y5.app s t r).off (kept bar)=true)(hc:cls bar i op=3)
  (k:Ex P ops bar true (i+1) os ⟨z7 env t d,z7 (z7 σ s (some ⟨q.els,q.els.length,false,q.z,q.cl⟩)) t (some r)⟩ K) :
  Ex P ops bar true i (⟨some t,op,ty,pos,after,gd⟩::os) ⟨env,σ⟩ K:=a3x hw h hf e ho (λ_=>ht) (λ_=>by rw[hc];exact .inr ⟨_,_,_,rfl⟩) k
theorem L9{g:Bool}(hw:D9 ops env ⟨some t,op,ty,pos,after,gd⟩=some g)(h:g=true->∀σ',H2 (kept bar) σ σ'->E6 P σ' (B6 env) (some t) op d .none)(hc:cls bar i op=7)(k:Ex P ops bar true (i+1) os ⟨z7 env t (cond g d (.tup [])),σ⟩ K) :
  Ex P ops bar true i (⟨some t,op,ty,pos,after,gd⟩::os) ⟨env,σ⟩ K:=by
 cases g;·exact MP hw k
 .exact x7 hw (h rfl) hc k
theorem bE{g:Bool}(hw:D9 ops env ⟨some t,op,ty,pos,after,gd⟩=some g)(h:g=true->E6 P σ (B6 env) (some t) op d .none)(hc:cls bar i op=0)(k:Ex P ops bar true (i+1) os ⟨z7 env t (cond g d (.tup [])),σ⟩ K) :
  Ex P ops bar true i (⟨some t,op,ty,pos,after,gd⟩::os) ⟨env,σ⟩ K:=by
 cases g;·exact MP hw k
 .exact d0 hw (h rfl) hc k
theorem NB{g:Bool}(hw:D9 ops env ⟨some t,op,ty,pos,after,gd⟩=some g)(h:g=true->E6 P σ (B6 env) (some t) op d .none)(hc:cls bar i op=2)(k:Ex P ops bar true (i+1) os ⟨z7 env t (cond g d (.tup [])),σ⟩ K) :
  Ex P ops bar true i (⟨some t,op,ty,pos,after,gd⟩::os) ⟨env,σ⟩ K:=by
 cases g;·exact MP hw k
 .exact d2 hw (h rfl) hc k
theorem A5{x y:Operand}{T:TypeId}{l q n:Nat}{x0 x' d:PV}{cs:List PV}{opn:Bool}{z:Nat}{cl cl':Bool}(hw:D9 ops env ⟨none,.store T x y,ty,pos,after,gd⟩=some true)(hx:B6 env x = .ptr l 0 q)(hy:B6 env y=d\/(B6 env y).w1=d)(hs:w9 P T=some n)(k:Ex P ops bar true (i+1) os ⟨env,z7 σ l (some ⟨[x'],0,opn,z,cl'⟩)⟩ K)(hl:σ l=some ⟨[x0],0,opn,z,cl⟩:=by rfl)
  (hc:d.cells=cs:=by rfl)(he:d.el=true:=by rfl)(hp:0<n:=by exact zF rfl)(hn:cs.length=n:=by rfl)(hf:q+n<=x0.cells.length:=by exact zF rfl)(hsc:cs.all PV.sc=true:=by rfl)(e:K7 x0 q cs=x':=by rfl)(hcl:(cl&&cs.all PV.aP)=cl':=by rfl)(ht:(Y5.sto l 0 q cs).off (kept bar)=true:=by rfl)(j:cls bar i (.store T x y)=4:=by rfl):Ex P ops bar true i (⟨none,.store T x y,ty,pos,after,gd⟩::os) ⟨env,σ⟩ K:=
 Zz hw (rU hx hy hc he hs hp hn) hl rfl (zq _) (by rw[hn];exact hf) hsc hcl e rfl (λ_=>ht) (λ_=>by rw[j];trivial) k
end
section
variable{X:Ctx}{Q:PX->Ctx->St->Prop}{st:St}
theorem a1r{J R:Type}{x y:Code}{κ:J->Option R}{r:R}(F:J->St)(hk:∀j,κ j=some r->Z2 X y Q (F j))(hx:Z2 X x (lC (λX' s=>X'=X/\∃j,κ j=some r/\Wk s (F j)) Q) st):Z2 X (.seq x y) Q st:=
 c4 (hx.mono λe X' s q=>by
  cases e <;> simp only[lC] at q |- <;> first | exact q | (
   obtain⟨rfl,j,m,o⟩:=q;exact dv o (hk j m)))
theorem a3j{S E:Type}{f:S->Option (S ⊕ E)}{s0:S}{e:E}{c:Code}(I:S->Ctx->St->Prop)(h:lp f s0=some e)(h0:∃o,Wk st o/\I s0 X o)(hX:∀s X1 s1,I s X1 s1->X1.P=X.P/\X1.ρ=X.ρ)
  (hr:∀s X1 s1,I s X1 s1->∀x,f s=some x->(∀p,x = .inr p->p=e)->Z2 X1 c (lC (λX' s'=>∃s2,x = .inl s2/\∃s'',Wk s' s''/\I s2 X' s'') Q) s1):Z2 X (.loop c) Q st:=by
 intro n g a w hs;let J:Nat->Act->World->Prop:=λm a w=>∃s X1 u s1,D1 X1 u s1 a w/\I s X1 s1/\Td f m s=some e
 have least:∀a w,∃k,(∃m,J m a w)->J k a w/\∀m,J m a w->k<=m:=by
  intro a w;by_cases q:∃m,J m a w
  .obtain⟨k,C,H⟩:=exists_least q;exact⟨k,λ_=>⟨C,H⟩⟩
  .exact⟨0,λh=>absurd h q⟩
 obtain⟨o,hw1,N⟩:=h0;obtain⟨u,hs1⟩:=hw1 X g a w hs;refine wpIn_loop (λa w=>∃m,J m a w) (λa w=>Classical.choose (least a w)) ⟨_,s0,X,u,o,hs1,N,by rw[<-IU];exact h⟩ ?_;rintro a w hI;obtain⟨⟨s,X1,u,s1,k1,k2,j⟩,_⟩:=za1 (least a w) hI;generalize hm:Classical.choose (least a w)=m at j |-;obtain⟨hP,A⟩:=hX s X1 s1 k2;cases m with
 | zero=>rw[BP] at j;cases j
 | succ m=>
  rw[mH] at j;cases hf:f s with
  | none=>rw[hf] at j;cases j
  | some x=>
   have hx:∀p,x = .inr p->p=e:=λp q=>by
    rw[hf,q] at j;exact t8 j
   have:=hr s X1 s1 k2 x hf hx n u a w k1;rw[hP,A] at this;refine zbx this λex B w' q=>?_;rw[vk ⟨hP,A⟩] at q;cases ex <;> simp only[lift,lC,Exit.then] at q |- <;> first | exact q | skip
   obtain⟨X',g',st',C,_,s2,hx2,s'',hw2,H⟩:=q;obtain⟨g2,G⟩:=hw2 X' g' B w' C;have hJ:J m B w':=⟨s2,X',g2,s'',G,H,by rw[hf,hx2] at j;exact j⟩;have y:∃m,J m B w':=⟨m,hJ⟩;exact⟨y,Nat.lt_succ_of_le ((za1 (least B w') y).2 m hJ)⟩
theorem a1u{S E:Type}{f:S->Option (S ⊕ E)}{s0:S}{e:E}{c:Code}(F:S->St)(h:lp f s0=some e)(h0:Wk st (F s0))
  (hr:∀s x,f s=some x->(∀j,x = .inr j->j=e)->Z2 X c (lC (λX' s'=>X'=X/\∃s2,x = .inl s2/\Wk s' (F s2)) Q) (F s)):Z2 X (.loop c) Q st:=
 a3j (λs X1 s1=>X1=X/\s1=F s) h ⟨_,h0,rfl,rfl⟩ (λs X1 s1 q=>by rw[q.1];exact⟨rfl,rfl⟩) (by
  rintro s _ _ ⟨rfl,rfl⟩ x hf hx;refine (hr s x hf hx).mono λex X' s' q=>?_;cases ex <;> simp only[lC] at q |- <;> first | exact q | (
   obtain⟨m,s2,o,p⟩:=q;exact⟨s2,o,_,p,m,rfl⟩))
end
end Go.Pw
namespace Go.Pw
open Go.RowKit Go.Sh
abbrev Ls{α:Type}(f:α->PV)(l:List α):PV:=.H4 false (l.map f)
abbrev _root_.Go.Sh.A4.Pc(x:A4):List PV:=[.int .i64 x.a,.int .i64 x.b,.int .i64 x.c,.int .i64 x.d]
abbrev _root_.Go.Sh.A4.Pv(x:A4):PV:=.agg x.Pc
theorem A4.get{x:A4}{i v:Int}(h:A4.ix x i=some v):x.Pc[0+i.toNat*1]? = some (.int .i64 v):=by
 have:=(lS (PV.int .i64) h).2;rw[m7,zb5];exact this
section
variable{P:Program}{σ:Nat->Option Row}{ρ:Operand->PV}{dst:Option Tmp}
variable {c a b:Operand}{x:Bool}
theorem a1j(hc:ρ c = .bool x)(ha:ρ a = .bool true)(e:(x==false)=false):E6 P σ ρ dst (.pick c a b) (.bool true) .none:=by
 have:=E6.pick (P:=P) (σ:=σ) (dst:=dst) c a b x hc;rw[ha] at this;cases x;·cases e
 .exact this
theorem rW(hc:ρ c = .bool x)(hb:ρ b = .bool false)(e:(x==true)=false):E6 P σ ρ dst (.pick c a b) (.bool false) .none:=by
 have:=E6.pick (P:=P) (σ:=σ) (dst:=dst) c a b x hc;rw[hb] at this;cases x;·exact this
 .cases e
theorem oQ{y:Bool}(hc:ρ c = .bool x)(ha:ρ a = .bool y)(e:(x==true)=true):E6 P σ ρ dst (.pick c a b) (.bool y) .none:=by
 have:=E6.pick (P:=P) (σ:=σ) (dst:=dst) c a b x hc;rw[ha] at this;cases x;·cases e
 .exact this
theorem a1k{y:Bool}(hc:ρ c = .bool x)(hb:ρ b = .bool y)(e:(x==false)=true):E6 P σ ρ dst (.pick c a b) (.bool y) .none:=by
 have:=E6.pick (P:=P) (σ:=σ) (dst:=dst) c a b x hc;rw[hb] at this;cases x;·exact this
 .cases e
theorem Ob{x:A4}{i v:Int}{T E:TypeId}{l:Nat}{k:IntKind}(h:A4.ix x i=some v)(hx:ρ a = .ptr l 0 0)(hy:ρ b = .int k i)(hE:DI P T=some (4,E))(hz:w9 P E=some 1) :
  E6 P σ ρ dst (.indexAddr T a b) (.ptr l 0 (0+i.toNat*1)) .none:=by
 obtain⟨h0,j⟩:=BK h;have e:=(zA.1 j).1;simp only[A4.l,zl,zT] at e;exact .idxA T a b l 0 0 k i 4 E 1 hx hy h0 Δ hE hz
theorem Tz{t u:TypeId}{x y:Operand}{k:IntKind}{a b:Int}(hx:ρ x = .int k a)(hy:ρ y = .int k b):E6 P σ ρ dst (.binOp .and t x y u) (.int k (wW k a b)) .none:=by
 refine .pureV _ _ (λc q=>Γ) (λT x q=>Γ) λo w imm μ u3 ev ho hr=>?_;have e:=hr x Ωb;have j:=hr y Ωb;rw[hx] at e;rw[hy] at j;obtain⟨dst,op,ty,pos,after,guard⟩:=o;simp only at ho;subst ho;refine⟨.int k (wW k a b),?_,.cl (.int _ _)⟩;simp only[execOp,e.L1,j.L1];refine pn ⟨λ_ q=>Γ,λq=>Γ⟩ ?_;simp[binOp,Op.intBits,wW]
section
variable{w:World}{imm:Nat->Nat->Prop}{μ:Nat->L7}{u3:Nat->Prop}
end
theorem four{α:Type}{xs:List α}(h:xs.length=4):∃a b c d,xs = [a,b,c,d]:=by
 rcases xs with _ | ⟨a,_ | ⟨b,_ | ⟨c,_ | ⟨d,_ | ⟨e,l⟩⟩⟩⟩⟩ <;> simp at h
 exact⟨a,b,c,d,rfl⟩
end
section
variable{X:Ctx}{ops:Array Oper}{i:Nat}{os:List Oper}{K:Ctx->St->Prop}{env:Nat->PV}{σ:Nat->Option Row}{ty:TypeId}{pos:String}{after:Array Edge}{gd:Option (Nat × Bool)}{t:Tmp}
theorem Yk{x:A4}{i v:Int}{w:Int}(h:A4.ix x i=some w):K7 x.Pv (0+i.toNat*1) [.int .i64 v]=(A4.st x i v).Pv:=by
 obtain⟨h0,j⟩:=BK h;have e:=(zA.1 j).1;simp only[A4.l,zl,zT] at e;rw[m7,zb5];obtain⟨k,hk⟩:∃k,i.toNat=k:=⟨_,rfl⟩;unfold A4.st;rw[hk] at e |-;match k,e with
 | 0,_=>rfl
 | 1,_=>rfl
 | 2,_=>rfl
 | 3,_=>rfl
theorem ZB{x0:A4}{m v v0:Int}{x y:Operand}{T:TypeId}{l:Nat}{opn:Bool}{z:Nat}{cl:Bool}(h:A4.ix x0 m=some v0)(hw:D9 ops env ⟨none,.store T x y,ty,pos,after,gd⟩=some true)(hx:B6 env x = .ptr l 0 (0+m.toNat*1))(hy:B6 env y = .int .i64 v\/(B6 env y).w1 = .int .i64 v)(hl:σ l=some ⟨[x0.Pv],0,opn,z,cl⟩)
  (hs:w9 X.P T=some 1)(k:Sq X ops (i+1) os K ⟨env,z7 σ l (some ⟨[(A4.st x0 m v).Pv],0,opn,z,cl⟩)⟩):Sq X ops i (⟨none,.store T x y,ty,pos,after,gd⟩::os) K ⟨env,σ⟩:=by
 obtain⟨h0,o⟩:=BK h;have j:=(zA.1 o).1;simp only[A4.l,zl,zT] at j;have e:(0+m.toNat*1)+1<=x0.Pv.cells.length:=by
  show 0+m.toNat*1+1<=4;omega
 exact dD hw hx hy hs k hl rfl rfl (zF rfl) rfl e rfl (Yk h) (by cases cl <;> rfl)
theorem a19{α:Type}{f:α->PV}{xs ys zs:List α}{x y:Operand}{T U E:TypeId}{l z:Nat}{opn:Bool}(h:yT xs ys=some zs)(hw:D9 ops env ⟨some t,.call { callee:=.builtin .copy,args:=#[x,y],argTypes:=#[T,U] },ty,pos,after,gd⟩=some true)
  (hx:B6 env x = .sl l)(hl:σ l=some ⟨xs.map f,0,opn,z,true⟩)(hy:Src σ (B6 env y) (ys.map f) true)(hE:C1 X.P T=some E)(hz:w9 X.P E=some z)(hel:∀e,(f e).cells.length=z)(hzp:0<z)
  (k:Sq X ops (i+1) os K ⟨z7 env t (.int .i64 ys.length),z7 σ l (some ⟨zs.map f,0,opn,z,true⟩)⟩):Sq X ops i (⟨some t,.call { callee:=.builtin .copy,args:=#[x,y],argTypes:=#[T,U] },ty,pos,after,gd⟩::os) K ⟨env,σ⟩:=by
 obtain⟨j,rfl⟩:=RP h;have m:((ys.map f).length:Int)=ys.length:=Ψ
 refine a3z (l:=l) (q:=⟨xs.map f,0,opn,z,true⟩) (ys:=ys.map f) (es:=(ys++xs.drop ys.length).map f) hw (a08 (n:=ys.length) hx hl rfl hy hE hz rfl (λe he=>Δh) (Ω j) hzp m) hl rfl (Ω j) (by simp[List.map_drop]) k
end
theorem HW{X:Ctx}{ops:Array Oper}{i:Nat}{os:List Oper}{K:Ctx->St->Prop}{env:Nat->PV}{σ:Nat->Option Row}{ty ty' T E:TypeId}{pos:String}{after:Array Edge}{t:Tmp}{x:Operand}{xs:List PV}{q:Bool}
  (hx:B6 env x = .H4 q xs)(hE:C1 X.P T=some E)(k:∀b:Bool,(b=true->xs = [])->Sq X ops (i+1) os K ⟨z7 env t (.bool b),σ⟩) :
  Sq X ops i (⟨some t,.binOp .eql T x (.const (.slice none 0 0)) ty',ty,pos,after,none⟩::os) K ⟨env,σ⟩:=λhd hi n g a w Qo hs G=>by
 have ho:ops[i]? = some ⟨some t,.binOp .eql T x (.const (.slice none 0 0)) ty',ty,pos,after,none⟩:=by have:=hi 0;simpa using this.symm
 have e:List.range' i ((⟨some t,.binOp .eql T x (.const (.slice none 0 0)) ty',ty,pos,after,none⟩:Oper)::os).length=i::List.range' (i+1) os.length:=rfl;have hv:=hs.eval x;rw[hx] at hv;obtain⟨A,c,z,u,o,H,_,B,_⟩:=hv.ji;rw[e,wpOpsIn_cons];unfold wpOpIn;rw[ho];simp only;rw[zc Ωm];have hu:=O9 hE;have m:(binOp .eql T (a.eval x) (.slice none 0 0)).run X.P w = .ok (.bool A.isNone) w:=by
  rw[o];have p:(binOp .eql T (.slice A xs.length c) (.slice none 0 0):Sem Value)=(do pure (.bool (<-Op.equal T (.slice A xs.length c) (.slice none 0 0)))):=rfl;rw[p,zt];have y:(Op.equal T (.slice A xs.length c) (.slice none 0 0)).run X.P w = .ok A.isNone w:=by
   have:Op.maxDepth=9999+1:=rfl;unfold Op.equal;rw[this,Op.equalIn,zt,zZ hu];cases A <;> rfl
  rw[y];rfl
 refine G3 (λc q=>Γ) (v:=.bool A.isNone) (w':=w) ?_ ?_
 .simp only[execOp];have h:a.eval (.const (.slice none 0 0)) = .slice none 0 0:=rfl;rw[h];refine I2 ?_;have C:(eqGuard .eql T x (.const (.slice none 0 0)) (a.eval x) (.slice none 0 0)).run X.P w = .ok () w:=by
   rw[o];exact EN (v:=.slice A xs.length c) ⟨λcs q=>Γ,λq=>Γ⟩
  rw[zt,C,zi,m]
 .refine k A.isNone (λq=>?_) hd (λj=>ΩW) n g _ w Qo (hs.put (I7 hd ho) (.cl (.bool _))) G;cases A with
  | none=>have:=B rfl;exact zN Δ
  | some _=>cases q
theorem KK{s:St}(t:Nat)(ok:(s.env t).nI s.σ=true):Wk s ⟨z7 s.env t ((s.env t).vw s.σ),T0 s.σ ((s.env t).P1 s.σ)⟩:=λX g a w h=>by
 obtain⟨imm',e,j,m⟩:=h.T0 ((s.env t).P1 s.σ);have hv:=h.view j (h.env t) ok m;refine⟨⟨imm',g.μ⟩,⟨e.size,λi=>?_,e.rows,e.disj,e.ownimm,e.immlt,e.immsub,e.immsup,e.below,e.marks,e.obs,e.big,e.maps⟩⟩;by_cases q:i=t
 .subst q;rw[show (St.mk (z7 s.env i ((s.env i).vw s.σ)) (T0 s.σ ((s.env i).P1 s.σ))).env i=(s.env i).vw s.σ from s7 _ _ _];exact .cl hv.w2
 .rw[show (St.mk (z7 s.env t ((s.env t).vw s.σ)) (T0 s.σ ((s.env t).P1 s.σ))).env i=s.env i from r8 _ _ q];exact e.env i
end Go.Pw
namespace Go.Pw
open Go.RowKit Go.Sh
def qT(fn:FuncId)(tmps:Array Value)(ps:Array Tmp)(assign body:Code)(D:Nat):Loop:=
 { state:=.ready,pending:=none,fn:=fn,tmps:=tmps,params:=ps,assign:=assign,body:=body,defers:=D }
structure Ran (X:Ctx) (N0:Nat) (ps:Array Tmp) (assign body:Code) (l:Nat):Prop where
 is:∃(tm:Array Value) (fn:FuncId) (D:Nat) (os:List (Nat × Obj)),X.obs=(l,.loop (qT fn tm ps assign body D))::os/\(∀p∈os,p.1≠l)/\tm.size=N0/\∀i,i<1000000->X.ext (i+1000000)=tm.getD i undef
 lo:X.w0.heap.size<=l
def YR(c:Code):List (Nat × Obj)->List (Nat × Obj)
 | (l,.loop r)::os=>(l,.loop { r with state:=.done,pending:=some c })::os
 | os=>os
def Ctx.done(X:Ctx)(c:Code):Ctx:={ X with obs:=YR c X.obs }
def IQ(Q:PX->Ctx->St->Prop):Code->Ctx->St->Prop
 | .ret,X,s=>Q .ret X s
 | .exit id,X,s=>Q (.exit id) X s
 | _,_,_=>False
def YY(X Y:Ctx)(Q:PX->Ctx->St->Prop):PX->Ctx->St->Prop
 | .normal,X',s | .ret,X',s=>(X'=Y/\Q .normal X ⟨oR s.env,s.σ⟩)\/∃c,X'=Y.done c/\IQ Q c X ⟨oR s.env,s.σ⟩
 | _,_,_=>False
theorem tD{P:Program}{f:FuncId}{fn:Func}{c:Code}(j:P.funcs[f]? = some fn)(m:fn.body=some c)(o:fn.name ≠ "runtime.NumGoroutine")(args:Array Value)(w:World) :
  (callFunc f args).run P w = .ok (.enter f args) w:=by
 have e:(fn.name == "runtime.NumGoroutine")=false:=Ω o
 simp only[callFunc,program,Sem.run,zt,zi,j,e,m];simp
theorem xP{P:Program}{a:Act}{g:Operand}{gf:FuncId}{lb:Array Value}(e:a.eval g = .func (.func gf) #[] lb)(l:Nat)(w:World) :
  (resolve a.eval (rangeCall g l) 0).run P w = .ok { target:=.fn (.func gf) lb,args:=#[.func (.yield l) #[] #[]] } w:=by
 simp only[resolve,e];simp[go_sem]
section
variable{X:Ctx}{Q:PX->Ctx->St->Prop}{st:St}
theorem Ov{w:World}{imm:Nat->Nat->Prop}{μ:Nat->L7}{u3:Nat->Prop}{vs:Array Value}{ds:List PV}(hn:vs.size=ds.length)(h:∀(i:Nat) v d,vs[i]? = some v->ds[i]? = some d->Rd w imm μ u3 v d)(k:Nat)(i:Nat) :
  Rd w imm μ u3 ((vs++Array.replicate k undef).getD i undef) (M3 ds i):=by
 unfold M3;rw[zL,zg];rcases zE i vs.size with q | q
 .rw[ms q,zu q,zd (by rw[<-hn];exact q)];exact h i _ _ (zu q) (zd (by rw[<-hn];exact q))
 .rw[zai q,p0 (by rw[<-hn];exact q),zbo];split;·exact .cl (.tup #[] [] rfl λi v c _ hc=>Ωj)
  .exact .cl (.tup #[] [] rfl λi v c _ hc=>Ωj)
theorem results_none{fn:Func}(h:fn.results = #[])(tmps:Array Value)(P:Program)(w:World):(results fn tmps).run P w = .ok (.tuple #[]) w:=by
 rw[kl,h,Array.mapM_eq_mapM_toList];simp only[List.mapM_nil,<-bind_pure_comp];rfl
theorem fB{g:Operand}{ps:Array Tmp}{assign body:Code}{gf:FuncId}{fn:Func}{c:Code}{cap:List PV}{N1:Nat}(hg:B6 st.env g = .fn (.func gf) cap)(hf:X.P.funcs[gf]? = some fn)(hb:fn.body=some c)(hN:fn.ntmps=N1)(hn:1+cap.length<=N1)
  (hres:fn.results = #[])(hname':B0 X.P gf)(hρ:X.ρ=none)(hcalm:X.calm=false)
  (h:∀l e1 o1,Ran { P:=X.P,N:=N1,ρ:=none,w0:=X.w0,imm0:=X.imm0,ext:=e1,obs:=o1,calm:=true,tab:=X.tab } X.N ps assign body l ->
   Z2 { P:=X.P,N:=N1,ρ:=none,w0:=X.w0,imm0:=X.imm0,ext:=e1,obs:=o1,calm:=true,tab:=X.tab } c (YY X { P:=X.P,N:=N1,ρ:=none,w0:=X.w0,imm0:=X.imm0,ext:=e1,obs:=o1,calm:=true,tab:=X.tab } Q) ⟨tx (M3 (.fn (.yield l) []::cap)) st.env,st.σ⟩)
  (h6:N1<=1000000:=by exact zF rfl):Z2 X (.rangeFunc g ps assign body) Q st:=by
 intro n g' a w hs;obtain⟨fn2,c2,hf2,_,hname⟩:=hname';rw[hf] at hf2;cases hf2;refine wpIn_rangeFunc λfid _=>?_;have hv:=hs.eval g;rw[hg] at hv;obtain⟨vs,e,hnv,hcap⟩:=jR hv;generalize o:qT fid a.tmps ps assign body w.heap.size=rec;have hrun1:(Instr.enterLoop fid a.tmps ps assign body (FX X.ρ).round).run X.P w = .ok (w.heap.size+1,[{ target:=.collected w.heap.size,args:=#[] }]) ((w.alloc (.deferred (some []))).alloc (.loop rec)):=by
  rw[hρ,<-o];exact run_enterLoop_outer fid a.tmps ps assign body
 have hinv:∀W:World,(invoke (.fn (.func gf) vs) #[.func (.yield (w.heap.size+1)) #[] #[]]).run X.P W = .ok (.enter gf (#[.func (.yield (w.heap.size+1)) #[] #[]]++vs)) W:=λW=>by
  simp only[invoke];exact tD hf hb hname _ _
 refine⟨w.heap.size+1,_,_,_,_,gf,#[.func (.yield (w.heap.size+1)) #[] #[]]++vs,_,hrun1,xP e _ _,λ_ _=>trivial,hinv _,λq=>by simp[FX] at q,?_⟩;generalize hl:w.heap.size+1=l;have s1:=hs.alloc (.deferred (some []));have s2:=s1.alloc (.loop rec);have hz1:(w.alloc (.deferred (some []))).heap.size=w.heap.size+1:=World.size_alloc ..;have hD:((w.alloc (.deferred (some []))).alloc (.loop rec)).heap[w.heap.size]? = some (.deferred (some [])):=by
  rw[Below.heap_alloc _ _ _ (by rw[hz1];exact Nat.lt_succ_self _)];exact World.alloc_heap_new ..
 have hL:((w.alloc (.deferred (some []))).alloc (.loop rec)).heap[l]? = some (.loop rec):=by
  have:=World.alloc_heap_new (w.alloc (.deferred (some []))) (.loop rec);rw[hz1,hl] at this;exact this
 generalize hw2:(w.alloc (.deferred (some []))).alloc (.loop rec)=w2 at s2 hD hL |-;have s3:=s2.mark hD hs.below.size (λd hd q=>absurd (hs.Tn d hd _ q) (zb7 _)) hcalm;generalize ha':({ a with defers:={ target:=.collected w.heap.size,args:=#[] }::a.defers }:Act)=m at s3;have ha2:({ a with defers:=[{ target:=.collected w.heap.size,args:=#[] }]++a.defers }:Act)=m:=ha';rw[ha2];have htm:m.tmps=a.tmps:=by rw[<-ha']
 refine callsIn_of_wp_marks hf hb trivial ?_ hρ;have hyv:Rd w2 g'.imm g'.μ st.u3 (.func (.yield l) #[] #[]) (.fn (.yield l) []):=.cl (.fn (.yield l) #[] [] rfl λi v c _ hc=>Ωj);have hx2:Ext w g'.imm w2 g'.imm:=by
  rw[<-hw2];exact (Ext.alloc hs.immlt _).trans (Ext.alloc s1.immlt _)
 obtain⟨av,G⟩:∃av:Array Value,av=(#[Value.func (.yield l) #[] #[]]++vs):=⟨_,rfl⟩;have hz:av.size=(PV.fn (.yield l) []::cap).length:=by rw[G];simp[hnv];omega
 have hav0:av[0]? = some (Value.func (.yield l) #[] #[]):=by rw[G,ms Ψ];rfl
 have hav1:∀i,av[i+1]? = vs[i]? := λi=>by rw[G,zai Ψ];simp
 have hrd:∀(i:Nat) v d,av[i]? = some v->(PV.fn (.yield l) []::cap)[i]? = some d->Rd w2 g'.imm g'.μ st.u3 v d:=λi v d hv hd=>by
  cases i with
  | zero=>
   rw[hav0] at hv;cases hv;cases hd;exact hyv
  | succ i=>
   rw[hav1] at hv;exact (hcap i v d hv (Ω hd)).mono hx2 λ_ q=>⟨q,rfl⟩
 rw[<-G];have s4:=s3.push (N:=N1) none (tmps:=av++Array.replicate (fn.ntmps-av.size) undef) (top:=M3 (.fn (.yield l) []::cap)) h6 (by
   simp only[zb1,Array.size_replicate];simp only[zl] at hz;omega) (λi _=>Ov hz hrd _ i)
 have s5:=s4.watch hL rfl;generalize hY:({ X.over m N1 none with obs:=(l,.loop rec)::(X.over m N1 none).obs }:Ctx)=Y at s5;have u:Y={ P:=X.P,N:=N1,ρ:=none,w0:=X.w0,imm0:=X.imm0,ext:=Y.ext,obs:=Y.obs,calm:=true,tab:=X.tab }:=by
  rw[<-hY];simp only[Ctx.over]
 have hYx:∀i,Y.ext i=X.val m (i-1000000):=λi=>by rw[<-hY];simp only[Ctx.over]
 have C:Y.obs=(l,.loop rec)::(lj m.defers++X.obs):=by rw[<-hY];simp only[Ctx.over]
 have hos:∀p∈lj m.defers++X.obs,p.1≠l:=by
  intro p hp q;have hlt:p.1<w.heap.size+1:=by
   rcases zC.1 hp with hp | hp
   .rw[<-ha'] at hp;obtain⟨rs,_,r2,r3⟩:=hs.marks;have e2:({ target:=.collected w.heap.size,args:=#[] }::a.defers:List Deferred)=(w.heap.size::rs).map λr=>{ target:=.collected r,args:=#[] }:=by rw[r2];rfl
    simp only[e2,lk] at hp;obtain⟨r,hr,rfl⟩:=zP.1 hp;rcases zV.1 hr with rfl | hr
    .exact Nat.lt_succ_self _
    .exact Nat.lt_succ_of_lt (t7.1 (r3 r hr).1).1
   .exact Nat.lt_succ_of_lt (t7.1 (hs.obs p hp).1).1
  omega
 have y:Ran Y X.N ps assign body l:=⟨⟨a.tmps,fid,w.heap.size,_,by rw[C,<-o],hos,hs.size,λi hi=>by
   rw[hYx,Nat.add_sub_cancel,Ctx.val,zc hi,htm]⟩,by
   rw[<-hY];have:=hs.below.size;show X.w0.heap.size<=l;omega⟩
 have hp:=h l Y.ext Y.obs (u▸y);rw[<-u] at hp;have hp2:=hp (n-1) _ _ _ s5;have hYρ:Y.ρ=none:=by rw[u]
 have hYP:Y.P=X.P:=by rw[u]
 rw[hYρ,hYP] at hp2;rw[hρ];have hYu:{ Y with obs:=(X.over m N1 none).obs }=X.over m N1 none:=by rw[<-hY]
 refine zbx hp2 λex a1 w1 q=>?_;have key:∀X' g1 j,D1 X' g1 j a1 w1->((X'=Y/\Q .normal X ⟨oR j.env,j.σ⟩)\/∃c,X'=Y.done c/\IQ Q c X ⟨oR j.env,j.σ⟩)->LeavesInM (FX none) (n-1) X.P fn a1.tmps (rangePost (FX none) n X.P l (lift X Q) m) a1.defers .returning w1:=by
  intro X' g1 j A H;have hcal:X'.calm=true:=by
   rcases H with ⟨rfl,_⟩ | ⟨B,rfl,_⟩;·rw[u]
   .rw[u];rfl
  rw[A.big.2 hcal];refine⟨_,results_none hres _ _ _,?_⟩;rcases H with ⟨rfl,H⟩ | ⟨B,rfl,H⟩
  .have hh:=(A.obs (l,.loop rec) (by rw[C];exact zm ..)).1;refine⟨rec.pending,_,run_endLoop hh (by rw[<-o];simp[qT]),?_⟩;have t1:=A.Yu (o':=.loop { rec with state:=.exhausted }) hh rfl rfl rfl y.lo (λq=>Γ) (obs:=(X.over m N1 none).obs) (λp hp=>.inr ⟨hos p hp,by rw[C];exact zx _ hp⟩);rw[hYu] at t1;have t2:=s3.pop t1;have hpend:rec.pending=none:=by rw[<-o];rfl
   simp only[hpend] at t2 |-;exact⟨X,_,_,t2,⟨rfl,rfl⟩,H⟩
  .have hdo:(Y.done B).obs=(l,.loop { rec with state:=.done,pending:=some B })::(lj m.defers++X.obs):=by
    show YR B Y.obs=_;rw[C];rfl
   have hh:=(A.obs (l,.loop { rec with state:=.done,pending:=some B }) (by rw[hdo];exact zm ..)).1;refine⟨some B,_,run_endLoop hh Ψ,?_⟩;have t1:=A.Yu (o':=.loop { rec with state:=.exhausted,pending:=some B }) hh rfl rfl rfl y.lo (λq=>Γ) (obs:=(X.over m N1 none).obs) (λp hp=>.inr ⟨hos p hp,by rw[hdo];exact zx _ hp⟩);have hYu2:{ Y.done B with obs:=(X.over m N1 none).obs }=X.over m N1 none:=by rw[<-hYu];rfl
   rw[hYu2] at t1;have t2:=s3.pop t1;simp only;cases B <;> simp only[IQ] at H <;> first | (exact H.elim) | skip
   .exact wpIn_exit ⟨X,_,_,t2,⟨rfl,rfl⟩,H⟩
   .exact wpIn_ret ⟨X,_,_,t2,⟨rfl,rfl⟩,H⟩
 cases ex <;> simp only[lift,YY,bodyPostM] at q |- <;> first
  | (obtain⟨X',g1,j,h1,_,h2⟩:=q;exact key X' g1 j h1 h2)
  | (obtain⟨X',g1,j,h1,_,h2⟩:=q;exact h2.elim)
  | exact q.elim
end
end Go.Pw
namespace Go.Pw
open Go.RowKit Go.Sh
def Ki:List Tmp->List PV->(Nat->PV)->Nat->PV
 | p::ps,d::ds,f=>Ki ps ds (z7 f p d)
 | _,_,f=>f
def a0d(X2 X3:Ctx)(body:Code)(Qb:PX->Ctx->St->Prop):PX->Ctx->St->Prop
 | .normal,X',s=>X'=X2/\Z2 X3 body Qb s
 | _,_,_=>False
def a1H(X3:Ctx)(kT:St->Prop)(kF:Code->St->Prop):PX->Ctx->St->Prop
 | .normal,X',s=>X'=X3/\kT s
 | .ret,X',s=>X'=X3/\kF .ret s
 | .exit id,X',s=>X'=X3/\kF (.exit id) s
 | .goto _,_,_=>False
def a0R(P:Program)(Y:Ctx)(fn:Func)(k:PV->St->Prop):PX->Ctx->St->Prop
 | .normal,X',s | .ret,X',s=>X'=Y/\∃rs,Dp P s fn.results.toList rs/\k (iY rs) s
 | _,_,_=>False
section
variable{X:Ctx}{Q:PX->Ctx->St->Prop}{st:St}{g:Gh}{a:Act}{w:World}
theorem D1.a4r{N:Nat}{ρ:Option Nat}{st':St}{m:Act}{w0:World}{e j:List (Nat × Obj)}(h0:D1 X g st a w0){o:Gh}(h:D1 { X.over a N ρ with obs:=e } o st' m w)(ho:∀p∈lj a.defers++j,p∈e):D1 { X with obs:=j } o ⟨oR st'.env,st'.σ⟩ a w:=by
 refine⟨h0.size,λi=>?_,h.rows,h.disj,h.ownimm,h.immlt,h.immsub,h.immsup,h.below,?_,λp hp=>h.obs p (ho p (za0 _ hp)),h0.big,h.maps⟩
 .have:=h.env (i+1000000);have y:Ctx.val { X.over a N ρ with obs:=e } m (i+1000000)=Ctx.val { X with obs:=j } a i:=by
   have q:¬i+1000000<1000000:=Δ
   unfold Ctx.over;rw[Ctx.val,za q];simp only[Nat.add_sub_cancel];rfl
  rw[y] at this;exact this
 .obtain⟨rs,A,u,B⟩:=h0.marks;refine⟨rs,A,u,λr hr=>⟨?_,(B r hr).2⟩⟩;refine (h.obs (r,.deferred (some [])) (ho _ (zac _ ?_))).1;rw[u,lk];exact zP.2 ⟨r,hr,rfl⟩
theorem yo:∀(l:List (Tmp × Value)) (tm:Array Value),(l.foldl (λtmps (t,a)=>tmps.setIfInBounds t a) tm).size=tm.size
 | [],tm=>rfl
 | p::l,tm=>by
  rw[zaw,yo l];simp
theorem Ec{w:World}{imm:Nat->Nat->Prop}{μ:Nat->L7}{u3:Nat->Prop}:∀(ps:List Tmp) (vs:List Value) (ds:List PV) (tm:Array Value) (f:Nat->PV),vs.length=ds.length->(∀(i:Nat) v d,vs[i]? = some v->ds[i]? = some d->Rd w imm μ u3 v d) ->
  (∀p∈ps,p<tm.size)->(∀i,i<1000000->Rd w imm μ u3 (tm.getD i undef) (f i))->∀i,i<1000000->Rd w imm μ u3 (((ps.zip vs).foldl (λtmps (t,a)=>tmps.setIfInBounds t a) tm).getD i undef) (Ki ps ds f i)
 | [],_,ds,tm,f,_,_,_,h=>by
  cases ds <;> exact h
 | p::ps,[],[],tm,f,_,_,_,h=>h
 | p::ps,[],_::_,tm,f,hn,_,_,h=>by cases hn
 | p::ps,_::_,[],tm,f,hn,_,_,h=>by cases hn
 | p::ps,v::vs,d::ds,tm,f,hn,hv,hp,h=>by
  have ih:=Ec ps vs ds (tm.setIfInBounds p v) (z7 f p d) (Ω hn) (λi u d' j m=>hv (i+1) u d' (Ω j) (Ω m)) (λq o=>by
   simp only[Array.size_setIfInBounds];exact hp q (zx _ o)) (λi hi=>by
   unfold z7;by_cases e:i=p
   .subst e;have:=hp i (zm ..);rw[zc rfl];simp only[zL,zah,wd,this];exact hv 0 v d rfl rfl
   .rw[za e];simp only[zL,zah,za (zav e)];rw[<-zL];exact h i hi)
  exact ih
theorem Ln{P:Program}{o:Oper}{x:Operand}{args:Array Operand}{ts:Array TypeId}{l:Nat}{r:Loop}(ho:o.op = .call { callee:=.value x,args,argTypes:=ts })(hx:a.eval x = .func (.yield l) #[] #[])(h:w.heap[l]? = some (.loop r))(hs:args.size=r.params.size) :
  (execOp a.eval o).run P w = .ok (.round l r.fn ((r.params.zip (args.map a.eval)).foldl (λtmps (t,a)=>tmps.setIfInBounds t a) r.tmps) r.assign r.body) w:=by
 obtain⟨dst,op,ty,pos,after,guard⟩:=o;simp only at ho;subst ho;simp only[execOp,resolve,hx,Deferred.ofValue,zt,or,zi,invoke];have:=run_yield (P:=P) (args:=args.map a.eval) h (Ω hs);simpa using this
end
section
variable{X:Ctx}{ops:Array Oper}{i:Nat}{os:List Oper}{K:Ctx->St->Prop}{env:Nat->PV}{σ:Nat->Option Row}{ty:TypeId}{pos:String}{after:Array Edge}{gd:Option (Nat × Bool)}{t:Tmp}
def Vw(X:Ctx)(ops:Array Oper)(i:Nat)(K:Ctx->St->Prop)(st:St):Prop:=
 hZ X.N ops=true->∀(n:Nat) (g:Gh) (a:Act) (w:World) (next:Act->World->Prop) (Qo:Exit->Act->World->Prop),D1 X g st a w ->
  (∀X' j s' e w',D1 X' j s' e w'->(X'.P=X.P/\X'.ρ=X.ρ)/\X'.N=X.N->K X' s'->next e w')->wpOpIn (FX X.ρ) n X.P ops Qo i next a w
theorem QG{o:Oper}{st:St}(h:Vw X ops i (λX' s=>Sq X' ops (i+1) os K s) st):Sq X ops i (o::os) K st:=λhd hi n g a w Qo hs G=>by
 have e:List.range' i (o::os).length=i::List.range' (i+1) os.length:=rfl;rw[e,wpOpsIn_cons];refine h hd n g a w _ Qo hs λX' A s' u w' q m k=>?_;have:=k (by rw[m.2];exact hd) (λj=>ΩW) n A u w' Qo q λX2 B s2 y w2 C p=>G X2 B s2 y w2 C ⟨p.1.trans m.1.1,p.2.trans m.1.2⟩;rw[m.1.1,m.1.2] at this;exact this
theorem M9{o:Oper}{st:St}(h:ops[i]? = some o->Vw X ops i (λX' s=>Sq X' ops (i+1) os K s) st):Sq X ops i (o::os) K st:=λhd hi=>by
 have ho:=hi 0;simp only[zae,zam] at ho;exact QG (h ho.symm) hd hi
theorem De{N0:Nat}{ps:Array Tmp}{assign body:Code}{l:Nat}{args:Array Operand}{ts:Array TypeId}{x:Operand}{ds:List PV}(ho:ops[i]? = some ⟨some t,.call { callee:=.value x,args,argTypes:=ts },ty,pos,after,gd⟩)(hR:Ran X N0 ps assign body l)(hw:D9 ops env ⟨some t,.call { callee:=.value x,args,argTypes:=ts },ty,pos,after,gd⟩=some true)
  (hf:B6 env x = .fn (.yield l) [])(ha:args.toList.map (B6 env)=ds)(hps:args.size=ps.size)(hpn:(ps.toList.all λp=>decide (p<N0))=true)(hcalm:X.calm=true)
  (h:∀e2 o2 o3,Z2 { P:=X.P,N:=N0,ρ:=some l,w0:=X.w0,imm0:=X.imm0,ext:=e2,obs:=o2,calm:=true,tab:=X.tab } assign
   (a0d { P:=X.P,N:=N0,ρ:=some l,w0:=X.w0,imm0:=X.imm0,ext:=e2,obs:=o2,calm:=true,tab:=X.tab } { P:=X.P,N:=N0,ρ:=some l,w0:=X.w0,imm0:=X.imm0,ext:=e2,obs:=o3,calm:=true,tab:=X.tab } body
    (a1H { P:=X.P,N:=N0,ρ:=some l,w0:=X.w0,imm0:=X.imm0,ext:=e2,obs:=o3,calm:=true,tab:=X.tab } (λs=>K X ⟨z7 (oR s.env) t (.bool true),s.σ⟩) (λc s=>K (X.done c) ⟨z7 (oR s.env) t (.bool false),s.σ⟩)))
   ⟨tx (Ki ps.toList ds (oR env)) env,σ⟩)(hN:N0<=1000000:=by exact zF rfl) :
  Vw X ops i K ⟨env,σ⟩:=by
 intro hd n g a w next Qo hs hq;unfold wpOpIn;rw[ho];simp only;rw[zc (W3 hs hw)];obtain⟨⟨tm,fid,D,e,C,hne,htz,hext⟩,hlo⟩:=hR;have hdef:a.defers = []:=hs.big.2 hcalm;have hL:=(hs.obs (l,.loop (qT fid tm ps assign body D)) (by rw[C];exact zm ..)).1;have hxv:=hs.eval x;rw[show B6 (St.env ⟨env,σ⟩) x = .fn (.yield l) [] from hf] at hxv;obtain⟨vs0,e0,hn0,_⟩:=jR hxv;have:vs0 = #[]:=by
  have:vs0.size=0:=Ω hn0
  exact Array.size_eq_zero_iff.1 this
 subst this;refine⟨λ_ _=>trivial,?_⟩;rw[Oper.semAt_eq _ _ _ (λc q=>Γ),Ln rfl e0 hL hps];refine⟨λq=>by simp[FX] at q,?_⟩;refine roundIn_of_wpIn (F:=FX X.ρ) trivial ?_;show assign.wpIn (FX (some l)) (n-1) X.P _ _ w;have hrd:∀(j:Nat) v d,(args.toList.map a.eval)[j]? = some v->ds[j]? = some d->Rd w g.imm g.μ (St.u3 ⟨env,σ⟩) v d:=by
  intro j v d hv hd';subst ha;rw[zW] at hv hd';cases hx:args.toList[j]? with
  | none=>rw[hx] at hv;cases hv
  | some y=>
   rw[hx] at hv hd';cases hv;cases hd';exact hs.eval y
 have hbase:∀j,j<1000000->Rd w g.imm g.μ (St.u3 ⟨env,σ⟩) (tm.getD j undef) (oR env j):=λj hj=>by
  have:=hs.env (j+1000000);rw[Ctx.val,za Δ,hext j hj] at this;exact this
 have hzip:(ps.zip (args.map a.eval)).foldl (λtmps (t,a)=>tmps.setIfInBounds t a) tm=(ps.toList.zip (args.toList.map a.eval)).foldl (λtmps (t,a)=>tmps.setIfInBounds t a) tm:=by
  rw[<-Array.foldl_toList,Array.toList_zip,Array.toList_map]
 have hsz:((ps.zip (args.map a.eval)).foldl (λtmps (t,a)=>tmps.setIfInBounds t a) tm).size=N0:=by rw[hzip,yo,htz]
 have s1:=hs.push (N:=N0) (some l) (tmps:=(ps.zip (args.map a.eval)).foldl (λtmps (t,a)=>tmps.setIfInBounds t a) tm) (top:=Ki ps.toList ds (oR env)) hN hsz (λj hj=>by
  rw[hzip];refine Ec ps.toList _ ds tm _ (by rw[<-ha];simp) hrd (λp hp=>?_) hbase j hj;rw[htz];have:=zf.1 hpn p hp;simpa using this)
 generalize hX2:X.over a N0 (some l)=X2 at s1;have B:X2={ P:=X.P,N:=N0,ρ:=some l,w0:=X.w0,imm0:=X.imm0,ext:=X2.ext,obs:=X2.obs,calm:=true,tab:=X.tab }:=by
  rw[<-hX2];simp only[Ctx.over]
 have hX2o:X2.obs=(l,.loop (qT fid tm ps assign body D))::e:=by
  rw[<-hX2];simp only[Ctx.over];rw[hdef,C];rfl
 have h1:=h X2.ext X2.obs ((l,.loop { qT fid tm ps assign body D with state:=.busy })::e);rw[<-B] at h1;have hX3e:({ P:=X.P,N:=N0,ρ:=some l,w0:=X.w0,imm0:=X.imm0,ext:=X2.ext,obs:=(l,.loop { qT fid tm ps assign body D with state:=.busy })::e,calm:=true,tab:=X.tab }:Ctx)={ X2 with obs:=(l,.loop { qT fid tm ps assign body D with state:=.busy })::e }:=by
  rw[B]
 rw[hX3e] at h1;generalize G:({ X2 with obs:=(l,.loop { qT fid tm ps assign body D with state:=.busy })::e }:Ctx)=X3 at h1;have hX3o:X3.obs=(l,.loop { qT fid tm ps assign body D with state:=.busy })::e:=by rw[<-G]
 have H:X2.ρ=some l:=by rw[B]
 have hX2P:X2.P=X.P:=by rw[B]
 have hX3ρ:X3.ρ=some l:=by rw[<-G,H]
 have hX3P:X3.P=X.P:=by rw[<-G,hX2P]
 have hX2w:X2.w0=X.w0:=by rw[B]
 have hX3w:X3.w0=X.w0:=by rw[<-G,hX2w]
 have w1:=h1 (n-1) g _ w s1;rw[H,hX2P] at w1;refine zbx w1 λex a1 w1 q=>?_;cases ex <;> simp only[lift,a0d,Exit.then] at q |- <;> first | (obtain⟨_,_,_,_,_,q⟩:=q;exact q.elim) | exact q.elim | skip
 obtain⟨X',g1,t1,hs1,_,rfl,hb⟩:=q;have hL1:=(hs1.obs _ (by rw[hX2o];exact zm ..)).1;refine⟨_,run_beginRound hL1 rfl,?_⟩;have hs2:=hs1.Yu (o':=.loop { qT fid tm ps assign body D with state:=.busy }) hL1 rfl rfl rfl (by rw[hX2w];exact hlo) (λq=>Γ) (obs:=(l,.loop { qT fid tm ps assign body D with state:=.busy })::e) (λp hp=>by
  rcases zV.1 hp with rfl | hp
  .exact .inl rfl
  .exact .inr ⟨hne p hp,by rw[hX2o];exact zx _ hp⟩)
 rw[G] at hs2;have w2:=hb (n-1) _ _ _ hs2;rw[hX3ρ,hX3P] at w2;refine zbx w2 λex a2 w3 q=>?_;have hLB:∀A o,D1 X3 A o a2 w3->w3.heap[l]? = some (.loop { qT fid tm ps assign body D with state:=.busy }):=λA o m=>(m.obs _ (by rw[hX3o];exact zm ..)).1;have back:∀(A:Gh) (o:St) (r:Loop),D1 X3 A o a2 w3->D1 { X with obs:=(l,.loop r)::e } A ⟨oR o.env,o.σ⟩ a (w3.putObj l (.loop r)):=by
  intro A o r m;have s4:=m.Yu (o':=.loop r) (hLB A o m) rfl rfl rfl (by rw[hX3w];exact hlo) (λq=>Γ) (obs:=(l,.loop r)::e) (λp hp=>by
   rcases zV.1 hp with rfl | hp
   .exact .inl rfl
   .exact .inr ⟨hne p hp,by rw[hX3o];exact zx _ hp⟩)
  have e4:({ X3 with obs:=(l,.loop r)::e }:Ctx)={ X.over a N0 (some l) with obs:=(l,.loop r)::e }:=by rw[<-G,<-hX2]
  rw[e4] at s4;exact hs.a4r s4 (λp hp=>by rw[hdef] at hp;simpa[lj] using hp)
 have kF:∀(c:Code) (A:Gh) (o:St),D1 X3 A o a2 w3->K (X.done c) ⟨z7 (oR o.env) t (.bool false),o.σ⟩->∃v w',(Instr.endRound l (some c)).run X.P w3 = .ok v w'/\next (a.put (some t) v) w':=by
  intro c A o m hk;refine⟨_,_,run_endRound (some c) (hLB A o m),?_⟩;have s5:=back A o { qT fid tm ps assign body D with state:=.done,pending:=some c } m;have e5:X.done c={ X with obs:=(l,.loop { qT fid tm ps assign body D with state:=.done,pending:=some c })::e }:=by
   unfold Ctx.done;rw[C];rfl
  rw[<-e5] at s5;have hdst:∀u,(some t:Option Tmp)=some u->u<(X.done c).N:=I7 hd ho;exact hq _ _ _ _ _ (s5.put hdst (.cl (.bool false))) ⟨⟨rfl,rfl⟩,rfl⟩ hk
 cases ex <;> simp only[lift,a1H,roundPost] at q |- <;> first
  | (obtain⟨X',A,o,m,_,rfl,hk⟩:=q;exact kF _ A o m hk)
  | (obtain⟨_,_,_,_,_,q⟩:=q;exact q.elim)
  | exact q.elim
  | skip
 obtain⟨X',A,o,m,_,rfl,hk⟩:=q;refine⟨_,_,run_endRound none (hLB A o m),?_⟩;have s5:=back A o (qT fid tm ps assign body D) m;have e5:({ X with obs:=(l,.loop (qT fid tm ps assign body D))::e }:Ctx)=X:=by rw[<-C]
 rw[e5] at s5;exact hq _ _ _ _ _ (s5.put (I7 hd ho) (.cl (.bool true))) ⟨⟨rfl,rfl⟩,rfl⟩ hk
theorem pJ{N0:Nat}{ps:Array Tmp}{assign body:Code}{l:Nat}{args:Array Operand}{ts:Array TypeId}{x:Operand}{ds:List PV}(y:Ran X N0 ps assign body l)(hw:D9 ops env ⟨some t,.call { callee:=.value x,args,argTypes:=ts },ty,pos,after,gd⟩=some true)
  (hf:B6 env x = .fn (.yield l) [])(ha:args.toList.map (B6 env)=ds)(m:args.size=ps.size)(j:(ps.toList.all λp=>decide (p<N0))=true)(hcalm:X.calm=true)
  (h:∀e o q,Z2 { P:=X.P,N:=N0,ρ:=some l,w0:=X.w0,imm0:=X.imm0,ext:=e,obs:=o,calm:=true,tab:=X.tab } assign
   (a0d { P:=X.P,N:=N0,ρ:=some l,w0:=X.w0,imm0:=X.imm0,ext:=e,obs:=o,calm:=true,tab:=X.tab } { P:=X.P,N:=N0,ρ:=some l,w0:=X.w0,imm0:=X.imm0,ext:=e,obs:=q,calm:=true,tab:=X.tab } body
    (a1H { P:=X.P,N:=N0,ρ:=some l,w0:=X.w0,imm0:=X.imm0,ext:=e,obs:=q,calm:=true,tab:=X.tab } (λs=>Sq X ops (i+1) os K ⟨z7 (oR s.env) t (.bool true),s.σ⟩) (λc s=>Sq (X.done c) ops (i+1) os K ⟨z7 (oR s.env) t (.bool false),s.σ⟩)))
   ⟨tx (Ki ps.toList ds (oR env)) env,σ⟩)(u:N0<=1000000:=by exact zF rfl) :
  Sq X ops i (⟨some t,.call { callee:=.value x,args,argTypes:=ts },ty,pos,after,gd⟩::os) K ⟨env,σ⟩:=M9 λho=>De ho y hw hf ha m j hcalm h u
theorem a2b{args:Array Operand}{ts:Array TypeId}{x:Operand}{gf:FuncId}{cap ds:List PV}{fn:Func}{c:Code}{N1:Nat}(ho:ops[i]? = some ⟨some t,.call { callee:=.value x,args,argTypes:=ts },ty,pos,after,gd⟩)(hw:D9 ops env ⟨some t,.call { callee:=.value x,args,argTypes:=ts },ty,pos,after,gd⟩=some true)
  (hf:B6 env x = .fn (.func gf) cap)(hk:X.P.funcs[gf]? = some fn)(hb:fn.body=some c)(hname':B0 X.P gf)(hN:fn.ntmps=N1)(ha:args.toList.map (B6 env)++cap=ds)(hn:ds.length<=N1)
  (h:∀e1 o1,Z2 { P:=X.P,N:=N1,ρ:=none,w0:=X.w0,imm0:=X.imm0,ext:=e1,obs:=o1,calm:=true,tab:=X.tab } c
   (a0R X.P { P:=X.P,N:=N1,ρ:=none,w0:=X.w0,imm0:=X.imm0,ext:=e1,obs:=o1,calm:=true,tab:=X.tab } fn (λd s=>K X ⟨z7 (oR s.env) t d,s.σ⟩)) ⟨tx (M3 ds) env,σ⟩)(h6:N1<=1000000:=by exact zF rfl) :
  Vw X ops i K ⟨env,σ⟩:=by
 intro hd n g a w next Qo hs hq;obtain⟨fn2,c2,hf2,_,hname⟩:=hname';rw[hk] at hf2;cases hf2;unfold wpOpIn;rw[ho];simp only;rw[zc (W3 hs hw)];have hv:=hs.eval x;rw[show B6 (St.env ⟨env,σ⟩) x = .fn (.func gf) cap from hf] at hv;obtain⟨vs,e0,hnv,hcap⟩:=jR hv;have hexec:=jx (P:=X.P) (w:=w) (o:=⟨some t,.call { callee:=.value x,args,argTypes:=ts },ty,pos,after,gd⟩) rfl e0 ⟨fn,c,hk,hb,hname⟩;refine⟨λ_ _=>trivial,?_⟩;rw[Oper.semAt_eq _ _ _ (λc q=>Γ),hexec];refine⟨λq=>by simp[FX] at q,?_⟩;obtain⟨av,G⟩:∃av:Array Value,av=args.map a.eval++vs:=⟨_,rfl⟩;rw[<-G];have hz:av.size=ds.length:=by rw[G,<-ha];simp[hnv]
 have hrd:∀(j:Nat) v d,av[j]? = some v->ds[j]? = some d->Rd w g.imm g.μ (St.u3 ⟨env,σ⟩) v d:=by
  intro j v d hv m;subst G;subst ha;rcases zE j args.size with q | q
  .rw[ms (Ω q),Array.getElem?_map] at hv;rw[zU (Ω q),zW] at m;cases hx:args[j]? with
   | none=>rw[hx] at hv;cases hv
   | some y=>
    have hx':args.toList[j]? = some y:=Ω hx
    rw[hx] at hv;rw[hx'] at m;cases hv;cases m;exact hs.eval y
  .rw[zai (Ω q)] at hv;rw[zK (Ω q)] at m;exact hcap _ v d hv (Ω (m))
 have s1:=hs.push (N:=N1) none (tmps:=av++Array.replicate (fn.ntmps-av.size) undef) (top:=M3 ds) h6 (by
   simp only[zb1,Array.size_replicate];omega) (λi _=>Ov hz hrd _ i)
 generalize hY:X.over a N1 none=Y at s1;have p:Y={ P:=X.P,N:=N1,ρ:=none,w0:=X.w0,imm0:=X.imm0,ext:=Y.ext,obs:=Y.obs,calm:=true,tab:=X.tab }:=by
  rw[<-hY];simp only[Ctx.over]
 have h1:=h Y.ext Y.obs;rw[<-p] at h1;have hYρ:Y.ρ=none:=by rw[p]
 have C:Y.P=X.P:=by rw[p]
 have hYc:Y.calm=true:=by rw[p]
 have w1:=h1 (n-1) g _ w s1;rw[hYρ,C] at w1;have hc:CallsIn (FX none) (n-1) X.P gf av w λe w''=>∃v,e = .returned v/\next (a.put (some t) v) w'':=by
  refine callsIn_of_wp_marks hk hb trivial ?_ rfl;refine zbx w1 λex a1 w1 q=>?_;have key:∀X' H B,D1 X' H B a1 w1->(X'=Y/\∃rs,Dp X.P B fn.results.toList rs/\K X ⟨z7 (oR B.env) t (iY rs),B.σ⟩)->LeavesInM (FX none) (n-1) X.P fn a1.tmps (λe w''=>∃v,e = .returned v/\next (a.put (some t) v) w'') a1.defers .returning w1:=by
   rintro X' H B u ⟨rfl,rs,hr,hk'⟩;rw[u.big.2 hYc];rw[<-C] at hr;obtain⟨v,A,hvr⟩:=OA u hr;rw[C] at A;refine⟨v,A,v,rfl,?_⟩;rw[<-hY] at u;have s2:=hs.pop u;exact hq _ _ _ _ _ (s2.put (I7 hd ho) hvr) ⟨⟨rfl,rfl⟩,rfl⟩ hk'
  cases ex <;> simp only[lift,a0R,bodyPostM] at q |- <;> first
   | (obtain⟨X',H,B,h1,_,h2⟩:=q;exact key X' H B h1 h2)
   | (obtain⟨X',H,B,h1,_,h2⟩:=q;exact h2.elim)
   | exact q.elim
 have hc2:CallsIn (FX X.ρ) (n-1) X.P gf av w λe w''=>∃v,e = .returned v/\next (a.put (some t) v) w'':=hc;refine hc2.mono λe w'' hr=>?_;obtain⟨v,rfl,hk⟩:=hr;exact hk
theorem EW{args:Array Operand}{ts:Array TypeId}{x:Operand}{gf:FuncId}{cap ds:List PV}{fn:Func}{c:Code}{N1:Nat}(hw:D9 ops env ⟨some t,.call { callee:=.value x,args,argTypes:=ts },ty,pos,after,gd⟩=some true)
  (hf:B6 env x = .fn (.func gf) cap)(hk:X.P.funcs[gf]? = some fn)(hb:fn.body=some c)(hname':B0 X.P gf)(o:fn.ntmps=N1)(ha:args.toList.map (B6 env)++cap=ds)(hn:ds.length<=N1)
  (h:∀e j,Z2 { P:=X.P,N:=N1,ρ:=none,w0:=X.w0,imm0:=X.imm0,ext:=e,obs:=j,calm:=true,tab:=X.tab } c
   (a0R X.P { P:=X.P,N:=N1,ρ:=none,w0:=X.w0,imm0:=X.imm0,ext:=e,obs:=j,calm:=true,tab:=X.tab } fn (λd s=>Sq X ops (i+1) os K ⟨z7 (oR s.env) t d,s.σ⟩)) ⟨tx (M3 ds) env,σ⟩)(m:N1<=1000000:=by exact zF rfl) :
  Sq X ops i (⟨some t,.call { callee:=.value x,args,argTypes:=ts },ty,pos,after,gd⟩::os) K ⟨env,σ⟩:=M9 λho=>a2b ho hw hf hk hb hname' o ha hn h m
end
section
variable{X:Ctx}{Q:PX->Ctx->St->Prop}{st:St}
theorem a1s{J R:Type}{x:Code}{κ:J->Option R}{r:R}(F:J->St)(hk:∀j,κ j=some r->Q .normal X (F j))(hx:Z2 X x (lC (λX' s=>X'=X/\∃j,κ j=some r/\Wk s (F j)) Q) st):Z2 X x Q st:=λn g a w hs=>zbx (hx n g a w hs) λe m w' q=>by
 cases e <;> simp only[lift,lC] at q |- <;> first | exact q | skip
 obtain⟨X',o,st',u,y,rfl,j,h,A⟩:=q;obtain⟨p,B⟩:=A X' o m w' u;exact⟨X',p,_,B,y,hk j h⟩
def a0t(K:Ctx->St->Prop):PX->Ctx->St->Prop
 | .normal,X,s | .ret,X,s=>K X s
 | _,_,_=>False
theorem a1t{J R:Type}{x:Code}{κ:J->Option R}{r:R}(F:J->St)(hk:∀j,κ j=some r->Q .normal X (F j)/\Q .ret X (F j))(hx:Z2 X x (a0t (λX' s=>X'=X/\∃j,κ j=some r/\Wk s (F j))) st):Z2 X x Q st:=λn g a w hs=>zbx (hx n g a w hs) λe A w' q=>by
 cases e <;> simp only[lift,a0t] at q |- <;> first | (obtain⟨X',p,st',y,o,m⟩:=q;exact m.elim) | exact q | skip
 all_goals
  obtain⟨X',p,st',y,o,rfl,j,m,B⟩:=q;obtain⟨u,h⟩:=B X' p A w' y;first | exact⟨X',u,_,h,o,(hk j m).1⟩ | exact⟨X',u,_,h,o,(hk j m).2⟩
theorem dup{p q:Prop}(h:p)(e:p=q:=by rfl):p/\q:=⟨h,e▸h⟩
end
end Go.Pw
namespace Go.Pw
open Go.RowKit Go.Sh
theorem DY{x y y' z:PV}{j k:Nat}(hx:x.el=true)(hj:x.cells[j]? = some y)(hs:y'.sc=true)(h:(K7 x j [y']).cells[k]? = some z):(k=j/\z=y')\/(k≠j/\x.cells[k]? = some z):=by
 have m:=PV.F1 hj;have hc:=(pw (x:=x) (f:=j) (cs:=[y']) hx Ξ (by simp[hs])).1;rw[hc] at h;have hk:(x.cells.take j).length=j:=by simp;omega
 by_cases e:k=j
 .subst e;left;refine⟨rfl,?_⟩;rw[pu,zK Δ] at h;simp[hk] at h;exact h.symm
 .right;refine⟨e,?_⟩;rcases zE k j with q | q
  .rw[pu,zU Δ,zaq q] at h;exact h
  .rw[zK Ξ] at h;simp only[zD,hk,zl,zT,pm] at h;rwa [show j+(0+1)+(k-(j+(0+1)))=k by omega] at h
section
variable{X:Ctx}{st:St}{a:Act}{w:World}{g:Gh}
theorem D1.Uj(h:D1 X g st a w){l0 j:Nat}{m:Row}{x y y':PV}{cl':Bool}(hl:st.σ l0=some m)(he:m.els = [x])(hj:x.cells[j]? = some y)(hs:y'.sc=true)(hr:∀b s v,(g.μ l0).A=some ⟨b,s,none⟩->w.cell? ⟨b,s+0*(g.μ l0).z+j,none⟩=some v->Rd w g.imm g.μ st.u3 v y->Rd w g.imm g.μ st.u3 v y')
  (hcl:cl'=true->m.cl=true/\∀v,Rd0 w g.imm v y->Rd0 w g.imm v y'):D1 X g ⟨st.env,z7 st.σ l0 (some ⟨[K7 x j [y']],m.lo,m.opn,m.z,cl'⟩)⟩ a w:=by
 have hp:∀l,st.u3 l->St.u3 ⟨st.env,z7 st.σ l0 (some ⟨[K7 x j [y']],m.lo,m.opn,m.z,cl'⟩)⟩ l/\g.μ l=g.μ l:=by
  rintro l ⟨r,hr⟩;refine⟨?_,rfl⟩;by_cases e:l=l0
  .subst e;exact⟨_,s7 _ _ _⟩
  .exact⟨r,by rw[<-hr];exact r8 _ _ e⟩
 have nomap:MB<=l0->False:=λq=>by
  obtain⟨b',es,H,_⟩:=h.maps.at_ l0 m q hl;rw[he] at H;cases H;cases hj
 have B:=h.rows l0 m hl;have p:=B.el x (by rw[he];exact zm ..);have hlt:=PV.F1 hj;have G:=pw (x:=x) (f:=j) (cs:=[y']) p.1 Ξ (by simp[hs]);have hlen:(K7 x j [y']).cells.length=x.cells.length:=by rw[G.1];simp;omega
 have hown:∀b o,L2 (g.μ l0) ⟨[K7 x j [y']],m.lo,m.opn,m.z,cl'⟩ b o->L2 (g.μ l0) m b o:=λb o q=>q;have hcase:∀l r,z7 st.σ l0 (some ⟨[K7 x j [y']],m.lo,m.opn,m.z,cl'⟩) l=some r->∃N,st.σ l=some N/\(∀b o,L2 (g.μ l) r b o->L2 (g.μ l) N b o):=by
  intro l r q;by_cases e:l=l0
  .subst e;rw[s7] at q;cases q;exact⟨m,hl,hown⟩
  .rw[r8 _ _ e] at q;exact⟨r,q,λ_ _ q=>q⟩
 refine⟨h.size,λi=>(h.env i).mono (Ext.refl _ _) hp,λl r q=>?_,λl l' r r' hne q q' b o ho k=>?_,λl r b o q ho=>?_,h.immlt,h.immsub,h.immsup,h.below,h.marks,h.obs,h.big,h.maps.z7 hl (λq=>(nomap q).elim) λq=>(nomap q).elim⟩
 .by_cases e:l=l0
  .subst e;rw[show (St.mk st.env (z7 st.σ l (some ⟨[K7 x j [y']],m.lo,m.opn,m.z,cl'⟩))).σ l=_ from s7 _ _ _] at q;cases q;refine⟨by rw[B.n,he];rfl,B.z,B.C,B.lo,λz hz=>?_,B.nil,B.spot,λi z k c hz hc=>?_,λb o ho=>B.own b o ho⟩
   .simp only[zR] at hz;subst hz;exact⟨G.2,by rw[hlen];exact p.2⟩
   .cases i with
    | succ i=>simp at hz
    | zero=>
     simp only[zae,sm] at hz;subst hz;rcases DY p.1 hj hs hc with ⟨rfl,rfl⟩ | ⟨_,hc'⟩
     .obtain⟨b,s,u,k1,k2,k3,k4,k5⟩:=B.cell 0 x k y (by rw[he];rfl) hj;exact⟨b,s,u,k1,k2,(hr b s u k1 k2 k3).mono (Ext.refl _ _) hp,k4,λq=>(hcl q).2 u (k5 (hcl q).1)⟩
     .obtain⟨b,s,u,k1,k2,k3,k4,k5⟩:=B.cell 0 x k c (by rw[he];rfl) hc';exact⟨b,s,u,k1,k2,k3.mono (Ext.refl _ _) hp,k4,λq=>k5 (hcl q).1⟩
  .rw[show (St.mk st.env (z7 st.σ l0 (some ⟨[K7 x j [y']],m.lo,m.opn,m.z,cl'⟩))).σ l=st.σ l from r8 _ _ e] at q;exact (h.rows l r q).mono (Ext.refl _ _) hp λ_ _ _=>⟨rfl,rfl⟩
 .obtain⟨N,H,k1⟩:=hcase l r q;obtain⟨r2,h2,k2⟩:=hcase l' r' q';exact h.disj l l' N r2 hne H h2 b o (k1 b o ho) (k2 b o k)
 .obtain⟨N,H,k1⟩:=hcase l r q;exact h.ownimm l N b o H (k1 b o ho)
end
theorem wJ{s:St}{l0 j l z:Nat}{x x':PV}{lo zz:Nat}{opn cl:Bool}(hl0:s.σ l0=some ⟨[x],lo,opn,zz,cl⟩)(hj:x.cells[j]? = some (.H4 true []))(hl:s.σ l=none)(hx:K7 x j [.sl l]=x')(hne:(l==l0)=false)(hlm:l<MB:=by exact zF rfl) :
  Wk s ⟨s.env,z7 (z7 s.σ l (some ⟨[],0,true,z,true⟩)) l0 (some ⟨[x'],lo,opn,zz,false⟩)⟩:=λX g a w h=>by
 subst hx;have B:l≠l0:=Ω hne
 have nomap:MB<=l0->False:=λq=>by
  obtain⟨b',es,h1,_⟩:=h.maps.at_ l0 _ q hl0;cases h1;cases hj
 have hxr:=(h.rows l0 _ hl0).cell 0 x j _ rfl hj;obtain⟨b0,s0,u,hA0,hu,hv,_,_⟩:=hxr;obtain⟨A,c,z',u',e,h1,h2,h3,_⟩:=hv.ji;have hc:=h2 rfl;simp only[zT] at hc e;subst hc;have hs:=h.AV (l:=l) (A:=A) (xs:=[]) (z:=z) hlm hl (λ_=>rfl) (λ_ q=>Γ) (λq=>absurd q (zb7 _)) true;have y:(St.mk s.env (z7 s.σ l (some ⟨[],0,true,z,true⟩))).σ l0=some ⟨[x],lo,opn,zz,cl⟩:=by rw[<-hl0];exact r8 _ _ (zav B)
 have p:D1 X ⟨g.imm,z7 g.μ l ⟨A,0,0,z⟩⟩ ⟨s.env,z7 s.σ l (some ⟨[],0,true,z,true⟩)⟩ a w:=hs;have H:=p.rows l0 _ y;have hμ:z7 g.μ l ⟨A,0,0,z⟩ l0=g.μ l0:=r8 _ _ (zav B);have hp:∀l',St.u3 ⟨s.env,z7 s.σ l (some ⟨[],0,true,z,true⟩)⟩ l'->St.u3 ⟨s.env,z7 (z7 s.σ l (some ⟨[],0,true,z,true⟩)) l0 (some ⟨[K7 x j [.sl l]],lo,opn,zz,false⟩)⟩ l'/\z7 g.μ l ⟨A,0,0,z⟩ l'=z7 g.μ l ⟨A,0,0,z⟩ l':=by
  rintro l' ⟨r,hr⟩;refine⟨?_,rfl⟩;by_cases e:l'=l0
  .subst e;exact⟨_,s7 _ _ _⟩
  .exact⟨r,by rw[<-hr];exact r8 _ _ e⟩
 have G:=H.el x (zm ..);have hlt:=PV.F1 hj;have N:=pw (x:=x) (f:=j) (cs:=[.sl l]) G.1 Ξ rfl;have hlen:(K7 x j [.sl l]).cells.length=x.cells.length:=by rw[N.1];simp;omega
 have hcase:∀l' r,z7 (z7 s.σ l (some ⟨[],0,true,z,true⟩)) l0 (some ⟨[K7 x j [.sl l]],lo,opn,zz,false⟩) l'=some r->∃r1,z7 s.σ l (some ⟨[],0,true,z,true⟩) l'=some r1/\(∀b o,L2 (z7 g.μ l ⟨A,0,0,z⟩ l') r b o->L2 (z7 g.μ l ⟨A,0,0,z⟩ l') r1 b o):=by
  intro l' r q;by_cases e:l'=l0
  .subst e;rw[s7] at q;cases q;exact⟨_,y,λ_ _ q=>q⟩
  .rw[r8 _ _ e] at q;exact⟨r,q,λ_ _ q=>q⟩
 refine⟨⟨g.imm,z7 g.μ l ⟨A,0,0,z⟩⟩,⟨p.size,λi=>(p.env i).mono (Ext.refl _ _) hp,λl' r q=>?_,λl1 l2 r r' hne q q' b o ho k=>?_,λl' r b o q ho=>?_,p.immlt,p.immsub,p.immsup,p.below,p.marks,p.obs,p.big,p.maps.z7 y (λq=>(nomap q).elim) λq=>(nomap q).elim⟩⟩
 .by_cases e:l'=l0
  .subst e;rw[show (St.mk s.env (z7 (z7 s.σ l (some ⟨[],0,true,z,true⟩)) l' (some ⟨[K7 x j [.sl l]],lo,opn,zz,false⟩))).σ l'=_ from s7 _ _ _] at q;cases q;refine⟨H.n,H.z,H.C,H.lo,λz hz=>?_,H.nil,H.spot,λi z k c hz hc=>?_,λb o ho=>H.own b o ho⟩
   .simp only[zR] at hz;subst hz;exact⟨N.2,by rw[hlen];exact G.2⟩
   .cases i with
    | succ i=>simp at hz
    | zero=>
     simp only[zae,sm] at hz;subst hz;rcases DY G.1 hj rfl hc with ⟨rfl,rfl⟩ | ⟨_,hc'⟩
     .obtain⟨b,s1,u1,k1,k2,k3,k4,k5⟩:=H.cell 0 x k _ rfl hj;refine⟨b,s1,u1,k1,k2,?_,k4,λq=>Γ⟩;simp only[hμ] at k1 k2;rw[hA0] at k1;cases k1;rw[hu] at k2;cases k2;rw[e];exact fL (m:=⟨A,0,0,z⟩) ⟨⟨[],0,true,z,true⟩,(r8 _ _ B).trans (s7 _ _ _)⟩ (s7 _ _ _)
     .obtain⟨b,s,u,k1,k2,k3,k4,k5⟩:=H.cell 0 x k c rfl hc';exact⟨b,s,u,k1,k2,k3.mono (Ext.refl _ _) hp,k4,λq=>Γ⟩
  .rw[show (St.mk s.env (z7 (z7 s.σ l (some ⟨[],0,true,z,true⟩)) l0 (some ⟨[K7 x j [.sl l]],lo,opn,zz,false⟩))).σ l'=z7 s.σ l (some ⟨[],0,true,z,true⟩) l' from r8 _ _ e] at q;exact (p.rows l' r q).mono (Ext.refl _ _) hp λ_ _ _=>⟨rfl,rfl⟩
 .obtain⟨r1,h1,k1⟩:=hcase l1 r q;obtain⟨r2,h2,k2⟩:=hcase l2 r' q';exact p.disj l1 l2 r1 r2 hne h1 h2 b o (k1 b o ho) (k2 b o k)
 .obtain⟨r1,h1,k1⟩:=hcase l' r q;exact p.ownimm l' r1 b o h1 (k1 b o ho)
theorem fR{s:St}(l0 j:Nat){x x' y:PV}{lo zz:Nat}{opn cl:Bool}(e:s.σ l0=some ⟨[x],lo,opn,zz,cl⟩)(hj:x.cells[j]? = some y)(hs:y.w1.sc=true)(hx:K7 x j [y.w1]=x'):Wk s ⟨s.env,z7 s.σ l0 (some ⟨[x'],lo,opn,zz,cl⟩)⟩:=λX g a w h=>by
 subst hx;exact⟨g,h.Uj e rfl hj hs (λ_ _ v _ _ q=>q.w1) (λq=>⟨q,λv q=>q.w1⟩)⟩
end Go.Pw
namespace Go.Pw
open Go.RowKit Go.Sh
def yh(M:Array Nat)(n m:Nat):Bool:=(List.range n).all λx=>decide (x<m)||(List.range m).all λj=>(M.getD x 0).testBit j
theorem Bo{M:Array Nat}{n m:Nat}(h:yh M n m=true){x j:Nat}(hx:x<n)(hm:m<=x)(hj:j<m):(M.getD x 0).testBit j=true:=by
 have:=zf.1 h x (Ω hx);rw[pi] at this;rcases this with q | q
 .have:x<m:=by simpa using q
  omega
 .exact zf.1 q j (Ω hj)
section
variable{X:Ctx}{ops:Array Oper}{n:Nat}{ρ:Option Nat}{Q:Exit->Act->World->Prop}
def Down(ops:Array Oper)(listed:Array Bool):Prop:=∀i o,listed.getD i false=true->ops[i]? = some o->∀e∈o.after,Region.binds .any e=true->listed.getD e.on false=true
theorem yD{bar:List Nat}{M:Array Nat}(hr:tC ops bar M=true){listed:Array Bool}(B:listed.size=ops.size){i:Nat}{c:List Nat}(h:fV ops.size listed=i::c):i∈Region.ready .any ops listed:=by
 have o:i∈fV ops.size listed:=by rw[h];simp
 obtain⟨j,u⟩:=zy.1 o;have hi:i<ops.size:=Ω j
 refine zy.2 ⟨j,?_⟩;rw[u,zag,zu hi];simp only[ww,wp];rw[zbg];intro e he;cases hb:Region.binds .any e with
 | false=>rfl
 | true=>
 have A:=(cc hr (zu hi)).2.1 e he hb;show (!true||_)=true;rw[pi];right;cases y:listed.getD e.on false with
 | true=>rfl
 | false=>
  exfalso;have p:e.on∈fV ops.size listed:=zy.2 ⟨Ξ,by
   have:listed.getD e.on true=false:=by
    have m:e.on<listed.size:=Δ
    simp[zL,m] at y |-;exact y
   rw[this];rfl⟩
  have hs:=iC ops.size listed;rw[h] at hs p;rw[q9] at hs;rcases zV.1 p with q | q
  .omega
  .have:=hs.1 _ q;omega
theorem ui{listed:Array Bool}{i:Nat}(hi:i∈Region.ready .any ops listed):i<ops.size/\i∈fV ops.size listed/\∀o,ops[i]? = some o->∀e∈o.after,Region.binds .any e=true->listed.getD e.on false=true:=by
 obtain⟨k1,k2⟩:=zy.1 hi;rw[zo] at k2;have j:i<ops.size:=Ω k1
 refine⟨j,zy.2 ⟨k1,k2.1⟩,λo ho e he hb=>?_⟩;have:=k2.2;rw[ho] at this;simp only[ww,wp] at this;rw[zbg] at this;have:=this e he;rw[hb] at this;simpa using this
theorem yK{bar:List Nat}{M:Array Nat}(hr:tC ops bar M=true){listed:Array Bool}(hdown:Down ops listed){i:Nat}{o:Oper}(ho:ops[i]? = some o)(p:∀e∈o.after,Region.binds .any e=true->listed.getD e.on false=true) :
  ∀j,(M.getD i 0).testBit j=true->listed.getD j false=true:=by
 have key:∀(m k:Nat) (o:Oper),k<m->ops[k]? = some o->(∀e∈o.after,Region.binds .any e=true->listed.getD e.on false=true)->∀j,(M.getD k 0).testBit j=true->listed.getD j false=true:=by
  intro m;induction m with
  | zero=>intro k o hk;omega
  | succ m ihm=>
   intro k o hk ho p j hj;obtain⟨e,y,h,u⟩:=(cc hr ho).1 j hj;have hl:=p e y h;rcases u with rfl | u
   .exact hl
   .have H:=(cc hr ho).2.1 e y h;have A:k<ops.size:=by
     rcases zE k ops.size with q | q
     .exact q
     .rw[zbs q] at ho;cases ho
    exact ihm e.on _ Δ (zu (show e.on<ops.size by omega)) (λB C G=>hdown e.on _ hl (zu (show e.on<ops.size by omega)) B C G) j u
 exact key (i+1) i o Δ ho p
theorem ua{listed:Array Bool}{j:Nat}(h:j∈fV ops.size listed):listed.getD j false=false:=by
 obtain⟨o,m⟩:=zy.1 h;have q2':listed.getD j true=false:=Ω m
 rw[zL] at q2' |-;cases e:listed[j]? with
 | none=>rfl
 | some b=>rw[e] at q2';exact q2'
theorem Down.set{listed:Array Bool}(hd:Down ops listed){i:Nat}(m:∀o,ops[i]? = some o->∀e∈o.after,Region.binds .any e=true->listed.getD e.on false=true):Down ops (listed.setIfInBounds i true):=by
 intro k o hk ho e he hb;by_cases q:k=i
 .subst q;exact getD_set_true (m o ho e he hb)
 .rw[getD_set_ne (listed:=listed) (i:=i) (j:=k) false (zav q)] at hk;exact getD_set_true (hd k o hk ho e he hb)
theorem DV{bar:List Nat}{M:Array Nat}{m:Nat}{stM:St}(hd:hZ X.N ops=true)(hr:tC ops bar M=true)(hc:yh M ops.size m=true){N:Nat}
  {tail:List Nat}(ht:∀x∈tail,m<=x)
  (hK:∀listed g' a' w',listed.size=ops.size->fV ops.size listed=tail->Down ops listed->D1 X g' stM a' w'->wpAnyIn (FX ρ) n X.P .any ops Q N listed a' w') :
  ∀(k:Nat) (c:List Nat) (listed:Array Bool) (g:Gh) (st:St) (a:Act) (w:World),c.length=k->D1 X g st a w->listed.size=ops.size->fV ops.size listed=c++tail->(∀j∈c,j<m)->Down ops listed->Ih X.P ops bar true c st stM ->
   wpAnyIn (FX ρ) n X.P .any ops Q (k+N) listed a w:=by
 intro k;induction k with
 | zero=>
  intro c listed g st a w hk h y e A hdown p;have:c = []:=zN hk;subst this;have:st=stM:=p;subst this;rw[m7];exact hK listed g a w y (Ω e) hdown h
 | succ k ih=>
  intro c listed g st a w hk h y e A hdown p;rw[Nat.succ_add];refine⟨λhnil=>?_,λi hi=>?_⟩
  .exfalso;cases c with
   | nil=>simp at hk
   | cons j c=>
    have:=yD hr y e;rw[hnil] at this;cases this
  .obtain⟨B,hirem,hafter⟩:=ui hi;have o:=zu B;have hwait:=yK hr hdown o (hafter _ o);have hic:i∈c:=by
    rw[e] at hirem;rcases zC.1 hirem with q | q
    .exact q
    .exfalso;obtain⟨j,hj⟩:∃j,j∈c:=by
      cases c with
      | nil=>simp at hk
      | cons j c=>exact⟨j,zm ..⟩
     have h1:=hwait j (Bo hc B (ht i q) (A j hj));rw[ua (ops:=ops) (listed:=listed) (j:=j) (by rw[e];exact zac _ hj)] at h1;cases h1
   obtain⟨c1,c2,u⟩:=List.append_of_mem hic;have hs:=iC ops.size listed;rw[e,u] at hs;rw[u] at p;have H:(c1++i::(c2++tail)).Pairwise (· < ·):=Ω hs
   rw[zbb] at H;have G:∀j∈c1,∀oj,ops[j]? = some oj->oj.apart ops ops[i]=true/\allowed (cls bar j oj.op) (cls bar i ops[i].op)=true:=by
    intro j hj oj hoj;have hji:=H.2.2 j hj i (zm ..);rcases (cc hr o).2.2 j oj hji hoj with q | q
    .have:=hwait j q;rw[ua (ops:=ops) (listed:=listed) (j:=j) (by rw[e,u];simp[hj])] at this;cases this
    .exact q
   obtain⟨σF,st',hst,hrest⟩:=CG o c1 c2 st stM G p;refine xW o h hst (I7 hd o) λg' a' w' h'=>?_;have C:=Cz (c1:=c1) (c2:=c2++tail) y B (by rw[e,u];simp);refine ih (c1++c2) _ g' st' a' w' ?_ h' (Ω y) (by rw[C];simp) (λj hj=>A j (by rw[u];rcases zC.1 hj with q | q <;> simp[q])) (hdown.set hafter) hrest;rw[u] at hk;simp at hk |-;omega
theorem Wz{bar:List Nat}{M:Array Nat}{m:Nat}(hr:tC ops bar M=true)(hc:yh M ops.size (m+1)=true){tail:List Nat}(ht:∀x∈tail,m+1<=x){N:Nat}{listed:Array Bool}{a:Act}{w:World}(u:listed.size=ops.size)
  (e:fV ops.size listed=m::tail)(hdown:Down ops listed)
  (h:∀listed',listed'.size=ops.size->fV ops.size listed'=tail->Down ops listed'->wpOpIn (FX ρ) n X.P ops Q m (wpAnyIn (FX ρ) n X.P .any ops Q N listed') a w):wpAnyIn (FX ρ) n X.P .any ops Q (N+1) listed a w:=by
 refine⟨λhnil=>?_,λi hi=>?_⟩
 .have:=yD hr u e;rw[hnil] at this;cases this
 .obtain⟨p,hirem,hafter⟩:=ui hi;have o:=zu p;have hwait:=yK hr hdown o (hafter _ o);rw[e] at hirem;rcases zV.1 hirem with rfl | q
  .exact h _ (Ω u) (Ω (Cz (c1:=[]) u p (by simpa using e))) (hdown.set hafter)
  .exfalso;have y:=hwait m (Bo hc p (ht i q) (Nat.lt_succ_self m));rw[ua (ops:=ops) (listed:=listed) (j:=m) (by rw[e];exact zm ..)] at y;cases y
end
theorem qZ{P:Program}{bar:List Nat}{dr:Bool}{K:St->Prop}{ops:Array Oper}:∀(os:List Oper) (i:Nat) (st:St),(∀j,j<os.length->os[j]? = ops[i+j]?)->Ex P ops bar dr i os st K->∃s,Ih P ops bar dr (List.range' i os.length) st s/\K s
 | [],_,st,_,h=>⟨st,rfl,h⟩
 | o::os,i,st,hi,h=>by
  obtain⟨s,e,m⟩:=h;obtain⟨s',k1,k2⟩:=qZ os (i+1) s (λj hj=>by
   have:=hi (j+1) (Ω hj);rwa [zaf,show i+(j+1)=i+1+j by omega] at this) m
  have h0:=hi 0 Ψ;exact⟨s',⟨o,s,Ω h0.symm,e,k1⟩,k2⟩
section
variable{X:Ctx}{Q:PX->Ctx->St->Prop}{st:St}
theorem TR{ops:Array Oper}{i:Nat}{K:Ctx->St->Prop}{st':St}(h:Wk st st')(k:Vw X ops i K st'):Vw X ops i K st:=λhd n g a w next Qo hs m=>by
 obtain⟨j,e⟩:=h X g a w hs;exact k hd n j a w next Qo e m
theorem a4k{id:Nat}{s:St}(h:Q (.exit id) X s):IQ Q (.exit id) X s:=h
theorem Xg{s:St}(h:Q .ret X s):IQ Q .ret X s:=h
theorem WJ{M:Array Nat}{n:Nat}:yh M n n=true:=zf.2 λx hx=>by
 have:x<n:=Ω hx
 simp[this]
theorem drY{id:Nat}{l:List Oper}{y:Code}(bar:List Nat)(m:Nat)(hm:X.P.follows .mixedOrders=true)(hd:hZ X.N l.toArray=true)(hr:tC l.toArray bar (Region.before l.toArray)=true)
  (hc:yh (Region.before l.toArray) l.length m=true)(hc1:yh (Region.before l.toArray) l.length (m+1)=true)(hlt:m<l.length)
  (h:Ex X.P l.toArray bar true 0 (l.take m) st (λs=>Vw X l.toArray m (λX' s'=>∃s2,Wk s' s2/\Ex X'.P l.toArray bar true (m+1) (l.drop (m+1)) s2 (λs''=>Z2 X' y Q s'')) s)):Z2 X (.seq (.region id l.toArray true) y) Q st:=by
 intro n g a w hs;refine wpIn_seq (wpIn_region_any hm ?_);have hsize:l.toArray.size=l.length:=Ψ
 obtain⟨stM,hrun1,hop⟩:=qZ (ops:=l.toArray) (l.take m) 0 st (λj hj=>by
  have:j<m:=by simp at hj;omega
  simp[zaq this]) h
 have hlen:(l.take m).length=m:=by simp;omega
 rw[hlen] at hrun1;have A:fV l.toArray.size (Array.replicate l.toArray.size false)=List.range' 0 m++(m::List.range' (m+1) (l.length-(m+1))):=by
  have e1:fV l.toArray.size (Array.replicate l.toArray.size false)=List.range l.toArray.size:=zaz.2 λi hi=>by
   have:i<l.length:=Ω hi
   simp[zL,this]
  have e2:(m::List.range' (m+1) (l.length-(m+1)))=List.range' (0+m) (l.length-m):=by
   rw[show l.length-m=(l.length-(m+1))+1 by omega,m7];rfl
  rw[e1,e2,hsize,List.range_eq_range',List.range'_append_1,show m+(l.length-m)=l.length by omega]
 have hdown0:Down l.toArray (Array.replicate l.toArray.size false):=λi o hi=>by
  exfalso;rw[zL,zbo] at hi;split at hi <;> cases hi
 have hfuel:l.toArray.size=m+((l.length-(m+1))+1):=by rw[hsize];omega
 have hc':yh (Region.before l.toArray) l.toArray.size m=true:=by rw[hsize];exact hc
 have q:yh (Region.before l.toArray) l.toArray.size (m+1)=true:=by rw[hsize];exact hc1
 have goal:=DV (X:=X) (ρ:=X.ρ) (n:=n) (Q:=Exit.then (λa w=>y.wpIn (FX X.ρ) n X.P (lift X Q) a w) (lift X Q)) (N:=(l.length-(m+1))+1) hd hr hc' (tail:=m::List.range' (m+1) (l.length-(m+1))) (λx hx=>by
   rcases zV.1 hx with rfl | hx
   .exact zq _
   .have:=List.mem_range'_1.1 hx;omega) (stM:=stM) (λlisted g1 a1 w1 C hrem1 hdown1 hs1=>?_) m (List.range' 0 m) _ g st a _ Ψ hs.drew Ψ A (λj hj=>by have:=List.mem_range'_1.1 hj;omega) hdown0 hrun1
 .rw[<-hfuel] at goal;exact goal
 refine Wz (X:=X) hr q (λx hx=>by have:=List.mem_range'_1.1 hx;omega) C hrem1 hdown1 λlisted2 G hrem2 hdown2=>?_;refine hop hd n g1 a1 w1 _ _ hs1 λX' g2' s2' a2 w2 B hX u=>?_;obtain⟨s2,hw2,hex⟩:=u;obtain⟨g2,hs2⟩:=hw2 X' g2' a2 w2 B;obtain⟨⟨p,e⟩,H⟩:=hX;obtain⟨sE,hrun2,hk⟩:=qZ (ops:=l.toArray) (l.drop (m+1)) (m+1) s2 (λj _=>by simp[pm]) hex;have hlen2:(l.drop (m+1)).length=l.length-(m+1):=Ψ
 rw[hlen2] at hrun2;have goal2:=DV (X:=X') (ρ:=X.ρ) (n:=n) (Q:=Exit.then (λa w=>y.wpIn (FX X.ρ) n X.P (lift X Q) a w) (lift X Q)) (N:=0) (by rw[H];exact hd) hr (m:=l.toArray.size) WJ (tail:=[]) (λx hx=>by cases hx) (stM:=sE) (λlisted g3 a3 w3 hsz3 hrem3 hdown3 hs3=>⟨?_,?_⟩) (l.length-(m+1)) (List.range' (m+1) (l.length-(m+1))) listed2 g2 s2 a2 w2 Ψ hs2 G (Ω hrem2) (λj hj=>by have:=List.mem_range'_1.1 hj;rw[hsize];omega) hdown2 hrun2
 .rw[p] at goal2;exact goal2
 .cases hq:Region.ready .any l.toArray listed with
  | nil=>rfl
  | cons i r=>
   have:=(ui (ops:=l.toArray) (listed:=listed) (i:=i) (by rw[hq];exact zm ..)).2.1;rw[hrem3] at this;cases this
 .have:=hk n g3 a3 w3 hs3;rw[vk ⟨p,e⟩,p,e] at this;exact this
end
end Go.Pw
namespace Go.Pw
open Go.RowKit Go.Sh Go.Instr
def oI{K:Type}[BEq K]:List K->K->Option Nat
 | [],_=>none
 | a::ks,k=>if k==a then some 0 else (oI ks k).map (· + 1)
theorem Ew{K V:Type}[BEq K]:∀(es:List (K × V)) (k:K),C0 es k=(oI (es.map (·.1)) k).bind λi=>es[i]?.map (·.2)
 | [],_=>rfl
 | p::es,k=>by
  unfold C0;rw[ut,oI];split;·rfl
  .rw[Ew es k];cases oI (es.map (·.1)) k <;> rfl
theorem xv{K V:Type}[BEq K]:∀(es:List (K × V)) (k:K) (v:V),r7 es k v=match oI (es.map (·.1)) k with
  | some i=>es.set i (k,v)
  | none=>es ++ [(k,v)]
 | [],_,_=>rfl
 | p::es,k,v=>by
  unfold r7;rw[ut,oI];split;·rfl
  .rw[xv es k v];cases oI (es.map (·.1)) k <;> rfl
theorem NP{K:Type}[BEq K]:∀(ks:List K) (k:K) (i:Nat),oI ks k=some i->∃h:i<ks.length,(k==ks[i])=true
 | [],_,_,h=>by cases h
 | a::ks,k,i,h=>by
  rw[oI] at h;split at h
  .rename_i q;cases h;exact⟨Nat.zero_lt_succ _,q⟩
  .rw[Option.map_eq_some_iff] at h;obtain⟨j,e,rfl⟩:=h;obtain⟨m,o⟩:=NP ks k j e;exact⟨Nat.succ_lt_succ m,Ω o⟩
def a2m{K:Type}(EK:K->PV)(ents:List MapEntry)(ks:List K)(w:World)(imm:Nat->Nat->Prop):Prop:=
 ents.length=ks.length/\∀(i:Nat) e k,ents[i]? = some e->ks[i]? = some k->Rd0 w imm e.key (EK k)
structure yM (P:Program) (kt:TypeId) {K:Type} [BEq K] (EK:K->PV):Prop where
 check:∀ {w:World} {imm:Nat->Nat->Prop} {kv:Value} {k:K} (b:Bool),Rd0 w imm kv (EK k)->(checkKey b 10000 kt kv).run P w = .ok () w
 find:∀ {w:World} {imm:Nat->Nat->Prop} {kv:Value} {k:K} (ents:List MapEntry) (ks:List K),Rd0 w imm kv (EK k)->a2m EK ents ks w imm->(findKey kt kv ents).run P w = .ok ((oI ks k).bind λi=>ents[i]?.map λe=>(i,e.val)) w
 stays:∀ {w:World} {imm:Nat->Nat->Prop} {kv ku:Value} {k u:K},Rd0 w imm kv (EK k)->Rd0 w imm ku (EK u)->(k==u)=true->(keyThatStays ku kv).run P w = .ok kv w
 iD:∀k:K,(EK k).iD=true/\(EK k).w1=EK k
 eq:∀k u:K,(k==u)=true->k=u
theorem yl{ik:IntKind}{n:Int}:∀(ents:List MapEntry) (ks:List Int) (m:Nat),ents.length=ks.length->(∀(i:Nat) e k,ents[i]? = some e->ks[i]? = some k->e.key = .int ik k) ->
  findNow (.int ik) (.int ik n) ents m=some ((oI ks n).bind λi=>ents[i]?.map λe=>(m+i,e.val))
 | [],[],m,_,_=>rfl
 | e::ents,[],_,h,_=>by simp at h
 | [],k::ks,_,h,_=>by simp at h
 | e::ents,k::ks,m,hl,h=>by
  have h0:=h 0 e k rfl rfl;rw[findNow,h0,oI];simp only[sameNow,wd];by_cases q:n=k
  .subst q;simp
  .have y:(n==k)=false:=by simpa using q
   rw[y];simp only[zj,wf];rw[yl ents ks (m+1) (Ω hl) λi o k' p u=>h (i+1) o k' (Ω p) (Ω u)];cases oI ks n with
   | none=>rfl
   | some j=>
    simp only[zbw,ww,zaf];rw[n8,zbf 1 j]
theorem D7{P:Program}{kt:TypeId}{ik:IntKind}(h:P.underlying kt=some (.int ik)):yM P kt (PV.int ik) where
 check b hr:=by
  cases hr
  unfold checkKey
  simp only[zt,zZ h,zi]
  rfl
 find ents ks hr hk:=by
  cases hr
  unfold findKey
  simp only[zt,zZ h,zi]
  rw[yl ents ks 0 hk.1 λi e k j m=>by
   have:=hk.2 i e k j m
   cases o:e.key <;> rw[o] at this <;> cases this
   rfl]
  simp only[m7]
  rfl
 stays j m he:=by
  cases j
  cases m
  rename_i k u
  have:k=u:=Ω he
  subst this
  unfold keyThatStays
  rw[zc (by simp[sameBits])]
  rfl
 iD k:=⟨rfl,rfl⟩
 eq k u h:=Ω h
theorem BE{P:Program}{w:World}{b:Nat}{ents:Array MapEntry}{clock:Nat}(h:w.heap[b]? = some (.map ents clock)):(getObj b).run P w = .ok (.map ents clock) w:=by
 simp[getObj,Sem.run,h]
theorem CL{P:Program}{w:World}{b:Nat}{ents:Array MapEntry}{clock:Nat}(o:Obj)(h:w.heap[b]? = some (.map ents clock)):(setObj b o).run P w = .ok () (w.putObj b o):=by
 simp[setObj,Sem.run,h,World.putObj]
def jg{K V:Type}(EK:K->PV)(E:V->PV)(p:K × V):PV:=.tup [EK p.1,E p.2]
def sV(P:Program)(t:TypeId):Option (TypeId × TypeId):=match P.underlying t with | some (.map k e)=>some (k,e) | _=>none
theorem Kx{P:Program}{t k e:TypeId}(h:sV P t=some (k,e)):P.underlying t=some (.map k e):=by
 unfold sV at h;split at h;·rename_i h';cases h;exact h'
 .cases h
section
variable{P:Program}{w:World}{imm:Nat->Nat->Prop}{K V:Type}[BEq K]{EK:K->PV}{E:V->PV}
theorem kL.keys{b:Nat}{es:List (K × V)}(h:kL w imm b (es.map (jg EK E))):∃ents clock,w.heap[b]? = some (.map ents clock)/\ents.toList.length=es.length/\a2m EK ents.toList (es.map (·.1)) w imm /\
  ∀(i:Nat) e p,ents.toList[i]? = some e->es[i]? = some p->Rd0 w imm e.val (E p.2):=by
 rcases h with ⟨ents,clock,A,m,q⟩ | ⟨s,pos,_,m⟩;rotate_left
 .cases es with
  | nil=>cases m
  | cons p es=>cases m
 have hl:ents.toList.length=es.length:=Ω m
 refine⟨ents,clock,A,hl,⟨Ω hl,λi e k o j=>?_⟩,λi e p o j=>?_⟩
 .obtain⟨kk,vv,k1,k2,y⟩:=q i e (Ω o);rw[zW] at k1 j;cases u:es[i]? with
  | none=>rw[u] at j;cases j
  | some p=>
   rw[u] at k1 j;cases j;cases k1;exact k2
 .obtain⟨kk,vv,k1,k2,y⟩:=q i e (Ω o);rw[zW,j] at k1;cases k1;exact y
theorem kL.find{b:Nat}{es:List (K × V)}(h:kL w imm b (es.map (jg EK E))){kt:TypeId}(o:yM P kt EK){kv:Value}{k:K}(hk:Rd0 w imm kv (EK k)) :
  ∃ents clock,w.heap[b]? = some (.map ents clock)/\(∀e,(checkKey e 10000 kt kv).run P w = .ok () w)/\((C0 es k=none/\oI (es.map (·.1)) k=none/\(findKey kt kv ents.toList).run P w = .ok none w) \/
   ∃i e p,oI (es.map (·.1)) k=some i/\ents[i]? = some e/\es[i]? = some p/\C0 es k=some p.2/\(k==p.1)=true/\Rd0 w imm e.val (E p.2)/\Rd0 w imm e.key (EK p.1)/\(findKey kt kv ents.toList).run P w = .ok (some (i,e.val)) w):=by
 obtain⟨ents,clock,q,B,m,u⟩:=h.keys;refine⟨ents,clock,q,λe=>o.check e hk,?_⟩;have hf:=o.find ents.toList (es.map (·.1)) hk m;rw[Ew];cases hi:oI (es.map (·.1)) k with
 | none=>rw[hi] at hf;exact .inl ⟨rfl,rfl,hf⟩
 | some i=>
  obtain⟨y,A⟩:=NP _ _ _ hi;have q1':i<es.length:=Ω y
  have j:i<ents.toList.length:=Δ
  rw[hi] at hf;rw[zbw,zd j] at hf;refine .inr ⟨i,ents.toList[i],es[i],rfl,?_,zd q1',?_,Ω A,u i _ _ (zd j) (zd q1'),m.2 i _ _ (zd j) (by rw[zW,zd q1'];rfl),hf⟩;·rw[<-Array.getElem?_toList,zd j]
  .rw[zbw,zd q1'];rfl
def Zg(E:V->PV)(r:Option V)(z:PV)(ok:Bool):PV:=
 if ok then .tup [match r with | some v=>E v | none=>z,.bool r.isSome] else match r with | some v=>E v | none=>z
theorem lk1(E:V->PV)(r:Option V)(z:V):Zg E r (E z) false=E (r.getD z):=by cases r <;> rfl
theorem lk2(E:V->PV)(r:Option V)(z:V):Zg E r (E z) true = .tup [E (r.getD z),.bool r.isSome]:=by cases r <;> rfl
theorem CF{b:Nat}{es:List (K × V)}(h:kL w imm b (es.map (jg EK E))){T kt et:TypeId}(hT:sV P T=some (kt,et))(y:yM P kt EK){kv:Value}{k:K}(hk:Rd0 w imm kv (EK k)){zv:Value}(hz:B1 P et=some zv)(ok:Bool) :
  ∃v,(Instr.lookup T (.map (some b)) kv ok).run P w = .ok v w/\Rd0 w imm v (Zg E (C0 es k) (PV.kG zv) ok):=by
 obtain⟨ents,clock,o,q,u⟩:=h.find y hk;unfold Instr.lookup;simp only[zt,zZ (Kx hT),zi,BE o,or,q];rcases u with ⟨j,_,A⟩ | ⟨i,e,p,_,_,_,j,_,m,_,B⟩
 .rw[j,A];simp only[zi,zt,nx hz,or];cases ok;·exact⟨_,rfl,xI _ _ _⟩
  .refine⟨_,rfl,.tup _ _ rfl λi v c hv hc=>?_⟩;match i with
   | 0=>simp at hv hc;subst hv;subst hc;exact xI _ _ _
   | 1=>simp at hv hc;subst hv;subst hc;exact .bool _
   | _+2=>simp at hv
 .rw[j,B];simp only[zi,zt,or];cases ok;·exact⟨_,rfl,m⟩
  .refine⟨_,rfl,.tup _ _ rfl λi v c hv hc=>?_⟩;match i with
   | 0=>simp at hv hc;subst hv;subst hc;exact m
   | 1=>simp at hv hc;subst hv;subst hc;exact .bool _
   | _+2=>simp at hv
end
section
variable{X:Ctx}{g:Gh}{st:St}{a:Act}{w:World}{K V:Type}[BEq K]{EK:K->PV}{E:V->PV}
theorem RE{l:Nat}{o o':Obj}(hl:w.heap[l]? = some o)(hc:o.isCells=false)(j:o'.isCells=false)(b i:Nat):(w.putObj l o').cell? ⟨b,i,none⟩=w.cell? ⟨b,i,none⟩:=by
 have m:l<w.heap.size:=(t7.1 hl).1;by_cases e:b=l
 .subst e;have none_of:∀(W:World) (o:Obj),W.heap[b]? = some o->o.isCells=false->W.cell? ⟨b,i,none⟩=none:=by
   intro W o p ho;cases q:W.cell? ⟨b,i,none⟩ with
   | none=>rfl
   | some u=>
    obtain⟨y,k1,k2⟩:=cells_of_cell q;rw[show W.heap[b]? = some y from k1] at p;cases p;rw[k2] at ho;cases ho
  rw[none_of _ _ (World.putObj_heap_same m) j,none_of _ _ hl hc]
 .exact World.cell?_of_block Δu
theorem D1.r7(h:D1 X g st a w){l b:Nat}{r:Row}{o':Obj}{es':List PV}(hl:MB<=l)(hr:st.σ l=some r)(hrc:r.cl=false)(hA:(g.μ l).A=some ⟨b,0,none⟩)
  (ho':cZ o'=true)(hm:Ext w g.imm (w.putObj b o') g.imm->(w.putObj b o').heap[b]? = some o'->kL (w.putObj b o') g.imm b es') :
  D1 X g ⟨st.env,z7 st.σ l (some { r with els:=[.mapc es'] })⟩ a (w.putObj b o'):=by
 obtain⟨b',es0,m1,m2,m3,m4,m5,m6⟩:=h.maps.at_ l r hl hr;rw[hA] at m2;cases m2;obtain⟨x0,q0,q0m⟩:=m4.obj;have hni:=m5 hrc;have hlt:b<w.heap.size:=(t7.1 q0).1;have hcell:=RE (w:=w) (o':=o') q0 (O6 q0m) (O6 ho');have hx:Ext w g.imm (w.putObj b o') g.imm:=⟨λ_ _ q=>q,λb i _=>hcell b i,λm i x q B hm'=>by
  by_cases e:m=b
  .subst e;exact absurd q (hni i)
  .rw[World.putObj_heap_other e];exact B⟩
 have hp:∀l',st.u3 l'->St.u3 ⟨st.env,z7 st.σ l (some { r with els:=[.mapc es'] })⟩ l'/\g.μ l'=g.μ l':=by
  rintro l' ⟨r',hr'⟩;refine⟨?_,rfl⟩;by_cases e:l'=l
  .exact⟨_,ΩU⟩
  .exact⟨r',by rw[show (St.mk st.env (z7 st.σ l (some { r with els:=[.mapc es'] }))).σ l'=st.σ l' from r8 _ _ e];exact hr'⟩
 have hcase:∀l' r',z7 st.σ l (some { r with els:=[.mapc es'] }) l'=some r'->(l'=l/\r'={ r with els:=[.mapc es'] })\/(l'≠l/\st.σ l'=some r'):=by
  intro l' r' q;by_cases e:l'=l
  .subst e;rw[s7] at q;cases q;exact .inl ⟨rfl,rfl⟩
  .rw[r8 _ _ e] at q;exact .inr ⟨e,q⟩
 have N:∀l' r',st.σ l'=some r'->∀m i,L2 (g.μ l') r' m i->(w.putObj b o').frozen? ⟨m,i,none⟩=w.frozen? ⟨m,i,none⟩:=λl' r' q m i ho=>by
  have e:m≠b:=λe=>by
   subst e;have:=oP (h.rows l' r' q) ho q0;rw[q0m] at this;cases this
  unfold World.frozen?;simp only;rw[World.putObj_heap_other e]
 have H:=h.rows l r hr;refine⟨h.size,λi=>(h.env i).mono hx hp,λl' r' q=>?_,λl1 l2 r1 r2 u q1 q2 b' o' ho=>?_,λl' r' b' o' q ho=>?_,λm i q=>?_,h.immsub,h.immsup,?_,?_,λp hp=>?_,h.big,⟨λl' r' hl' q=>?_,λl1 l2 r1 r2 h1 h2 u q1 q2 q3=>?_⟩⟩
 .rcases hcase l' r' q with ⟨rfl,rfl⟩ | ⟨e,G⟩
  .refine⟨?_,H.z,H.C,?_,λx B=>?_,H.nil,H.spot,λi x j y B hy=>?_,λm o2 ho=>?_⟩;·rw[H.n,m1];rfl
   .exact H.lo
   .simp only[zR] at B;subst B;refine⟨rfl,?_⟩;have:=(H.el _ (by rw[m1];exact zm ..)).2;rw[<-this];rfl
   .have:x = .mapc es':=by
     cases i with
     | zero=>simp at B;exact B.symm
     | succ i=>simp at B
    subst this;cases hy
   .obtain⟨k1,k2,k3⟩:=H.own m o2 ho;exact⟨k1,by rw[hcell];exact k2,by rw[N _ _ hr _ _ ho];exact k3⟩
  .exact (h.rows l' r' G).mono hx hp λm i ho=>⟨hcell m i,N l' r' G m i ho⟩
 .rcases hcase l1 r1 q1 with ⟨rfl,rfl⟩ | ⟨e1,q1'⟩ <;> rcases hcase l2 r2 q2 with ⟨rfl,rfl⟩ | ⟨e2,q2'⟩
  .exact absurd rfl u
  .exact λk=>h.disj l1 l2 r r2 u hr q2' b' o' ho k
  .exact λk=>h.disj l1 l2 r1 r u q1' hr b' o' ho k
  .exact h.disj l1 l2 r1 r2 u q1' q2' b' o' ho
 .rcases hcase l' r' q with ⟨rfl,rfl⟩ | ⟨e,G⟩;·exact h.ownimm l' r b' o' hr ho
  .exact h.ownimm l' r' b' o' G ho
 .have:=h.immlt m i q;simpa[World.putObj] using this
 .exact h.below.trans ⟨⟨rfl,rfl,rfl,by simp[World.putObj],λk hk=>World.putObj_heap_other Δ⟩,zq _⟩
 .obtain⟨rs,h1,h2,h3⟩:=h.marks;refine⟨rs,h1,h2,λr hr=>⟨?_,(h3 r hr).2⟩⟩;rw[World.putObj_heap_other (λe=>by subst e;have h4:=(h3 _ hr).1;rw[q0] at h4;cases h4;cases q0m)];exact (h3 r hr).1
 .obtain⟨k1,k2,k3⟩:=h.obs p hp;refine⟨?_,k2,k3⟩;rw[World.putObj_heap_other (λe=>by rw[e,q0] at k1;rw[<-t8 k1,q0m] at k3;cases k3)];exact k1
 .have apart':=h.maps.apart;rcases hcase l' r' q with ⟨rfl,rfl⟩ | ⟨e,G⟩;·exact⟨b,es',rfl,hA,m3,hm hx (World.putObj_heap_same hlt),m5,m6⟩
  .obtain⟨m,es2,n1,n2,n3,n4,n5,n6⟩:=h.maps.at_ l' r' hl' G;have u:m≠b:=λe2=>by
    subst e2;exact h.maps.apart l l' r r' hl hl' (zav e) hr G hrc (by rw[hA,n2])
   exact⟨m,es2,n1,n2,n3,n4.mono hx λo k1 k2=>by rw[World.putObj_heap_other u];exact k1,n5,n6⟩
 .have f:∀l' q,z7 st.σ l (some { r with els:=[.mapc es'] }) l'=some q->∃G,st.σ l'=some G/\G.cl=q.cl:=λl' q hq=>by
   rcases hcase l' q hq with ⟨rfl,rfl⟩ | ⟨e,G⟩;·exact⟨r,hr,rfl⟩
   .exact⟨q,G,rfl⟩
  obtain⟨s1,k1,k2⟩:=f l1 r1 q1;obtain⟨s2,k3,_⟩:=f l2 r2 q2;exact h.maps.apart l1 l2 s1 s2 h1 h2 u k1 k3 (by rw[k2];exact q3)
theorem D1.a4p(h:D1 X g st a w){l b:Nat}{r:Row}{ents':Array MapEntry}{clock':Nat}{es':List PV}(hl:MB<=l)(hr:st.σ l=some r)(j:r.cl=false)(hA:(g.μ l).A=some ⟨b,0,none⟩)
  (hn:ents'.size=es'.length)(hm:∀(i:Nat) e,ents'[i]? = some e->∃k v,es'[i]? = some (.tup [k,v])/\Rd0 w g.imm e.key k/\Rd0 w g.imm e.val v) :
  D1 X g ⟨st.env,z7 st.σ l (some { r with els:=[.mapc es'] })⟩ a (w.putObj b (.map ents' clock')):=by
 refine h.r7 hl hr j hA rfl λhx hp=>.inl ⟨ents',clock',hp,hn,λi e hi=>?_⟩;obtain⟨k,v,k1,k2,m⟩:=hm i e hi;exact⟨k,v,k1,k2.mono hx,m.mono hx⟩
theorem D1.Zj(h:D1 X g st a w){l:Nat}{o:Obj}{es:List PV}(ho:cZ o=true)(hm:(w.alloc o).heap[w.heap.size]? = some o->kL (w.alloc o) g.imm w.heap.size es)(hl:MB<=l)(hn:st.σ l=none) :
  D1 X ⟨g.imm,z7 g.μ l ⟨some ⟨w.heap.size,0,none⟩,1,1,0⟩⟩ ⟨st.env,z7 st.σ l (some ⟨[.mapc es],0,false,0,false⟩)⟩ a (w.alloc o):=by
 have p:=h.alloc o;have u:∀b o,¬L2 ⟨some ⟨w.heap.size,0,none⟩,1,1,0⟩ ⟨[.mapc es],0,false,0,false⟩ b o:=by
  rintro b o ⟨s,_,k1,k2⟩;simp only[Nat.mul_zero,zam] at k1 k2;omega
 have hp:∀l',st.u3 l'->St.u3 ⟨st.env,z7 st.σ l (some ⟨[.mapc es],0,false,0,false⟩)⟩ l'/\z7 g.μ l ⟨some ⟨w.heap.size,0,none⟩,1,1,0⟩ l'=g.μ l':=by
  rintro l' ⟨r',C⟩;have m:l'≠l:=λe=>by subst e;rw[hn] at C;cases C
  exact⟨⟨r',by simpa[r8 _ _ m] using C⟩,r8 _ _ m⟩
 have hcase:∀l' r',z7 st.σ l (some ⟨[.mapc es],0,false,0,false⟩) l'=some r'->(l'=l/\r'=⟨[.mapc es],0,false,0,false⟩)\/(l'≠l/\st.σ l'=some r'):=by
  intro l' r' q;by_cases e:l'=l
  .subst e;rw[s7] at q;cases q;exact .inl ⟨rfl,rfl⟩
  .rw[r8 _ _ e] at q;exact .inr ⟨e,q⟩
 have hnew:(w.alloc o).heap[w.heap.size]? = some o:=World.alloc_heap_new ..;refine⟨p.size,λi=>(p.env i).mono (Ext.refl _ _) hp,λl' r' q=>?_,λl1 G H N m q1 q2 b o ho=>?_,λl' r' b o q ho=>?_,p.immlt,p.immsub,p.immsup,p.below,p.marks,p.obs,p.big,⟨λl' r' B q=>?_,λl1 G H N k1 k2 m q1 q2 q3=>?_⟩⟩
 .rcases hcase l' r' q with ⟨rfl,rfl⟩ | ⟨e,q'⟩
  .simp only[s7];refine⟨rfl,rfl,zq _,rg _,λx hx=>?_,(λq=>Γ),λ_=>⟨_,_,rfl⟩,λi x j y hx hy=>?_,λb o ho=>absurd ho (u b o)⟩;·simp only[zR] at hx;subst hx;exact⟨rfl,rfl⟩
   .have:x = .mapc es:=by
     cases i with
     | zero=>simp at hx;exact hx.symm
     | succ i=>simp at hx
    subst this;cases hy
  .simp only[r8 _ _ e];exact (p.rows l' r' q').mono (Ext.refl _ _) hp λ_ _ _=>⟨rfl,rfl⟩
 .rcases hcase l1 H q1 with ⟨rfl,rfl⟩ | ⟨e1,q1'⟩ <;> rcases hcase G N q2 with ⟨rfl,rfl⟩ | ⟨e2,q2'⟩
  .exact absurd rfl m
  .simp only[s7] at ho;exact absurd ho (u b o)
  .simp only[s7];exact u b o
  .simp only[r8 _ _ e1,r8 _ _ e2] at ho |-;exact p.disj l1 G H N m q1' q2' b o ho
 .rcases hcase l' r' q with ⟨rfl,rfl⟩ | ⟨e,q'⟩;·simp only[s7] at ho;exact absurd ho (u b o)
  .simp only[r8 _ _ e] at ho;exact p.ownimm l' r' b o q' ho
 .rcases hcase l' r' q with ⟨rfl,rfl⟩ | ⟨e,q'⟩
  .simp only[s7];refine⟨w.heap.size,es,rfl,rfl,h.below.size,hm hnew,λ_ o q=>?_,λq=>Γ⟩;exact absurd (h.immlt _ _ q) (zb7 _)
  .simp only[r8 _ _ e];exact p.maps.at_ l' r' B q'
 .have old:∀l' r',MB<=l'->st.σ l'=some r'->(g.μ l').A≠some ⟨w.heap.size,0,none⟩:=λl' r' B q e=>by
   obtain⟨b,es,_,n2,_,n4,_⟩:=h.maps.at_ l' r' B q;rw[e] at n2;cases n2;obtain⟨_,n5,_⟩:=n4.obj;exact absurd (t7.1 n5).1 (zb7 _)
  rcases hcase l1 H q1 with ⟨rfl,rfl⟩ | ⟨e1,q1'⟩ <;> rcases hcase G N q2 with ⟨rfl,rfl⟩ | ⟨e2,q2'⟩
  .exact absurd rfl m
  .simp only[s7,r8 _ _ e2];exact λq=>old G N k2 q2' q.symm
  .simp only[s7,r8 _ _ e1];exact old l1 H k1 q1'
  .simp only[r8 _ _ e1,r8 _ _ e2];exact p.maps.apart l1 G H N k1 k2 m q1' q2' q3
theorem D1.a4o(h:D1 X g st a w){l:Nat}(hl:MB<=l)(hn:st.σ l=none) :
  D1 X ⟨g.imm,z7 g.μ l ⟨some ⟨w.heap.size,0,none⟩,1,1,0⟩⟩ ⟨st.env,z7 st.σ l (some ⟨[.mapc []],0,false,0,false⟩)⟩ a (w.alloc (.map #[] 0)):=by
 exact h.Zj rfl (λhp=>.inl ⟨#[],0,hp,rfl,λi e hi=>by simp at hi⟩) hl hn
theorem HT{s:St}(t l:Nat){es:List PV}{lo z:Nat}{opn:Bool}(ht:s.env t = .mp l)(hr:s.σ l=some ⟨[.mapc es],lo,opn,z,false⟩) :
  Wk s ⟨z7 s.env t (.abs (aa es)),z7 s.σ l (some ⟨[.mapc es],lo,opn,z,true⟩)⟩:=λX g a w h=>by
 have hv:=h.env t;rw[ht] at hv;obtain⟨_,hl,b,hA,hb⟩:=hv.BV;obtain⟨u,es0,m1,m2,m3,m4,m5,m6⟩:=h.maps.at_ l _ hl hr;rw[hA] at m2;cases m2;cases m1;obtain⟨x0,q0,q0m⟩:=m4.obj;have hx:Ext w g.imm w (λp o=>g.imm p o\/p=b):=⟨λ_ _ q=>.inl q,λ_ _ _=>rfl,λ_ _ _ _ q _=>q⟩;have hp:∀l',s.u3 l'->St.u3 ⟨z7 s.env t (.abs (aa es)),z7 s.σ l (some ⟨[.mapc es],lo,opn,z,true⟩)⟩ l'/\g.μ l'=g.μ l':=by
  rintro l' ⟨r',hr'⟩;refine⟨?_,rfl⟩;by_cases e:l'=l
  .exact⟨_,ΩU⟩
  .exact⟨r',by rw[show (St.mk (z7 s.env t (.abs (aa es))) (z7 s.σ l (some ⟨[.mapc es],lo,opn,z,true⟩))).σ l'=s.σ l' from r8 _ _ e];exact hr'⟩
 have hcase:∀l' r',z7 s.σ l (some ⟨[.mapc es],lo,opn,z,true⟩) l'=some r'->(l'=l/\r'=⟨[.mapc es],lo,opn,z,true⟩)\/(l'≠l/\s.σ l'=some r'):=by
  intro l' r' q;by_cases e:l'=l
  .subst e;rw[s7] at q;cases q;exact .inl ⟨rfl,rfl⟩
  .rw[r8 _ _ e] at q;exact .inr ⟨e,q⟩
 have A:=h.rows l _ hr;have hlt:b<w.heap.size:=(t7.1 q0).1;refine⟨⟨λp o=>g.imm p o\/p=b,g.μ⟩,⟨h.size,λi=>?_,λl' r' q=>?_,λl1 B H r2 m q1 q2 u o' ho=>?_,λl' r' u o' q ho=>?_,λp o q=>?_,λp o q=>?_,λp o q=>.inl (h.immsup p o q),h.below,h.marks,h.obs,h.big,⟨λl' r' hl' q=>?_,λl1 B H r2 h1 h2 m q1 q2 q3=>?_⟩⟩⟩
 .by_cases e:i=t
  .subst e;rw[show (St.mk (z7 s.env i (.abs (aa es))) (z7 s.σ l (some ⟨[.mapc es],lo,opn,z,true⟩))).env i = .abs (aa es) from s7 _ _ _,hb];exact .cl (JV ⟨b,rfl,.inr rfl,m4.mono hx λo k1 k2=>k1⟩)
  .rw[show (St.mk (z7 s.env t (.abs (aa es))) (z7 s.σ l (some ⟨[.mapc es],lo,opn,z,true⟩))).env i=s.env i from r8 _ _ e];exact (h.env i).mono hx hp
 .rcases hcase l' r' q with ⟨rfl,rfl⟩ | ⟨e,N⟩
  .refine⟨A.n,A.z,A.C,A.lo,A.el,A.nil,A.spot,λi x j y G hy=>?_,λp o2 ho=>A.own p o2 ho⟩;have:x = .mapc es:=by
    cases i with
    | zero=>simp at G;exact G.symm
    | succ i=>simp at G
   subst this;cases hy
  .exact (h.rows l' r' N).mono hx hp λ_ _ _=>⟨rfl,rfl⟩
 .rcases hcase l1 H q1 with ⟨rfl,rfl⟩ | ⟨e1,q1'⟩ <;> rcases hcase B r2 q2 with ⟨rfl,rfl⟩ | ⟨e2,q2'⟩
  .exact absurd rfl m
  .exact λk=>h.disj l1 B _ r2 m hr q2' u o' ho k
  .exact λk=>h.disj l1 B H _ m q1' hr u o' ho k
  .exact h.disj l1 B H r2 m q1' q2' u o' ho
 .have own':∀r0,s.σ l'=some r0->L2 (g.μ l') r0 u o'->¬(g.imm u o'\/u=b):=λr0 q0' ho' k=>by
   rcases k with k | k
   .exact h.ownimm l' r0 u o' q0' ho' k
   .subst k;have:=oP (h.rows l' r0 q0') ho' q0;rw[q0m] at this;cases this
  rcases hcase l' r' q with ⟨rfl,rfl⟩ | ⟨e,N⟩;·exact own' _ hr ho
  .exact own' _ N ho
 .rcases q with q | rfl
  .exact h.immlt p o q
  .exact hlt
 .rcases q with q | rfl
  .exact h.immsub p o q
  .exact .inr m3
 .rcases hcase l' r' q with ⟨rfl,rfl⟩ | ⟨e,N⟩;·exact⟨b,es,rfl,hA,m3,m4.mono hx λo k1 k2=>k1,λq=>Γ,λ_=>.inr rfl⟩
  .obtain⟨p,es2,n1,n2,n3,n4,n5,n6⟩:=h.maps.at_ l' r' hl' N;have m:p≠b:=λe2=>by
    subst e2;exact h.maps.apart l l' _ r' hl hl' (zav e) hr N rfl (by rw[hA,n2])
   exact⟨p,es2,n1,n2,n3,n4.mono hx λo k1 k2=>k1,λc o k=>k.elim (n5 c o) m,λc=>.inl (n6 c)⟩
 .rcases hcase l1 H q1 with ⟨rfl,rfl⟩ | ⟨e1,q1'⟩;·cases q3
  .rcases hcase B r2 q2 with ⟨rfl,rfl⟩ | ⟨e2,q2'⟩;·exact h.maps.apart l1 B H _ h1 h2 m q1' hr q3
   .exact h.maps.apart l1 B H r2 h1 h2 m q1' q2' q3
end
theorem Rd.As{w:World}{imm:Nat->Nat->Prop}{μ:Nat->L7}{u3:Nat->Prop}{v:Value}{R:World->(Nat->Nat->Prop)->Value->Prop}(h:Rd w imm μ u3 v (.abs R)):R w imm v:=by
 generalize hd:PV.abs R=d at h;cases h <;> try cases hd
 rename_i h;generalize e:PV.abs R=d' at h;cases h <;> cases e
 rename_i _ h;exact h w imm (Ext.refl _ _)
section
variable{X:Ctx}{ops:Array Oper}{i:Nat}{os:List Oper}{K:Ctx->St->Prop}{env:Nat->PV}{σ:Nat->Option Row}{ty:TypeId}{pos:String}{after:Array Edge}{gd:Option (Nat × Bool)}{t:Tmp}{KT VT:Type}[BEq KT]{EK:KT->PV}{E:VT->PV}
theorem jz{o:Oper}{st:St}(ho:ops[i]? = some o)(hw:D9 ops st.env o=some true)(hnd:∀c,o.op ≠ .defer c)
  (h:∀g a w,D1 X g st a w->∃v w' e st' d,(execOp a.eval o).run X.P w = .ok (.value v) w'/\D1 X e st' a w'/\Rd w' e.imm e.μ st'.u3 v d/\K X ⟨V1 st'.env o.dst d,st'.σ⟩):Vw X ops i K st:=by
 intro hd n g a w next Qo hs u;unfold wpOpIn;rw[ho];simp only;rw[zc (W3 hs hw)];obtain⟨v,w',e,st',d,j,m,p,q⟩:=h g a w hs;exact G3 hnd j (u X _ _ _ _ (m.put (I7 hd ho) p) ⟨⟨rfl,rfl⟩,rfl⟩ q)
theorem TP{o:Oper}{st:St}(ho:ops[i]? = some o)(hw:D9 ops st.env o=some true)(hnd:∀c,o.op ≠ .defer c)(e:o.dst=none)
  (h:∀g a w,D1 X g st a w->∃w' j st',(execOp a.eval o).run X.P w = .ok .skip w'/\D1 X j st' a w'/\K X st'):Vw X ops i K st:=by
 intro hd n g a w next Qo hs u;unfold wpOpIn;rw[ho];simp only;rw[zc (W3 hs hw)];obtain⟨w',j,st',m,p,q⟩:=h g a w hs;refine xA hnd m ?_;rw[e];exact u X _ _ _ _ p ⟨⟨rfl,rfl⟩,rfl⟩ q
theorem EX{T:TypeId}(l:Nat)(hw:D9 ops env ⟨some t,.makeMap T none,ty,pos,after,gd⟩=some true)(hn:σ l=none)(k:Sq X ops (i+1) os K ⟨z7 env t (.mp l),z7 σ l (some ⟨[.mapc (([]:List (KT × VT)).map (jg EK E))],0,false,0,false⟩)⟩)(hl:MB<=l:=by exact zF rfl) :
  Sq X ops i (⟨some t,.makeMap T none,ty,pos,after,gd⟩::os) K ⟨env,σ⟩:=M9 λho=>jz ho hw (λc q=>Γ) λg a w hs=>
 ⟨_,_,_,_,.mp l,I2 (run_makeMap T w),hs.a4o hl hn,.mp l _ ⟨_,s7 _ _ _⟩ hl (m9 L7.A (s7 _ _ _)),k⟩
theorem Vm{T kt et:TypeId}{x y:Operand}{ok:Bool}{l lo z:Nat}{opn cl:Bool}{es:List (KT × VT)}{k:KT}{zv:Value}{d z0:PV}(hw:D9 ops env ⟨some t,.lookup T x y ok,ty,pos,after,gd⟩=some true)(hx:B6 env x = .mp l)(hl:σ l=some ⟨[.mapc (es.map (jg EK E))],lo,opn,z,cl⟩)
  (hy:B6 env y=EK k)(hT:sV X.P T=some (kt,et))(B:yM X.P kt EK)(hz:B1 X.P et=some zv)(A:(PV.kG zv).w1=z0)(hd:(Zg E (C0 es k) z0 ok)=d)
  (kk:Sq X ops (i+1) os K ⟨z7 env t d,σ⟩):Sq X ops i (⟨some t,.lookup T x y ok,ty,pos,after,gd⟩::os) K ⟨env,σ⟩:=M9 λho=>jz ho hw (λc q=>Γ) λg a w hs=>by
 have m:=hs.eval x;rw[show B6 (St.env ⟨env,σ⟩) x=_ from hx] at m;obtain⟨_,p,b,hA,e⟩:=m.BV;have o:=hs.eval y;rw[show B6 (St.env ⟨env,σ⟩) y=_ from hy] at o;obtain⟨b',G,H,C,m3,N,_⟩:=hs.maps.at_ l _ p hl;rw[hA] at C;cases C;cases H;obtain⟨v,h1,j⟩:=CF (P:=X.P) N hT B (o.iD (B.iD k).1) hz ok;refine⟨v,w,g,_,d,I2 ΩO,hs,?_,kk⟩;rw[<-hd,<-A];cases hm:C0 es k with
 | some u=>rw[hm] at j;cases ok <;> exact .cl j
 | none=>
  rw[hm] at j;cases ok;·exact .cl j.w1
  .refine .cl ?_;cases j with
   | tup vs _ hn h=>
    refine .tup vs _ hn λi v c hv hc=>?_;match i with
    | 0=>simp at hc;subst hc;exact (h 0 v _ hv rfl).w1
    | 1=>simp at hc;subst hc;exact h 1 v _ hv rfl
    | _+2=>simp at hc
theorem Vo{op:Op}{T kt et:TypeId}{x y u:Operand}{l lo z:Nat}{opn:Bool}{es:List (KT × VT)}{k:KT}{v:VT}(G:op = .mapUpdate T x y u\/op = .insert T x y u)(hw:D9 ops env ⟨none,op,ty,pos,after,gd⟩=some true)(hx:B6 env x = .mp l)
  (hl:σ l=some ⟨[.mapc (es.map (jg EK E))],lo,opn,z,false⟩)(hy:B6 env y=EK k)(hu:∀(w:World) (imm:Nat->Nat->Prop) (μ:Nat->L7) (u3:Nat->Prop) (q:Value),Rd w imm μ u3 q (B6 env u)->Rd w imm μ u3 q (E v))(hE:(E v).iD=true)(hT:sV X.P T=some (kt,et))(hK:yM X.P kt EK)
  (kk:Sq X ops (i+1) os K ⟨env,z7 σ l (some ⟨[.mapc ((r7 es k v).map (jg EK E))],lo,opn,z,false⟩)⟩):Sq X ops i (⟨none,op,ty,pos,after,gd⟩::os) K ⟨env,σ⟩:=M9 λho=>TP ho hw (λc q=>by rcases G with rfl | rfl <;> cases q) rfl λg a w hs=>by
 have hxv:=hs.eval x;rw[show B6 (St.env ⟨env,σ⟩) x=_ from hx] at hxv;obtain⟨_,C,b,hA,e⟩:=hxv.BV;have hyv:=hs.eval y;rw[show B6 (St.env ⟨env,σ⟩) y=_ from hy] at hyv;have o:=hyv.iD (hK.iD k).1;have huv:=hu _ _ _ _ _ (hs.eval u);have N:=huv.iD hE;obtain⟨b',es0,m1,m2,m3,m4,_⟩:=hs.maps.at_ l _ C hl;rw[hA] at m2;cases m2;cases m1;have H:∃ents' clock',(Instr.mapUpdate T (.map (some b)) (a.eval y) (a.eval u)).run X.P w = .ok () (w.putObj b (.map ents' clock'))/\ents'.size=((r7 es k v).map (jg EK E)).length /\
   ∀(i:Nat) e,ents'[i]? = some e->∃k' v',((r7 es k v).map (jg EK E))[i]? = some (.tup [k',v'])/\Rd0 w g.imm e.key k'/\Rd0 w g.imm e.val v':=by
  obtain⟨ents,clock,h1,h2,h3⟩:=m4.find hK o;obtain⟨ents2,clock2,g1,g2,g3,g4⟩:=m4.keys;rw[h1] at g1;cases g1;unfold Instr.mapUpdate;simp only[zt,zZ (Kx hT),zi,BE h1,h2];have m:ents.size=es.length:=Ω g2
  have old:∀(i:Nat) e,ents[i]? = some e->∃p,es[i]? = some p/\Rd0 w g.imm e.key (EK p.1)/\Rd0 w g.imm e.val (E p.2):=λi e hi=>by
   have A:i<es.length:=by rw[<-m];exact (t7.1 hi).1
   have B:ents.toList[i]? = some e:=Ω hi
   exact⟨es[i],zd A,g3.2 i e _ B (by rw[zW,zd A];rfl),g4 i e _ B (zd A)⟩
  rcases h3 with ⟨q1,q2,q3⟩ | ⟨j,e1,p,q1,q2,q3,q4,q5,q6,q7,q8⟩
  .rw[q3,xv,q2];simp only[zi,CL _ h1];refine⟨_,_,rfl,by simp[m],λi e' hi=>?_⟩;rw[Array.getElem?_push] at hi;split at hi
   .rename_i hie;cases hi;refine⟨EK k,E v,?_,o,N⟩;rw[zW,hie,m,zK (zq _),Nat.sub_self];rfl
   .obtain⟨p,k1,k2,k3⟩:=old i e' hi;refine⟨_,_,?_,k2,k3⟩;rw[zW,zU (D4 k1),k1];rfl
  .have hst:=hK.stays o q7 q5;rw[q8,xv,q1];refine⟨ents.modify j λe=>{ e with key:=a.eval y,val:=a.eval u },clock,?_,by simp[m],λi e' hi=>?_⟩;·simp only[zi,q2,ww,wp,zt,hst,CL _ h1]
   rw[Array.getElem?_modify] at hi;split at hi
   .rename_i h;subst h;rw[q2] at hi;cases hi;refine⟨EK k,E v,?_,o,N⟩;rw[zW,zaa (D4 q3)];rfl
   .rename_i h;obtain⟨p,k1,k2,k3⟩:=old i e' hi;refine⟨_,_,?_,k2,k3⟩;rw[zW,zb0 h,k1];rfl
 obtain⟨ents',clock',h1,h2,h3⟩:=H;refine⟨_,g,_,?_,hs.a4p (clock':=clock') C hl rfl hA h2 h3,kk⟩;rcases G with rfl | rfl
 .exact OH ΩO
 .exact OH ΩO
theorem J7{op:Op}{T kt et:TypeId}{x y u:Operand}{l lo z:Nat}{opn:Bool}{es:List (KT × VT)}{k:KT}{v:VT}(e:op = .mapUpdate T x y u\/op = .insert T x y u)(hw:D9 ops env ⟨none,op,ty,pos,after,gd⟩=some true)(hx:B6 env x = .mp l)
  (hl:σ l=some ⟨[.mapc (es.map (jg EK E))],lo,opn,z,false⟩)(hy:B6 env y=EK k)(hu:(B6 env u).w1=E v)(hE:(E v).iD=true)(hT:sV X.P T=some (kt,et))(j:yM X.P kt EK)
  (kk:Sq X ops (i+1) os K ⟨env,z7 σ l (some ⟨[.mapc ((r7 es k v).map (jg EK E))],lo,opn,z,false⟩)⟩):Sq X ops i (⟨none,op,ty,pos,after,gd⟩::os) K ⟨env,σ⟩:=Vo e hw hx hl hy (λ_ _ _ _ _ q=>hu▸q.w1) hE hT j kk
end
section
variable{P:Program}{σ:Nat->Option Row}{ρ:Operand->PV}{dst:Option Tmp}{KT VT:Type}[BEq KT]{EK:KT->PV}{E:VT->PV}
theorem TD{W:PV->PV}(H:∀ {w:World} {imm:Nat->Nat->Prop} {v:Value} {d:PV},Rd0 w imm v d->Rd0 w imm v (W d)){T kt et:TypeId}{x y:Operand}{ok:Bool}{es:List (KT × VT)}{k:KT}{zv:Value}{d z0:PV}(hx:ρ x = .abs (aa (es.map (jg EK E))))(hy:ρ y=EK k)(hT:sV P T=some (kt,et))(G:yM P kt EK)(hz:B1 P et=some zv)
  (C:W (PV.kG zv)=z0)(hd:(Zg E (C0 es k) z0 ok)=d):E6 P σ ρ dst (.lookup T x y ok) d .none:=by
 refine .pureV _ _ (λc q=>Γ) (λT x q=>Γ) λo w imm μ u3 ev ho m=>?_;have p:=m x Ωb;have A:=m y Ωb;rw[hx] at p;rw[hy] at A;have B:=A.iD (G.iD k).1;have:aa (es.map (jg EK E)) w imm (ev x):=p.As;obtain⟨b,e,_,N⟩:=this;obtain⟨v,h1,j⟩:=CF (P:=P) N hT G B hz ok;obtain⟨dst,op,ty,pos,after,guard⟩:=o;simp only at ho;subst ho;refine⟨v,I2 ΩO,?_⟩;rw[<-hd,<-C];cases hm:C0 es k with
 | some u=>rw[hm] at j;cases ok <;> exact .cl j
 | none=>
  rw[hm] at j;cases ok;·exact .cl (H j)
  .refine .cl ?_;cases j with
   | tup vs _ hn h=>
    refine .tup vs _ hn λi v c hv hc=>?_;match i with
    | 0=>simp at hc;subst hc;exact H (h 0 v _ hv rfl)
    | 1=>simp at hc;subst hc;exact h 1 v _ hv rfl
    | _+2=>simp at hc
theorem Jj{T kt et:TypeId}{x y:Operand}{ok:Bool}{es:List (KT × VT)}{k:KT}{zv:Value}{d z0:PV}(hx:ρ x = .abs (aa (es.map (jg EK E))))(hy:ρ y=EK k)(hT:sV P T=some (kt,et))(j:yM P kt EK)(hz:B1 P et=some zv)
  (e:(PV.kG zv).w1=z0)(hd:(Zg E (C0 es k) z0 ok)=d):E6 P σ ρ dst (.lookup T x y ok) d .none:=TD (W:=PV.w1) (λq=>q.w1) hx hy hT j hz e hd
end
end Go.Pw
namespace Go.Pw
open Go.RowKit
section
variable{X:Ctx}{g:Gh}{st:St}{a:Act}{w:World}{n:Nat}{K:Act->World->Prop}{Q:Exit->Act->World->Prop}{ρ:Option Nat}{P:Program}
theorem Rt{R0:List (Nat × Row)}:∀ {R:List (Nat × Row)},Ar R0 st R->∀p∈R,kM id R0 st.σ p
 | [],_,_,h=>by cases h
 | _::_,h,p,hp=>by
  rcases zV.1 hp with rfl | hp
  .exact h.1
  .exact Rt h.2 p hp
theorem a1i(h:D1 X g st a w){L:List (Nat × PV)}{R:List (Nat × Row)}(p:Ar R st R){l:Nat}{r:Row}(hl:(St.of L R).σ l=some r):∃e,st.σ l=some e/\∀b o,L2 (g.μ l) r b o->L2 (g.μ l) e b o:=by
 obtain⟨e,k1,_,k2,j,u,_,A⟩:=Rt p _ (dT hl);refine⟨e,k1,?_⟩;rintro b o ⟨s',hA,y,B⟩;have m:=(h.rows _ _ k1).C;refine⟨s',hA,by simp only at j;rw[j];exact y,?_⟩;have:(if r.opn then (g.μ l).C else (g.μ l).n)*(g.μ l).z<=(if e.opn then (g.μ l).C else (g.μ l).n)*(g.μ l).z:=zp _ (by
  simp only[id] at m;cases q:r.opn;·simp only[zj,wf];split <;> omega
  .rw[u q];exact zq _)
 omega
theorem a1d{o:Oper}{x y:Operand}{T E:TypeId}{ys:List PV}{z by_ l s:Nat}{r:Row}{zv:Value}(L:List (Nat × PV))(R:List (Nat × Row))(h:D1 X g st a w)(hAg:Ag R st L)(hAr:Ar R st R)(hsR:R.lookup s=none)
  (ho:o.op = .call { callee:=.builtin .append,args:=#[x,y],argTypes:=#[T,T] })(hdst:∀t,o.dst=some t->t<X.N)(hlm:l<MB)(hl:R.lookup l=none)
  (hx:B6 st.env x = .sl s)(hsr:st.σ s=some r)(hop:r.opn=true)(hlo0:r.lo=0)(hcl:r.cl=true)(hy:Src st.σ (B6 st.env y) ys true)(hE:C1 X.P T=some E)(hz:w9 X.P E=some z)(hb:I1 X.P E=some by_)(hzv:B1 X.P E=some zv)
  (hzz:zv.cells.size=z)(hel:∀e∈r.els++ys,e.cells.length=z)(hrz:r.z=z)(hfit:(r.els.length+ys.length)*by_<=140737488355328)(h63:r.els.length+ys.length<=9223372036854775807)
  (hK:∀g' a' w',D1 X g' ⟨V1 (RZ L) o.dst (.sl l),z7 (rowsOf R) l (some ⟨r.els++ys,0,true,z,true⟩)⟩ a' w'->K a' w'):o.wpIn (FX ρ) n X.P a w K Q:=by
 have hnd:∀c,o.op ≠ .defer c:=λc=>by rw[ho];simp
 have hv:=h.eval x;have hu:=h.eval y;rw[hx] at hv;obtain⟨hp,e⟩:=hv.df;have H:=h.rows s r hsr;obtain⟨B,cB,vals,eB,hyel,hlv,hvr,hone,hvc⟩:=Src.reads h hu hy (z:=z) (λy hy=>hel y (za0 _ hy));have hD:D1 X g (St.of L R) a w:=Vi L R hAg hAr X g a w h;have hDl:(St.of L R).σ l=none:=hl;have hDs:(St.of L R).σ s=none:=hsR;have hmz:(g.μ s).z=z:=by rw[H.z,hrz]
 rcases zE (g.μ s).C ((g.μ s).n+ys.length) with hbig | hroom
 .-- a new block
  have hm:0<ys.length:=by have:=H.C;omega
  obtain⟨bB,sB,rfl,hBc⟩:=hvc hm;obtain⟨A',cA,olds,eA,hxel,hlo,hor,_,hoc⟩:=Src.reads h hv (.inr ⟨s,r,rfl,hsr,rfl,rfl⟩:Src st.σ (.sl s) r.els r.cl) (z:=z) (λy hy=>hel y (zac _ hy));rw[e] at eA;simp only[Value.slice.injEq] at eA;obtain⟨rfl,hn',rfl⟩:=eA;rw[hn'] at e hbig;obtain⟨C',cs,hr,hC',hcs,rest,hrest⟩:=kr (P:=X.P) (w:=w) (ty:=o.type) (c:=cB) (B:=⟨bB,sB,none⟩) (m:=ys.length) hE hz hb hzv hzz hbig (by rw[<-hn'];exact H.C) H.nil hlo (λq=>hoc q) hlv
   (λj u hj=>ΩC) hfit h63
  have hs:=hD.drew.xN (l:=l) (els:=r.els++ys) (T:=E) (C:=C') (z:=z) (opn:=true) (cl:=true) cs hlm hDl (Ω (hC')) hcs
   (λe he=>⟨(zC.1 he).elim (hxel e) (hyel e),hel e he⟩) (λi x j y u hx hy hu=>by
    have hu':(olds++vals++rest)[i*z+j]? = some u:=by rw[<-hrest];simpa using hu
    have:=BL (R:=λu y=>Rd0 w g.imm u y) hlo (λx hx=>hel x hx) (λi x j y u hx hy hu=>(hor i x j y u hx hy hu).2 hcl) (λi x j y u hx hy hu=>(hvr i x j y u hx hy hu).2 rfl) rest hlv i x j y u hx hy hu';have hx0:Ext w g.imm w.drew g.imm:=⟨λ_ _ q=>q,λ_ _ _=>rfl,λ_ _ _ _ q _=>q⟩;exact⟨.cl (this.mono hx0),λ_=>this.mono hx0⟩)
  refine G3 hnd (eh ho (by rw[e,eB];exact hr)) (hK _ _ _ (hs.put hdst ?_));have:=fL (w':=w.drew.alloc (.cells cs E)) (imm:=g.imm) (μ:=z7 g.μ l ⟨some ⟨w.heap.size,0,none⟩,(r.els++ys).length,C',z⟩)
   (u3:=St.u3 ⟨(St.of L R).env,z7 (St.of L R).σ l (some ⟨r.els++ys,0,true,z,true⟩)⟩) (l:=l) ⟨_,s7 _ _ _⟩ (s7 _ _ _)
  simpa using this
 .-- in place
  have hn:=H.n;have hT:∀b s',(g.μ s).A=some ⟨b,s',none⟩->∀o',s'+(g.μ s).n*z<=o'->o'<s'+(g.μ s).C*z->L2 (g.μ s) r b o':=λb s' hA o' q1 q2=>
   ⟨s',hA,by have:r.lo*(g.μ s).z<=(g.μ s).n*(g.μ s).z:=zp _ H.lo;rw[hmz] at *;omega,Δw⟩
  have hTi:∀b o',(∃s',(g.μ s).A=some ⟨b,s',none⟩/\s'+(g.μ s).n*z<=o'/\o'<s'+(g.μ s).C*z)->¬g.imm b o':=by
   rintro b o' ⟨s',hA,q1,q2⟩ q;exact h.ownimm s r b o' hsr (hT b s' hA o' q1 q2) q
  have hW:∀b s',(g.μ s).A=some ⟨b,s',none⟩->∀o',s'<=o'->o'<s'+(g.μ s).C*z->L2 (g.μ s) r b o':=λb s' hA o' q1 q2=>
   ⟨s',hA,by rw[hlo0,zb3];exact q1,Δw⟩
  have hnew:∀(w':World) (v':Value),(Builtin.append_ #[T,T] o.type #[.slice (g.μ s).A (g.μ s).n (g.μ s).C,a.eval y]).run X.P w = .ok (.slice (g.μ s).A ((g.μ s).n+ys.length) (g.μ s).C) w' ->
    (w'=w/\ys.length=0\/∃b s',(g.μ s).A=some ⟨b,s',none⟩/\w'=w.setCells b (s'+(g.μ s).n*z) vals)->o.wpIn (FX ρ) n X.P a w K Q:=by
   intro w' v' hrun G;have hcell:∀b o',¬(∃s',(g.μ s).A=some ⟨b,s',none⟩/\s'+(g.μ s).n*z<=o'/\o'<s'+(g.μ s).C*z)->w'.cell? ⟨b,o',none⟩=w.cell? ⟨b,o',none⟩/\w'.frozen? ⟨b,o',none⟩=w.frozen? ⟨b,o',none⟩:=by
    intro b o' q;rcases G with ⟨rfl,_⟩ | ⟨p,s',hA,rfl⟩;·exact⟨rfl,rfl⟩
    .refine⟨me p vals _ w ⟨b,o',none⟩ λq1 _=>?_,zbe p vals _ w _⟩;simp only at q1 |-;subst q1;rcases zE o' (s'+(g.μ s).n*z) with q2 | q2
     .exact .inl q2
     .right;rcases zE o' (s'+(g.μ s).n*z+vals.length) with q3 | q3
      .exfalso;refine q ⟨s',hA,q2,?_⟩;have:((g.μ s).n+ys.length)*z<=(g.μ s).C*z:=zp _ hroom;rw[un] at this;omega
      .exact q3
   have hxw:Ext w (g.imm) w' (g.imm):=⟨λ_ _ q=>q,λb o' q=>(hcell b o' λq'=>hTi b o' q' q).1,λk _ x _ hx hc=>by
    rcases G with ⟨rfl,_⟩ | ⟨p,s',hA,rfl⟩;·exact hx
    .exact (G7 p vals _ w).same k x hx (O6 hc)⟩
   have hlw:w'.heap.size=w.heap.size:=by
    rcases G with ⟨rfl,_⟩ | ⟨p,s',hA,rfl⟩;·rfl
    .exact size_setCells _ _ _ _
   have hbw:lG X.w0.heap.size X.w0 w':=by
    rcases G with ⟨rfl,_⟩ | ⟨p,s',hA,rfl⟩;·exact h.below
    .rcases m8 vals.length with q | q
     .have:vals = []:=zN q;subst this;exact h.below
     .refine eZ p ?_ vals _ w h.below;refine (h.da hsr (hT p s' hA (s'+(g.μ s).n*z) (zq _) ?_)).1;have:((g.μ s).n+ys.length)*z<=(g.μ s).C*z:=zp _ hroom;rw[un] at this;omega
   have hother:∀l' r' b o',(St.of L R).σ l'=some r'->L2 (g.μ l') r' b o'->¬L2 (g.μ s) r b o':=by
    intro l' r' b o' q ho' k;have hl':l'≠s:=λe=>by rw[e,hDs] at q;cases q
    obtain⟨r1,k1,k2⟩:=a1i h hAr q;exact h.disj l' s r1 r hl' k1 hsr b o' (k2 b o' ho') k
   have hin:∀b o',(∃s',(g.μ s).A=some ⟨b,s',none⟩/\s'+(g.μ s).n*z<=o'/\o'<s'+(g.μ s).C*z)->L2 (g.μ s) r b o':=λb o' ⟨s',hA,q1,q2⟩=>hT b s' hA o' q1 q2;have hM:=hD.move (w':=w') (imm':=g.imm) hxw (λl' r' b o' q ho'=>⟨(hcell b o' λk=>hother l' r' b o' q ho' (hin b o' k)).1,(hcell b o' λk=>hother l' r' b o' q ho' (hin b o' k)).2,hD.ownimm l' r' b o' q ho'⟩)
    (λb o' q=>by rw[hlw];exact hD.immlt b o' q) hD.immsub hbw (λk x hx hc=>by
     rcases G with ⟨rfl,_⟩ | ⟨p,s',hA,rfl⟩;·exact hx
     .exact (G7 p vals _ w).same k x hx hc) (λ_ _ _ q _ _=>q)
   have hown:∀b o',L2 ⟨(g.μ s).A,(g.μ s).n+ys.length,(g.μ s).C,z⟩ ⟨r.els++ys,0,true,z,true⟩ b o'->L2 (g.μ s) r b o':=by
    rintro b o' ⟨s',hA,q1,q2⟩;simp only[wd,zb3,zam] at q1 q2;exact hW b s' hA o' q1 q2
   have hN:=hM.row (l:=l) (m:=⟨(g.μ s).A,(g.μ s).n+ys.length,(g.μ s).C,z⟩) (r:=⟨r.els++ys,0,true,z,true⟩) hlm hDl
    ⟨ΩA,rfl,hroom,rg _,λe he=>⟨(zC.1 he).elim (λq=>(H.el e q).1) (hyel e),hel e he⟩,H.nil,H.spot,λi x j y hx hy=>?_,λb o' q=>?_⟩
    (λl' r' b o' q ho' k=>hother l' r' b o' q ho' (hown b o' k)) (λb o' q k=>h.ownimm s r b o' hsr (hown b o' q) k)
   .refine G3 hnd (eh ho (by rw[e];exact hrun)) (hK _ _ _ (hN.put hdst ?_));exact fL (l:=l) (m:=⟨(g.μ s).A,(g.μ s).n+ys.length,(g.μ s).C,z⟩) ⟨_,s7 _ _ _⟩ (s7 _ _ _)
   .simp only at hx |-;have hi:=D4 hx;simp at hi;have hxz:x.cells.length=z:=hel x (zh hx);have hj:=PV.F1 hy;rcases zE i r.els.length with q | q
    .rw[zU q] at hx;obtain⟨b,s',u,k1,k2,k3,k4,k5⟩:=H.cell i x j y hx hy;rw[hmz] at k2;have hzz':(i+1)*z<=(g.μ s).n*z:=zp _ Δ;rw[un,za7] at hzz';refine⟨b,s',u,k1,?_,.cl ((k5 hcl).mono hxw),λq'=>absurd q' (zco _),λ_=>(k5 hcl).mono hxw⟩;rw[(hcell b _ ?_).1];· exact k2
     rintro⟨s2,hA2,q1,q2⟩;rw[k1] at hA2;cases hA2;omega
    .rw[zK q] at hx;have hm:0<ys.length:=by omega
     rcases G with ⟨_,q0⟩ | ⟨p,s',hA,rfl⟩;·omega
     .have e1:(i-r.els.length)*z=i*z-r.els.length*z:=Nat.sub_mul _ _ _;have e2:r.els.length*z<=i*z:=zp _ q;have e3:(i-r.els.length+1)*z<=ys.length*z:=zp _ Δ;rw[un,za7] at e3;have hlt:(i-r.els.length)*z+j<vals.length:=by omega
      have hu':=zd hlt;have hrd:=hvr _ x j y _ hx hy hu';have hin2:=zad p vals (s'+(g.μ s).n*z) w (λj' hj'=>(H.own p _ (hT p s' hA _ Δ (by
       have:((g.μ s).n+ys.length)*z<=(g.μ s).C*z:=zp _ hroom;rw[un] at this;omega))).2.1) _ hlt
      rw[show s'+(g.μ s).n*z+((i-r.els.length)*z+j)=s'+i*z+j by rw[hn];omega] at hin2;exact⟨p,s',_,hA,hin2,.cl ((hrd.2 rfl).mono hxw),λq'=>absurd q' (zco _),λ_=>(hrd.2 rfl).mono hxw⟩
   .obtain⟨s',hA,q1,q2⟩:=q;simp only[wd,zb3,zam] at q1 q2;obtain⟨k1,k2,k3⟩:=H.own b o' (hW b s' hA o' q1 q2);refine⟨k1,?_,?_⟩
    .rcases G with ⟨rfl,_⟩ | ⟨p,s2,hA2,rfl⟩;·exact k2
     .rw[hA] at hA2;cases hA2;by_cases q3:s'+(g.μ s).n*z<=o'/\o'<s'+(g.μ s).n*z+vals.length
      .have:=zad b vals (s'+(g.μ s).n*z) w (λj' hj'=>(H.own b _ (hT b s' hA _ Δ (by
        have:((g.μ s).n+ys.length)*z<=(g.μ s).C*z:=zp _ hroom;rw[un] at this;omega))).2.1) (o'-(s'+(g.μ s).n*z)) Δ
       rw[show s'+(g.μ s).n*z+(o'-(s'+(g.μ s).n*z))=o' by omega] at this;rw[this];rfl
      .rw[me b vals _ w ⟨b,o',none⟩ λ_ _=>Ωg];exact k2
    .rcases G with ⟨rfl,_⟩ | ⟨p,s2,hA2,rfl⟩;·exact k3
     .rw[zbe];exact k3
  rcases m8 ys.length with hm | hm
  .refine hnew w undef ?_ (.inl ⟨rfl,hm⟩);rw[eB,hm];exact pk hE hz H.C
  .obtain⟨bB,sB,rfl,hBc⟩:=hvc hm;obtain⟨b,s',hA⟩:=H.spot Δ;refine hnew _ undef ?_ (.inr ⟨b,s',hA,rfl⟩);rw[eB,hA];refine nw hE hz hroom hlv (λj u hj=>ΩC) hone λj hj=>(H.own b _ (hT b s' hA _ Δ (by
    have:((g.μ s).n+ys.length)*z<=(g.μ s).C*z:=zp _ hroom;rw[un] at this;omega))).2
end
section
open Go
variable{P:Program}{F:Fence}{n:Nat}{b:Frame}{a:Act}{k:List Item}{cs:List Frame}{w:World}
theorem cm{c:Code}:step P (lone (b.atR a (.code (.scope c)::k)) cs w) = .next (lone (b.atR a (.code c :: .inScope c::k)) cs w):=
 step_lone_go (by simp[stepG,stepG.exec,Frame.atR])
theorem tF{c:Code}:step P (lone (b.atR a (.inScope c::k)) cs w) = .next (lone (b.atR a k) cs w):=
 step_lone_go (by simp[stepG,stepG.exec,Frame.atR])
theorem MO{c:Code}{Q:Exit->Act->World->Prop}(y:∀l a w,¬Q (.goto l) a w)(h:c.wpIn F n P Q a w):(Code.scope c).wpIn F n P Q a w:=by
 intro b k cs p hb hr;have h0:(lone (b.atR a (.code (.scope c)::k)) cs w).fenced P F:=zcl hb hr rfl;obtain⟨e,a₁,w₁,m,j⟩:=h b (.inScope c::k) cs p hb hr;cases e with
 | normal=>exact⟨.normal,a₁,w₁,m,.head h0 cm (StepsIn.trans j (.one (zcl hb hr rfl) tF))⟩
 | exit id=>
  have hx:exitTo id (.inScope c::k)=exitTo id k:=by simp[exitTo]
  exact⟨.exit id,a₁,w₁,m,λk' hk=>.head h0 cm (j.1 k' Δb),
   λo hk=>let ⟨k₁,q,u⟩:=j.2 o Δb;⟨k₁,q,.head h0 cm u⟩⟩
 | goto l=>exact absurd m (y l _ _)
 | ret=>exact⟨_,a₁,w₁,m,.of_steps (.one h0 cm) j⟩
 | panic ch=>exact⟨_,a₁,w₁,m,.of_steps (.one h0 cm) j⟩
 | outgrown=>exact⟨_,a₁,w₁,m,.of_steps (.one h0 cm) j⟩
end
def MA(Q:PX->Ctx->St->Prop):PX->Ctx->St->Prop
 | .goto _,_,_=>False
 | e,X,s=>Q e X s
theorem DG{Q:PX->Ctx->St->Prop}{X:Ctx}{s:St}(h:Q .normal X s):MA Q .normal X s:=h
theorem Cg{X:Ctx}{Q:PX->Ctx->St->Prop}{st:St}{c:Code}(h:Z2 X c (MA Q) st):Z2 X (.scope c) Q st:=λn g a w hs=>by
 refine zbx (MO (Q:=lift X (MA Q)) (λl u w' q=>?_) (h n g a w hs)) λe u w' q=>?_;·obtain⟨_,_,_,_,_,q⟩:=q;exact q
 .cases e <;> simp only[lift] at q |- <;> first | exact q | (obtain⟨X',m,st',o,p,j⟩:=q;exact⟨X',m,st',o,p,j⟩) | (obtain⟨X',m,st',o,p,j⟩:=q;exact absurd j id)
def FvR(e:Option Nat):World->(Nat->Nat->Prop)->Value->Prop:=λ_ _ v=>v=match e with
 | none=>.nilFunc
 | some n=>.func (.func n) #[] #[]
abbrev uU(e:Option Nat):PV:=.abs (FvR e)
def PV.Ia:PV->PV
 | .fn (.func n) []=>uU (some n)
 | .nilfn=>uU none
 | d=>d
def PV.fv1:PV->PV
 | .agg cs=>.agg (cs.map PV.Ia)
 | d=>d.Ia
theorem PV.a0B{d:PV}(h:d.sc=true):d.Ia.sc=true:=by
 unfold PV.Ia;split <;> first | rfl | exact h
theorem Rd0.Ia{w:World}{imm:Nat->Nat->Prop}{v:Value}{d:PV}(h:Rd0 w imm v d):Rd0 w imm v d.Ia:=by
 unfold PV.Ia;split
 .cases h with
  | fn f vs cap hn _=>
   obtain rfl:vs = #[]:=Array.eq_empty_of_size_eq_zero (Ω hn);exact .abs _ _ rfl λ_ _ _=>rfl
 .cases h;exact .abs _ _ rfl λ_ _ _=>rfl
 .exact h
theorem Rd.Ia{w:World}{imm:Nat->Nat->Prop}{μ:Nat->L7}{u3:Nat->Prop}{v:Value}{d:PV}(h:Rd w imm μ u3 v d):Rd w imm μ u3 v d.Ia:=by
 unfold PV.Ia;split;·exact .cl (h.aP rfl).Ia
 .exact .cl (h.aP rfl).Ia
 .exact h
theorem Rd.fv1{w:World}{imm:Nat->Nat->Prop}{μ:Nat->L7}{u3:Nat->Prop}{v:Value}{d:PV}(h:Rd w imm μ u3 v d):Rd w imm μ u3 v d.fv1:=by
 by_cases e:∃cs,d = .agg cs
 .obtain⟨cs,rfl⟩:=e;obtain⟨vs,rfl,hn,hk⟩:=h.jd;have hsc:=h.FD;refine .agg vs _ (zf.2 λc hc=>?_) (Ω hn) λi v c hv hc=>?_
  .obtain⟨c0,h0,rfl⟩:=zP.1 hc;exact PV.a0B (zf.1 hsc c0 h0)
  .obtain⟨c0,k1,rfl⟩:=fA hc;exact (hk i v c0 hv k1).Ia
 .have:d.fv1=d.Ia:=by cases d <;> first | rfl | exact absurd ⟨_,rfl⟩ e
  rw[this];exact h.Ia
theorem HU{s:St}(t:Nat){d d':PV}(ht:s.env t=d)(hd:∀w imm μ u3 v,Rd w imm μ u3 v d->Rd w imm μ u3 v d'):Wk s ⟨z7 s.env t d',s.σ⟩:=λX g a w h=>by
 refine⟨g,⟨h.size,λi=>?_,h.rows,h.disj,h.ownimm,h.immlt,h.immsub,h.immsup,h.below,h.marks,h.obs,h.big,h.maps⟩⟩;by_cases q:i=t
 .subst q;rw[show (St.mk (z7 s.env i d') s.σ).env i=d' from s7 _ _ _];exact hd _ _ _ _ _ (by rw[<-ht];exact h.env i)
 .rw[show (St.mk (z7 s.env t d') s.σ).env i=s.env i from r8 _ _ q];exact h.env i
theorem pW{s:St}(t:Nat){d':PV}(h:(s.env t).fv1=d'):Wk s ⟨z7 s.env t d',s.σ⟩:=by
 subst h;exact HU t rfl λ_ _ _ _ _ q=>q.fv1
theorem Zy{s:St}(t:Nat){e:Option Nat}{n:Nat}(ht:s.env t=uU e)(he:e=some n):Wk s ⟨z7 s.env t (.fn (.func n) []),s.σ⟩:=by
 subst he;refine HU t ht λw imm μ u3 v q=>?_;have:=q.As;unfold FvR at this;rw[this];exact .cl (.fn _ #[] [] rfl λi v c _ hc=>Ωj)
section
variable{X:Ctx}{ops:Array Oper}{i:Nat}{os:List Oper}{K:Ctx->St->Prop}{env:Nat->PV}{σ:Nat->Option Row}{ty:TypeId}{pos:String}{after:Array Edge}{gd:Option (Nat × Bool)}{t:Tmp}{KT VT:Type}[BEq KT]{EK:KT->PV}{E:VT->PV}
theorem mf{op:Op}{T kt et:TypeId}{x y u:Operand}{l lo z:Nat}{opn:Bool}{es:List (KT × VT)}{k:KT}{v:VT}(e:op = .mapUpdate T x y u\/op = .insert T x y u)(hw:D9 ops env ⟨none,op,ty,pos,after,gd⟩=some true)(hx:B6 env x = .mp l)
  (hl:σ l=some ⟨[.mapc (es.map (jg EK E))],lo,opn,z,false⟩)(hy:B6 env y=EK k)(hu:(B6 env u).fv1=E v)(hE:(E v).iD=true)(hT:sV X.P T=some (kt,et))(j:yM X.P kt EK)
  (kk:Sq X ops (i+1) os K ⟨env,z7 σ l (some ⟨[.mapc ((Go.Sh.r7 es k v).map (jg EK E))],lo,opn,z,false⟩)⟩):Sq X ops i (⟨none,op,ty,pos,after,gd⟩::os) K ⟨env,σ⟩:=Vo e hw hx hl hy (λ_ _ _ _ _ q=>hu▸q.fv1) hE hT j kk
end
section
variable{P:Program}{σ:Nat->Option Row}{ρ:Operand->PV}{dst:Option Tmp}{KT VT:Type}[BEq KT]{EK:KT->PV}{E:VT->PV}
theorem a3e{T kt et:TypeId}{x y:Operand}{ok:Bool}{es:List (KT × VT)}{k:KT}{zv:Value}{d z0:PV}(hx:ρ x = .abs (aa (es.map (jg EK E))))(hy:ρ y=EK k)(hT:sV P T=some (kt,et))(j:yM P kt EK)(hz:B1 P et=some zv)
  (e:(PV.kG zv).Ia=z0)(hd:(Zg E (Go.Sh.C0 es k) z0 ok)=d):E6 P σ ρ dst (.lookup T x y ok) d .none:=TD (W:=PV.Ia) (λq=>q.Ia) hx hy hT j hz e hd
end
end Go.Pw
namespace Go.Pw
theorem nl{a b:Nat}(h:Nat.ble a b=true:=by rfl):a<=b:=zF h
variable {σ:Nat->Option Row}{r:Row}{P:Program}{ρ:Operand->PV}{dst:Option Tmp}{x:Operand}{T:TypeId}{f i:Nat}
theorem rS{R:List (Nat × Row)}{l:Nat}{r':Row}(h:σ l=some r:=by rfl)(hz:r.z=r'.z:=by rfl)(hl:r.lo=r'.lo:=by rfl)(ho:r'.opn=true->r.opn=true:=by first | exact λ_=>rfl | exact λq=>nomatch q)(hc:r.cl=true:=by rfl)(he:r.els=r'.els:=by rfl)(e:r'.cl=true:=by rfl)(hm:Zo l l r.cl r'.cl=true:=by rfl):kM id R σ (l,r'):=Mx h hz hl ho hc he e hm
theorem rN{π:Nat->Nat}{R:List (Nat × Row)}{l:Nat}{r':Row}(h:σ (π l)=some r:=by rfl)(hz:r.z=r'.z:=by rfl)(hl:r.lo=r'.lo:=by rfl)(ho:r'.opn=true->r.opn=true:=by first | exact λ_=>rfl | exact λq=>nomatch q)(hc:r.cl=true:=by rfl)(he:r.els=r'.els:=by rfl)(e:r'.cl=true:=by rfl)(hm:Zo l (π l) r.cl r'.cl=true:=by rfl):kM π R σ (l,r'):=QA h hz hl ho hc he e hm
theorem io{p q:Prop}(h:p\/q:=by first | exact .inl rfl | exact .inr rfl):p\/q:=h
theorem J{α:Sort _}{a:α}:a=a:=rfl
abbrev PV.I(x:Int):PV:=.int .i64 x
abbrev _root_.Go.Value.I(x:Int):Value:=.int .i64 x
abbrev O:Int->PV:=PV.int .i64
abbrev PV.L{α:Type}(f:α->PV)(l:List α):PV:=.H4 false (List.map f l)
theorem oj{α:Type}{a b:α}(h:some a=some b):a=b:=t8 h
theorem om{d:PV}(h:ρ x=d):E6 P σ ρ dst (.move x) d .none:=LN h
theorem mI{n:Int}(h:ρ x = .int .i64 n):E6 P σ ρ dst (.move x) (.int .i64 n) .none:=LN h
theorem mB{n:Bool}(h:ρ x = .bool n):E6 P σ ρ dst (.move x) (.bool n) .none:=LN h
theorem kC{f:FuncId}{fn:Func}{c:Code}(h:P.funcs[f]? = some fn)(hb:fn.body=some c)(hn:fn.name ≠ "runtime.NumGoroutine" := by decide):B0 P f:=⟨fn,c,h,hb,hn⟩
theorem tr:True:=trivial
theorem oF{l q off k:Nat}{ft:TypeId}(hx:ρ x = .ptr l i q)(ho:U5 P T f=some (off,ft))(hk:q+off=k):E6 P σ ρ dst (.fieldAddr T x f) (.ptr l i k) .none:=Gz hx ho hk
theorem oS{l:Nat}{y d:PV}(hx:ρ x = .ptr l i f)(hl:σ l=some r)(hy:r.els[i]? = some y)(ha:I4 P T=some false)(hd:y.cells[f]? = some d):E6 P σ ρ dst (.load T x) d .none:=AK hx hl hy ha hd
theorem oL{l n:Nat}{y:PV}{cs:List PV}(hx:ρ x = .ptr l i f)(hl:σ l=some r)(hy:r.els[i]? = some y)(ha:I4 P T=some true)(hs:w9 P T=some n)(hf:f+n<=y.cells.length)(hd:(y.cells.drop f).take n=cs):E6 P σ ρ dst (.load T x) (.agg cs) .none:=GB hx hl hy ha hs hf hd
section
variable{X:Ctx}{Q:PX->Ctx->St->Prop}{st:St}
theorem yN{ops:Array Oper}{i:Nat}{K:Ctx->St->Prop}(h:K X st):Sq X ops i [] K st:=a3B h
theorem s1{id:Nat}{l:List Oper}(h:Sq X l.toArray 0 l (Q .normal) st)(hd:hZ X.N l.toArray=true:=by kernel_rfl):Z2 X (.region id l.toArray false) Q st:=Zt hd h
theorem sR{id:Nat}{l:List Oper}{y:Code}(h:Sq X l.toArray 0 l (λX' s=>Z2 X' y Q s) st)(hd:hZ X.N l.toArray=true:=by kernel_rfl):Z2 X (.seq (.region id l.toArray false) y) Q st:=sr hd h
end
theorem Z{α β:Type}{x:Option α}{f:α->Option β}{r:β}{C:Prop}(h:x.bind f=some r)(k:∀v,x=some v->f v=some r->C):C:=by
 cases x with
 | none=>cases h
 | some v=>exact k v rfl h
section
variable{X:Ctx}{ops:Array Oper}{i:Nat}{os:List Oper}{K:Ctx->St->Prop}{env:Nat->PV}{σ:Nat->Option Row}{ty:TypeId}{pos:String}{after:Array Edge}{gd:Option (Nat × Bool)}{t:Tmp}
theorem yS{T:TypeId}{x:Operand}{l j f:Nat}{r:Row}{y d:PV}(hw:D9 ops env ⟨some t,.load T x,ty,pos,after,gd⟩=some true)(hx:B6 env x = .ptr l j f)(hl:σ l=some r)(hy:r.els[j]? = some y)(ha:I4 X.P T=some false)(hd:y.cells[f]? = some d)(k:Sq X ops (i+1) os K ⟨z7 env t d,σ⟩):Sq X ops i (⟨some t,.load T x,ty,pos,after,gd⟩::os) K ⟨env,σ⟩:=y0 hw (AK hx hl hy ha hd) k
end
open Go.RowKit
def YI(f:FuncId)(ds:List PV)(w:World)(imm:Nat->Nat->Prop)(v:Value):Prop:=∃e:Array Value,v = .func (.func f) e #[]/\Ig w imm e ds
variable {w:World}{imm:Nat->Nat->Prop}{ds:List PV}
theorem Ig.mono{w':World}{imm':Nat->Nat->Prop}(he:Ext w imm w' imm'){vs:Array Value}(h:Ig w imm vs ds):Ig w' imm' vs ds:=⟨h.1,λi v d hv hd=>(h.2 i v d hv hd).mono he⟩
theorem Ig.append{vs us:Array Value}{es:List PV}(h:Ig w imm vs ds)(k:Ig w imm us es):Ig w imm (vs++us) (ds++es):=by
 refine⟨by simp[h.1,k.1],λi v d hv hd=>?_⟩;rcases zE i vs.size with q | q
 .rw[ms q] at hv;rw[zU (by rw[<-h.1];exact q)] at hd;exact h.2 i v d hv hd
 .rw[zai q] at hv;rw[zK (by rw[<-h.1];exact q),<-h.1] at hd;exact k.2 _ v d hv hd
theorem a1C{v:Value}{f:FuncId}(h:YI f ds w imm v):Rd0 w imm v (.abs (YI f ds)):=by
 obtain⟨e,rfl,h⟩:=h;exact .abs _ _ rfl λw' imm' he=>⟨e,rfl,h.mono he⟩
theorem xz{P:Program}{σ:Nat->Option Row}{ρ:Operand->PV}{dst:Option Tmp}{f:FuncId}{x:Operand}{d:PV}(hx:ρ x=d)(hc:d.iD=true:=by rfl):E6 P σ ρ dst (.makeFunc (.func f) #[x] #[]) (.abs (YI f [d])) .none:=by
 refine .pureV _ _ (λ_=>nofun) (λ_ _=>nofun) λo w imm μ u3 ev ho hr=>?_;have j:=hr x Ωb;rw[hx] at j;refine⟨.func (.func f) #[ev x] #[],by simp[execOp,ho,Instr.makeFunc],.cl (a1C ⟨#[ev x],rfl,rfl,λi v e hv he=>?_⟩)⟩;match i with
 | 0=>
  simp at hv he;subst hv he;exact j.iD hc
 | i+1=>simp at he
section
variable{X:Ctx}{g:Gh}{st:St}{a:Act}{w:World}{n:Nat}{K:Act->World->Prop}{Q:Exit->Act->World->Prop}{ρ:Option Nat}{P:Program}
theorem Lm{o:Oper}{x:Operand}{args:Array Operand}{ts:Array TypeId}{f:FuncId}{j:Array Value}(ho:o.op = .call { callee:=.value x,args,argTypes:=ts })(hx:a.eval x = .func (.func f) j #[])
  (hb:∃fn c,P.funcs[f]? = some fn/\fn.body=some c/\fn.name ≠ "runtime.NumGoroutine"):(execOp a.eval o).run P w = .ok (.enter f (j++args.map a.eval)) w:=by
 obtain⟨fn,c,m,p,q⟩:=hb;obtain⟨dst,op,ty,pos,after,guard⟩:=o;simp only at ho;subst ho;have e:(fn.name == "runtime.NumGoroutine")=false:=Ω q
 simp only[execOp,resolve,hx,Deferred.ofValue,zt,or,zi,invoke,callFunc,program,Sem.run,m,e,p];simp
theorem TI{o:Oper}{x:Operand}{args:Array Operand}{ts:Array TypeId}{f:FuncId}{G vs:List PV}{d:PV}(h:D1 X g st a w)(ho:o.op = .call { callee:=.value x,args,argTypes:=ts })
  (m:∀t,o.dst=some t->t<X.N)(hf:B6 st.env x = .abs (YI f G))(hb:∃fn c,X.P.funcs[f]? = some fn/\fn.body=some c/\fn.name ≠ "runtime.NumGoroutine")
  (hok:(args.toList.map (B6 st.env)).all (PV.nI st.σ)=true)(hv:(args.toList.map (B6 st.env)).map (PV.vw st.σ)=vs)(A:(args.toList.map (B6 st.env)).flatMap (PV.P1 st.σ) = [])(hc:S0 X.P f (G++vs) d)
  (hK:∀g' C w',D1 X g' ⟨V1 st.env o.dst d,st.σ⟩ C w'->K C w'):o.wpIn (FX ρ) n X.P a w K Q:=by
 subst hv;have hx:=h.eval x;rw[hf] at hx;obtain⟨ws,e,B⟩:=hx.As;obtain⟨y,p⟩:=Au h (args:=args) (vs:=#[]) (cap:=[]) rfl (λi v c hv hd=>by simp at hd);simp only[t6,Array.append_empty] at y p;obtain⟨imm2,hF,H,hSh⟩:=h.T0 [];have hargs:=(nH h (H7.refl _) H y p hok (λl hl r hr=>by rw[A] at hl;cases hl)).w2;refine cu (λc=>Ωi) (Lm ho e hb) ((hc w imm2 _ hF.immlt h.gt ((B.mono H).append hargs)).mono λev w' hr=>?_);obtain⟨v,rfl,j,u⟩:=hr;refine⟨v,rfl,?_⟩;have hS:=hF.called j (λ_ _=>True);refine hK _ _ _ (hS.put m (.cl (u.mono ⟨λb o q=>?_,λ_ _ _=>rfl,λ_ _ _ _ q _=>q⟩)));rcases q with q | ⟨q1,q2⟩
 .exact .inl q
 .exact .inr ⟨trivial,q1,q2⟩
end
section
variable{X:Ctx}{ops:Array Oper}{i:Nat}{os:List Oper}{K:Ctx->St->Prop}{env:Nat->PV}{σ:Nat->Option Row}{ty:TypeId}{pos:String}{after:Array Edge}{gd:Option (Nat × Bool)}{t:Tmp}
theorem HV{x:Operand}{args:Array Operand}{ts:Array TypeId}{f:FuncId}{j xs vs:List PV}{d:PV}(hw:D9 ops env ⟨some t,.call { callee:=.value x,args,argTypes:=ts },ty,pos,after,gd⟩=some true)(hx:B6 env x = .abs (YI f j))(hk:B0 X.P f)
  (ha:args.toList.map (B6 env)=xs)(h:S0 X.P f (j++vs) d)(k:Sq X ops (i+1) os K ⟨z7 env t d,σ⟩)(hok:xs.all (PV.nI σ)=true:=by rfl)(hv:xs.map (PV.vw σ)=vs:=by rfl)(e:xs.flatMap (PV.P1 σ) = []:=by rfl) :
  Sq X ops i (⟨some t,.call { callee:=.value x,args,argTypes:=ts },ty,pos,after,gd⟩::os) K ⟨env,σ⟩:=M9 λho=>by
 subst ha;intro hd n g a w next Qo hs p;unfold wpOpIn;rw[ho];simp only;rw[zc (W3 hs hw)];exact TI hs rfl (I7 hd ho) hx hk hok hv e h λo m w' h'=>p X o _ m w' h' ⟨⟨rfl,rfl⟩,rfl⟩ k
end
end Go.Pw
namespace Go.Pw
section
variable{F:Fence}{n:Nat}{P:Program}{Q:Exit->Act->World->Prop}{a:Act}{w:World}
def Sa(l:Nat)(J:Act->World->Prop)(Q:Exit->Act->World->Prop):Exit->Act->World->Prop
 | .goto l',a,w=>l'=l/\J a w
 | e,a,w=>Q e a w
theorem Dd{l:Nat}{c:Code}(I:Act->World->Prop)(μ:Act->World->Nat)(h₀:I a w)
  (round:∀a w,I a w->c.wpIn F n P (Sa l (λp w'=>I p w'/\μ p w'<μ a w) Q) a w):(Code.scope (.seq (.label l) c)).wpIn F n P Q a w:=by
 intro b k cs y hb hr;have A:∀k,gotoIn l (.inScope (.seq (.label l) c)::k)=some (.code (.seq .skip c) :: .inScope (.seq (.label l) c)::k):=λk=>by simp[gotoIn,findLabel]
 have key:∀j a w,μ a w=j->I a w ->
   ∃e p w',Q e p w'/\ArrivesIn (Machine.fenced P F) P (lone (b.atR a (.code c :: .inScope (.seq (.label l) c)::k)) cs w) b k cs e p w':=by
  intro j;induction j using Nat.strongRecOn with
  | _ j ih=>
   intro a w hn h;obtain⟨e,a₁,w₁,o,m⟩:=round a w h b (.inScope (.seq (.label l) c)::k) cs y hb hr;cases e with
   | normal=>exact⟨.normal,a₁,w₁,o,StepsIn.trans m (.one (zcl hb hr rfl) tF)⟩
   | exit id=>
    have hx:exitTo id (.inScope (.seq (.label l) c)::k)=exitTo id k:=by simp[exitTo]
    exact⟨.exit id,a₁,w₁,o,λk' hk=>m.1 k' Δb,λu hk=>m.2 u Δb⟩
   | goto l'=>
    obtain⟨rfl,hI₁,q⟩:=o;obtain⟨e₂,a₂,w₂,hq₂,harr₂⟩:=ih (μ a₁ w₁) (hn▸q) a₁ w₁ rfl hI₁;exact⟨e₂,a₂,w₂,hq₂,.of_steps (StepsIn.trans (m.1 _ (A k)) (.head (zcl hb hr rfl) stepR_seq (.one (zcl hb hr rfl) stepR_skip))) harr₂⟩
   | ret=>exact⟨_,a₁,w₁,o,m⟩
   | panic ch=>exact⟨_,a₁,w₁,o,m⟩
   | outgrown=>exact⟨_,a₁,w₁,o,m⟩
 obtain⟨e,p,w',o,m⟩:=key _ a w rfl h₀;exact⟨e,p,w',o,.of_steps (.head (zcl hb hr rfl) cm (.head (zcl hb hr rfl) stepR_seq (.one (zcl hb hr rfl) stepR_label))) m⟩
end
def IP(l:Nat)(K:Ctx->St->Prop)(Q:PX->Ctx->St->Prop):PX->Ctx->St->Prop
 | .goto l',X,s=>l'=l/\K X s
 | e,X,s=>Q e X s
section
variable{X:Ctx}{Q:PX->Ctx->St->Prop}{st:St}
open Go.Sh
theorem a3k{S E:Type}{f:S->Option (S ⊕ E)}{s0:S}{e:E}{l:Nat}{c:Code}(I:S->Ctx->St->Prop)(h:lp f s0=some e)(h0:∃o,Wk st o/\I s0 X o)(hX:∀s X1 s1,I s X1 s1->X1.P=X.P/\X1.ρ=X.ρ)
  (hr:∀s X1 s1,I s X1 s1->∀x,f s=some x->(∀p,x = .inr p->p=e)->Z2 X1 c (IP l (λX' s'=>∃s2,x = .inl s2/\∃s'',Wk s' s''/\I s2 X' s'') Q) s1):Z2 X (.scope (.seq (.label l) c)) Q st:=by
 intro n g a w hs;let J:Nat->Act->World->Prop:=λm a w=>∃s X1 u s1,D1 X1 u s1 a w/\I s X1 s1/\Td f m s=some e
 have least:∀a w,∃k,(∃m,J m a w)->J k a w/\∀m,J m a w->k<=m:=by
  intro a w;by_cases q:∃m,J m a w
  .obtain⟨k,C,H⟩:=exists_least q;exact⟨k,λ_=>⟨C,H⟩⟩
  .exact⟨0,λh=>absurd h q⟩
 obtain⟨o,hw1,N⟩:=h0;obtain⟨u,hs1⟩:=hw1 X g a w hs;refine Dd (λa w=>∃m,J m a w) (λa w=>Classical.choose (least a w)) ⟨_,s0,X,u,o,hs1,N,by rw[<-IU];exact h⟩ ?_;rintro a w hI;obtain⟨⟨s,X1,u,s1,k1,k2,j⟩,_⟩:=za1 (least a w) hI;generalize hm:Classical.choose (least a w)=m at j |-;obtain⟨hP,A⟩:=hX s X1 s1 k2;cases m with
 | zero=>rw[BP] at j;cases j
 | succ m=>
  rw[mH] at j;cases hf:f s with
  | none=>rw[hf] at j;cases j
  | some x=>
   have hx:∀p,x = .inr p->p=e:=λp q=>by
    rw[hf,q] at j;exact t8 j
   have:=hr s X1 s1 k2 x hf hx n u a w k1;rw[hP,A] at this;refine zbx this λex B w' q=>?_;rw[vk ⟨hP,A⟩] at q;cases ex <;> simp only[lift,IP,Sa] at q |- <;> first | exact q | skip
   obtain⟨X',g',st',C,_,hl,s2,hx2,s'',hw2,H⟩:=q;obtain⟨g2,G⟩:=hw2 X' g' B w' C;have hJ:J m B w':=⟨s2,X',g2,s'',G,H,by rw[hf,hx2] at j;exact j⟩;have y:∃m,J m B w':=⟨m,hJ⟩;exact⟨hl,y,Nat.lt_succ_of_le ((za1 (least B w') y).2 m hJ)⟩
theorem a1v{S E:Type}{f:S->Option (S ⊕ E)}{s0:S}{e:E}{l:Nat}{c:Code}(F:S->St)(h:lp f s0=some e)(h0:Wk st (F s0))
  (hr:∀s x,f s=some x->(∀j,x = .inr j->j=e)->Z2 X c (IP l (λX' s'=>X'=X/\∃s2,x = .inl s2/\Wk s' (F s2)) Q) (F s)):Z2 X (.scope (.seq (.label l) c)) Q st:=
 a3k (λs X1 s1=>X1=X/\s1=F s) h ⟨_,h0,rfl,rfl⟩ (λs X1 s1 q=>by rw[q.1];exact⟨rfl,rfl⟩) (by
  rintro s _ _ ⟨rfl,rfl⟩ x hf hx;refine (hr s x hf hx).mono λex X' s' q=>?_;cases ex <;> simp only[IP] at q |- <;> first | exact q | (
   obtain⟨hl,m,s2,o,p⟩:=q;exact⟨hl,s2,o,_,p,m,rfl⟩))
end
open Go.RowKit Go.Instr
section
variable{P:Program}{w:World}{imm:Nat->Nat->Prop}
end
end Go.Pw
namespace Go.Pw
open Go.RowKit
structure TB where
 f:List ((Nat × Nat) × (Nat × Nat))
 a:List (Nat × Bool)
 s:List (Nat × Nat)
 z:List (Nat × PV)
structure TB.Ok (P:Program) (b:TB):Prop where
 f:b.f.map (λp=>U5 P p.1.1 p.1.2)=b.f.map (λp=>some p.2)
 a:b.a.map (λp=>I4 P p.1)=b.a.map (λp=>some p.2)
 s:b.s.map (λp=>w9 P p.1)=b.s.map (λp=>some p.2)
 z:b.z.map (λp=>(B1 P p.1).map PV.kG)=b.z.map (λp=>some p.2)
def tk{α:Type}(k:Nat):List (Nat × α)->Option α
 | []=>none
 | p::l=>match Nat.beq p.1 k with
  | true=>some p.2
  | false=>tk k l
def Zv{α:Type}(k m:Nat):List ((Nat × Nat) × α)->Option α
 | []=>none
 | p::l=>match Nat.beq p.1.1 k with
  | true=>match Nat.beq p.1.2 m with
   | true=>some p.2
   | false=>Zv k m l
  | false=>Zv k m l
theorem HN{α:Type}{k:Nat}{x:α}:∀ {l:List (Nat × α)},tk k l=some x->(k,x)∈l
 | [],h=>by cases h
 | p::l,h=>by
  unfold tk at h;split at h
  .rename_i q;have:=za2 q;cases h;subst this;exact zm ..
  .exact zx _ (HN h)
theorem HM{α:Type}{k m:Nat}{x:α}:∀ {l:List ((Nat × Nat) × α)},Zv k m l=some x->((k,m),x)∈l
 | [],h=>by cases h
 | p::l,h=>by
  unfold Zv at h;split at h
  .rename_i q;have e:=za2 q;split at h
   .rename_i q;have j:=za2 q;cases h;subst e;subst j;exact zm ..
   .exact zx _ (HM h)
  .exact zx _ (HM h)
section
variable{P:Program}{b:TB}
theorem TB.Ok.fo(h:b.Ok P){T f:Nat}{p:Nat × Nat}(e:Zv T f b.f=some p):U5 P T f=some p:=List.map_inj_left.1 h.f _ (HM e)
theorem TB.Ok.ag(h:b.Ok P){T:Nat}{p:Bool}(e:tk T b.a=some p):I4 P T=some p:=List.map_inj_left.1 h.a _ (HN e)
theorem TB.Ok.si(h:b.Ok P){T:Nat}{p:Nat}(e:tk T b.s=some p):w9 P T=some p:=List.map_inj_left.1 h.s _ (HN e)
theorem TB.Ok.ze(h:b.Ok P){T:Nat}{p:PV}(e:tk T b.z=some p):(B1 P T).map PV.kG=some p:=List.map_inj_left.1 h.z _ (HN e)
end
def fc1{β:Type}(d:PV)(k:PV->Option β):Option β:=
 match d with
 | .bool b=>k (.bool b)
 | .int i n=>k (.int i n)
 | .str s=>k (.str s)
 | .agg cs=>k (.agg cs)
 | .tup vs=>k (.tup vs)
 | .H4 t xs=>k (.H4 t xs)
 | .sl l=>k (.sl l)
 | .mp l=>k (.mp l)
 | .mapc es=>k (.mapc es)
 | .ptr l i f=>k (.ptr l i f)
 | .rptr cs=>k (.rptr cs)
 | .fn f cap=>k (.fn f cap)
 | .nilfn=>k .nilfn
 | .abs R=>k (.abs R)
 | .junk=>k .junk
theorem Sc{β:Type}(d:PV)(k:PV->Option β):fc1 d k=k d:=by cases d <;> rfl
def fcL{β:Type}:List PV->(List PV->Option β)->Option β
 | [],k=>k []
 | x::xs,k=>fc1 x λx=>fcL xs λxs=>k (x::xs)
theorem Sd{β:Type}:∀(xs:List PV) (k:List PV->Option β),fcL xs k=k xs
 | [],k=>rfl
 | x::xs,k=>by
  unfold fcL;rw[Sc,Sd xs]
def fc{β:Type}(d:PV)(k:PV->Option β):Option β:=
 fc1 d λd=>match d with
 | .agg cs=>fcL cs λcs=>k (.agg cs)
 | d=>k d
theorem Bu{β:Type}(d:PV)(k:PV->Option β):fc d k=k d:=by
 unfold fc;rw[Sc];cases d <;> first | rfl | exact Sd _ _
def fcB{β:Type}(d:Bool)(k:Bool->Option β):Option β:=
 match d with
 | true=>k true
 | false=>k false
theorem Lo{β:Type}(d:Bool)(k:Bool->Option β):fcB d k=k d:=by cases d <;> rfl
def tp(b:TB)(env:Nat->PV)(σ:Nat->Option Row):Op->Option PV
 | .move x=>some (B6 env x)
 | .assign x=>some (B6 env x)
 | .fieldAddr T x f=>match B6 env x with
  | .ptr l i q=>match Zv T f b.f with
   | some p=>some (.ptr l i (q+p.1))
   | none=>none
  | .rptr cs=>match Zv T f b.f with
   | some p=>some (.rptr (cs.drop p.1))
   | none=>none
  | _=>none
 | .field T x f=>match B6 env x with
  | .agg cs=>match Zv T f b.f with
   | some p=>match tk p.2 b.a with
    | some false=>cs[p.1]?
    | some true=>match tk p.2 b.s with
     | some n=>match Nat.ble (p.1+n) cs.length with
      | true=>some (.agg ((cs.drop p.1).take n))
      | false=>none
     | none=>none
    | none=>none
   | none=>none
  | _=>none
 | .load T x=>match B6 env x with
  | .ptr l i f=>match σ l with
   | some r=>match r.els[i]? with
    | some y=>match tk T b.a with
     | some false=>y.cells[f]?
     | some true=>match tk T b.s with
      | some n=>match Nat.ble (f+n) y.cells.length with
       | true=>some (.agg ((y.cells.drop f).take n))
       | false=>none
      | none=>none
     | none=>none
    | none=>none
   | none=>none
  | .rptr cs=>match tk T b.a with
   | some false=>cs[0]?
   | some true=>match tk T b.s with
    | some n=>match Nat.ble n cs.length with
     | true=>some (.agg (cs.take n))
     | false=>none
    | none=>none
   | none=>none
  | _=>none
 | .unOp .not _ x=>match B6 env x with
  | .bool v=>some (.bool (!v))
  | _=>none
 | .binOp op _ x y _=>match B6 env x with
  | .int k1 m=>match B6 env y with
   | .int k2 n=>match decide (k1=k2) with
    | true=>match RM op m n with
     | some r=>some (.bool r)
     | none=>match Ru k1 op m n with
      | some r=>some (.int k1 r)
      | none=>none
    | false=>none
   | _=>none
  | _=>none
 | .extract x i=>match B6 env x with
  | .tup ds=>ds[i]?
  | _=>none
 | .makeFunc fn ⟨[]⟩ cap=>some (.fn fn (cap.toList.map (B6 env)))
 | _=>none
theorem qC{P:Program}{b:TB}(hb:b.Ok P){env:Nat->PV}{σ:Nat->Option Row}{dst:Option Tmp}{op:Op}{d:PV}(h:tp b env σ op=some d):E6 P σ (B6 env) dst op d .none:=by
 cases op <;> simp only[tp] at h
 case move x=>cases h;exact .move x
 case assign x=>cases h;exact .assign x
 case load T x=>
  split at h
  .rename_i l i f hx;split at h
   .rename_i r hl;split at h
    .rename_i y hy;split at h
     .rename_i ha;exact .mG T x l i f r y d hx hl hy (hb.ag ha) h
     .rename_i ha;split at h
      .rename_i n hn;split at h
       .rename_i e;cases h;exact .pQ T x l i f r y n hx hl hy (hb.ag ha) (hb.si hn) (zF e)
       .cases h
      .cases h
     .cases h
    .cases h
   .cases h
  .rename_i cs hx;split at h
   .rename_i ha;exact .iM T x cs d hx (hb.ag ha) h
   .rename_i ha;split at h
    .rename_i n hn;split at h
     .rename_i e;cases h;exact .iK T x cs n hx (hb.ag ha) (hb.si hn) (zF e)
     .cases h
    .cases h
   .cases h
  .cases h
 case fieldAddr T x f=>
  split at h
  .rename_i l i q hx;split at h
   .rename_i p hp;cases h;exact .fieldAddrP T x f l i q p.1 p.2 hx (hb.fo hp)
   .cases h
  .rename_i cs hx;split at h
   .rename_i p hp;cases h;exact .fieldAddrR T x f cs p.1 p.2 hx (hb.fo hp)
   .cases h
  .cases h
 case field T x f=>
  split at h
  .rename_i cs hx;split at h
   .rename_i p hp;split at h
    .rename_i ha;exact .fieldS T x f cs p.1 p.2 d hx (hb.fo hp) (hb.ag ha) h
    .rename_i ha;split at h
     .rename_i n hn;split at h
      .rename_i e;cases h;exact .fieldA T x f cs p.1 p.2 n hx (hb.fo hp) (hb.ag ha) (hb.si hn) (zF e)
      .cases h
     .cases h
    .cases h
   .cases h
  .cases h
 case extract x i=>
  split at h
  .rename_i ds hx;exact .extract x i ds d hx h
  .cases h
 case unOp op t x=>
  cases op <;> simp only[tp] at h
  case not=>
   split at h
   .rename_i v hx;cases h;exact .not t x v hx
   .cases h
  all_goals cases h
 case binOp op t x y u=>
  split at h
  .rename_i k1 m hx;split at h
   .rename_i k2 n hy;split at h
    .rename_i hk;have hk:=zbh hk;subst hk;split at h
     .rename_i r hr;cases h;exact .cmp op t u x y k1 m n r hx hy hr
     .split at h
      .rename_i r hr;cases h;exact .ari op t u x y k1 m n r hx hy hr
      .cases h
    .cases h
   .cases h
  .cases h
 case makeFunc fn first cap=>
  obtain⟨l⟩:=first
  cases l <;> simp only[tp] at h
  case nil=>cases h;exact .mkFunc fn cap
  all_goals cases h
 all_goals cases h
def ev1{β:Type}(b:TB)(o:Oper)(env:Nat->PV)(σ:Nat->Option Row)(k:(Nat->PV)->(Nat->Option Row)->Option β):Option β:=
 match o.guard with
 | some _=>none
 | none=>match o.dst with
  | some t=>match o.op with
   | .box T x=>match σ t with
    | some _=>none
    | none=>fc (B6 env x) λd=>match d.el with
     | true=>fcB d.iD λc=>k (z7 env t (.ptr t 0 0)) (z7 σ t (some ⟨[d],0,false,d.cells.length,c⟩))
     | false=>none
   | .alloc T=>match σ t with
    | some _=>none
    | none=>match tk T b.z with
     | some d=>match d.el with
      | true=>k (z7 env t (.ptr t 0 0)) (z7 σ t (some ⟨[d],0,false,d.cells.length,true⟩))
      | false=>none
     | none=>none
   | op=>match tp b env σ op with
    | some d=>fc d λd=>k (z7 env t d) σ
    | none=>none
  | none=>match o.op with
   | .store T x y=>match B6 env x with
    | .ptr l 0 q=>match σ l with
     | some r=>match r.els with
      | [x0]=>match r.lo with
       | 0=>match tk T b.s with
        | some n=>fc (B6 env y).w1 λd=>
         match d.el&&(Nat.ble 1 n&&(Nat.beq d.cells.length n&&(Nat.ble (q+n) x0.cells.length&&d.cells.all PV.sc))) with
         | true=>fc (K7 x0 q d.cells) λx'=>fcB (r.cl&&d.cells.all PV.aP) λc=>k env (z7 σ l (some ⟨[x'],0,r.opn,r.z,c⟩))
         | false=>none
        | none=>none
       | _+1=>none
      | _=>none
     | none=>none
    | _=>none
   | _=>none
theorem PI{β:Type}{P:Program}{b:TB}(hb:b.Ok P){ops:Array Oper}{T:List Nat}{c:Nat}{o:Oper}{env:Nat->PV}{σ:Nat->Option Row}{k:(Nat->PV)->(Nat->Option Row)->Option β}{r:β}(h:ev1 b o env σ k=some r) :
  ∃env' σ',Vx P ops false T c o ⟨env,σ⟩ ⟨env',σ'⟩/\k env' σ'=some r:=by
 obtain⟨dst,op,ty,pos,after,gd⟩:=o;unfold ev1 at h;simp only at h;cases gd with
 | some g=>cases h
 | none=>
 simp only at h;have hw:∀dst,D9 ops env ⟨dst,op,ty,pos,after,none⟩=some true:=λ_=>rfl;cases dst with
 | some t=>
  simp only at h;have hlook:∀d,tp b env σ op=some d->k (z7 env t d) σ=some r->∃env' σ',Vx P ops false T c ⟨some t,op,ty,pos,after,none⟩ ⟨env,σ⟩ ⟨env',σ'⟩/\k env' σ'=some r:=λd hd hk=>
   ⟨z7 env t d,σ,.run d .none (hw _) (qC hb hd) ⟨H7.refl _,H2.refl _⟩ trivial (λq=>nomatch q) (λq=>nomatch q),hk⟩
  split at h
  .rename_i T' x;split at h;·cases h
   .rename_i hf;rw[Bu] at h;split at h
    .rename_i hel;rw[Lo] at h;exact⟨_,_,.run (.ptr t 0 0) (.new t ⟨[B6 env x],0,false,(B6 env x).cells.length,(B6 env x).iD⟩) (hw _) (.box T' x t rfl hel) ⟨H7.refl _,H2.refl _⟩ hf (λq=>nomatch q) (λq=>nomatch q),h⟩
    .cases h
  .rename_i T';split at h;·cases h
   .rename_i hf;split at h
    .rename_i d hd;split at h
     .rename_i hel;have:=hb.ze hd;cases hz:B1 P T' with
      | none=>rw[hz] at this;cases this
      | some v=>
       rw[hz] at this;simp only[ww,sm] at this;subst this;exact⟨_,_,.run (.ptr t 0 0) (.new t ⟨[PV.kG v],0,false,(PV.kG v).cells.length,true⟩) (hw _) (.alloc T' t v rfl hz hel) ⟨H7.refl _,H2.refl _⟩ hf (λq=>nomatch q) (λq=>nomatch q),h⟩
     .cases h
    .cases h
  .split at h
   .rename_i d hd;rw[Bu] at h;exact hlook d hd h
   .cases h
 | none=>
  simp only at h;split at h
  .rename_i T' x y;split at h
   .rename_i l q hx;split at h
    .rename_i rw hl;obtain⟨els,lo,opn,z,cl⟩:=rw;simp only at h;split at h
     .rename_i x0;split at h
      .split at h
       .rename_i n hn;rw[Bu] at h;split at h
        .rename_i hc;simp only[zo] at hc;obtain⟨m,p,e,u,A⟩:=hc;have e:=za2 e;rw[Bu,Lo] at h;have j:E6 P σ (B6 env) none (.store T' x y) (.tup []) (.sto l 0 q (B6 env y).w1.cells):=rU hx (.inr rfl) rfl m (hb.si hn) (zF p) e;refine⟨env,_,?_,h⟩;have:=ux.run (P:=P) (ops:=ops) (dr:=false) (T:=T) (c:=c) (σF:=σ) (o:=⟨none,.store T' x y,ty,pos,after,none⟩) (st:=⟨env,σ⟩) (.tup []) (.sto l 0 q (B6 env y).w1.cells) (hw _) j ⟨H7.refl _,H2.refl _⟩ ⟨_,x0,hl,rfl,zq _,by rw[e];exact zF u,A⟩ (λq=>nomatch q) (λq=>nomatch q);simp only[Y5.apply,hl] at this;exact this
        .cases h
       .cases h
      .cases h
     .cases h
    .cases h
   .cases h
  .cases h
def run(b:TB):Nat->List Oper->(Nat->PV)->(Nat->Option Row)->Option (List Oper × (Nat->PV) × (Nat->Option Row))
 | 0,l,env,σ=>some (l,env,σ)
 | _+1,[],_,_=>none
 | n+1,o::l,env,σ=>ev1 b o env σ λenv σ=>run b n l env σ
section
variable{X:Ctx}{ops:Array Oper}{K:Ctx->St->Prop}
theorem seg{b:TB}(hb:b.Ok X.P):∀(n:Nat) {i:Nat} {l l':List Oper} {env env':Nat->PV} {σ σ':Nat->Option Row},run b n l env σ=some (l',env',σ')->Sq X ops (i+n) l' K ⟨env',σ'⟩->Sq X ops i l K ⟨env,σ⟩
 | 0,i,l,l',env,env',σ,σ',h,k=>by cases h;exact k
 | n+1,i,[],l',env,env',σ,σ',h,k=>by cases h
 | n+1,i,o::l,l',env,env',σ,σ',h,k=>by
  obtain⟨env1,σ1,e,j⟩:=PI hb h;refine pX e (seg hb n j ?_);rw[n8,zbf 1 n];exact k
end
end Go.Pw
namespace Go.Pw
open Go.RowKit Go.Sh
section
variable{X:Ctx}{Q:PX->Ctx->St->Prop}{st:St}
variable {x:Code}{R:Type}{r:R}{S E:Type}{s:St}{P:Program}{v:PV}
theorem cN{c:Operand}{y:Code}{α:Type}{b:Bool}{A B:Option α}{r:α}(h:(if b then A else B)=some r)(hx:b=true->A=some r->Z2 X x Q st)(hy:b=false->B=some r->Z2 X y Q st)(hc:B6 st.env c = .bool b:=by rfl):Z2 X (.cond c x y) Q st:=
 I6 b hc (λq=>hx q (Vu h q)) λq=>hy q (Vt h q)
theorem jq{J:Type}{y:Code}{k:J->Option R}{b:(J->Option R)->Option R}(h:jn k b=some r)(F:J->St)(hk:∀j,k j=some r->Z2 X y Q (F j))
  (hx:∀κ,b κ=some r->Z2 X x (lC (λX' s=>X'=X/\∃j,κ j=some r/\Wk s (F j)) Q) st):Z2 X (.seq x y) Q st:=a1r F hk (hx k h)
theorem jqE{J:Type}{k:J->Option R}{b:(J->Option R)->Option R}(h:jn k b=some r)(F:J->St)(hk:∀j,k j=some r->Q .normal X (F j))
  (hx:∀κ,b κ=some r->Z2 X x (lC (λX' s=>X'=X/\∃j,κ j=some r/\Wk s (F j)) Q) st):Z2 X x Q st:=a1s F hk (hx k h)
theorem jqR{J:Type}{k:J->Option R}{b:(J->Option R)->Option R}(h:jn k b=some r)(F:J->St)(hk:∀j,k j=some r->Q .normal X (F j)/\Q .ret X (F j))
  (hx:∀κ,b κ=some r->Z2 X x (a0t (λX' s=>X'=X/\∃j,κ j=some r/\Wk s (F j))) st):Z2 X x Q st:=a1t F hk (hx k h)
theorem lq{f:S->Option (S ⊕ E)}{s0:S}{k:E->Option R}{c:Code}(h:(lp f s0).bind k=some r)(F:S->St)(h0:Wk st (F s0))
  (hr:∀s x,f s=some x->(∀j,x = .inr j->k j=some r)->Z2 X c (lC (λX' s'=>X'=X/\∃s2,x = .inl s2/\Wk s' (F s2)) Q) (F s)):Z2 X (.loop c) Q st:=by
 obtain⟨e,m,o⟩:=E7 h;exact a1u F m h0 λs x hf hx=>hr s x hf λj q=>by rw[hx j q];exact o
theorem lqS{f:S->Option (S ⊕ E)}{s0:S}{k:E->Option R}{l:Nat}{c:Code}(h:(lp f s0).bind k=some r)(F:S->St)(h0:Wk st (F s0))
  (hr:∀s x,f s=some x->(∀j,x = .inr j->k j=some r)->Z2 X c (IP l (λX' s'=>X'=X/\∃s2,x = .inl s2/\Wk s' (F s2)) Q) (F s)):Z2 X (.scope (.seq (.label l) c)) Q st:=by
 obtain⟨e,m,o⟩:=E7 h;exact a1v F m h0 λs x hf hx=>hr s x hf λj q=>by rw[hx j q];exact o
theorem eJ{J:Type}{κ:J->Option R}{F:J->St}{j:J}(h:κ j=some r)(w:Wk s (F j)):X=X/\∃j,κ j=some r/\Wk s (F j):=⟨rfl,j,h,w⟩
theorem eL{x:S ⊕ E}{F:S->St}{j:S}(h:some (.inl j)=some x)(w:Wk s (F j)):X=X/\∃s2,x = .inl s2/\Wk s (F s2):=⟨rfl,j,(t8 h).symm,w⟩
theorem eS{x:S ⊕ E}{F:S->St}{j:S}{l:Nat}(h:some (.inl j)=some x)(w:Wk s (F j)):l=l/\X=X/\∃s2,x = .inl s2/\Wk s (F s2):=⟨rfl,rfl,j,(t8 h).symm,w⟩
theorem xL{x:S ⊕ E}{k:E->Option R}{e:E}(hx:∀j,x = .inr j->k j=some r)(h:some (.inr e)=some x):k e=some r:=hx e (t8 h).symm
abbrev PV.nl:PV:=.H4 true []
abbrev vR(d:PV)(n:Nat):Row:=⟨[d],0,false,n,true⟩
abbrev vS(d:PV)(n:Nat):Row:=⟨[d],0,false,n,false⟩
theorem WE(L:List (Nat × PV))(R:List (Nat × Row))(h:Ag R s L:=by (repeat first | refine⟨J,J,J,?_⟩ | refine⟨ct (by assumption),J,J,?_⟩);exact tr)
  (k:Ar R s R:=by (repeat first | refine⟨rS,?_⟩ | refine⟨aM J J J (λq=>nomatch q) J J J J,?_⟩);exact tr):Wk s (St.of L R):=wK L R h k
theorem Bi(π:Nat->Nat)(L:List (Nat × PV))(R:List (Nat × Row))(h:AgP π R s L:=by (repeat first | refine⟨J,J,J,?_⟩ | refine⟨ct (by assumption),J,J,?_⟩);exact tr)
  (k:ZC π R s R:=by (repeat first | refine⟨rN,?_⟩ | refine⟨aM J J J (λq=>nomatch q) J J J J,?_⟩);exact tr)
  (hi:(R.all λp=>R.all λq=>π p.1 != π q.1||p.1==q.1)=true:=by rfl):Wk s (St.of L R):=MN π L R h k hi
theorem W{L:List (Nat × PV)}{R:List (Nat × Row)}(h:Ag R s L:=by (repeat refine⟨J,J,J,?_⟩);exact tr)
  (k:Ar R s R:=by (repeat first | refine⟨rS,?_⟩ | refine⟨aM J J J (λq=>nomatch q) J J J J,?_⟩);exact tr):Wk s (St.of L R):=wK L R h k
theorem WP(π:Nat->Nat){L:List (Nat × PV)}{R:List (Nat × Row)}(h:AgP π R s L:=by (repeat refine⟨J,J,J,?_⟩);exact tr)
  (k:ZC π R s R:=by (repeat first | refine⟨rN,?_⟩ | refine⟨aM J J J (λq=>nomatch q) J J J J,?_⟩);exact tr)
  (hi:(R.all λp=>R.all λq=>π p.1 != π q.1||p.1==q.1)=true:=by rfl):Wk s (St.of L R):=MN π L R h k hi
theorem f1{fn:Func}{d:PV}(h:Dp P st fn.results.toList [v]:=by exact⟨J,tr⟩)(e:(iY [v]).nI st.σ=true:=by rfl)(j:(iY [v]).view st.σ=d\/((iY [v]).view st.σ).w3=d:=by first | exact .inl rfl | exact .inr rfl):X=X/\Fin P fn d st:=⟨rfl,_,h,e,j⟩
theorem f2{fn:Func}{d u:PV}(h:Dp P st fn.results.toList [v,u]:=by exact⟨J,J,tr⟩)(e:(iY [v,u]).nI st.σ=true:=by rfl)(j:(iY [v,u]).view st.σ=d\/((iY [v,u]).view st.σ).w3=d:=by first | exact .inl rfl | exact .inr rfl):X=X/\Fin P fn d st:=⟨rfl,_,h,e,j⟩
theorem f3{fn:Func}{d u w:PV}(h:Dp P st fn.results.toList [v,u,w]:=by exact⟨J,J,J,tr⟩)(e:(iY [v,u,w]).nI st.σ=true:=by rfl)(j:(iY [v,u,w]).view st.σ=d\/((iY [v,u,w]).view st.σ).w3=d:=by first | exact .inl rfl | exact .inr rfl):X=X/\Fin P fn d st:=⟨rfl,_,h,e,j⟩
end
theorem pI{P:Program}{f:FuncId}{fn:Func}{c:Code}{ds:List PV}{d:PV}(hf:P.funcs[f]? = some fn)
  (h:∀(w0:WG P) imm0,Z2 { P:=P,N:=fn.ntmps,ρ:=none,w0:=w0.1,imm0:=imm0,tab:=w0.2 } c (QS { P:=P,N:=fn.ntmps,ρ:=none,w0:=w0.1,imm0:=imm0,tab:=w0.2 } (Fin P fn d)) ⟨M3 ds,λ_=>none⟩)(hb:fn.body=some c:=by rfl)(hn:ds.length<=fn.ntmps:=by exact nl)(e:fn.ntmps<=1000000:=by exact nl):S0 P f ds d:=TZ hf hb rfl hn h e
theorem pIN{P:Program}{f:FuncId}{fn:Func}{c:Code}{ds:List PV}{r:Row}(hf:P.funcs[f]? = some fn)
  (h:∀(w0:WG P) imm0,Z2 { P:=P,N:=fn.ntmps,ρ:=none,w0:=w0.1,imm0:=imm0,tab:=w0.2 } c (QS { P:=P,N:=fn.ntmps,ρ:=none,w0:=w0.1,imm0:=imm0,tab:=w0.2 } (OY P fn r)) ⟨M3 ds,λ_=>none⟩)(hb:fn.body=some c:=by rfl)(hn:ds.length<=fn.ntmps:=by exact nl)(e:fn.ntmps<=1000000:=by exact nl):nN P f ds r:=Qk hf hb rfl hn h e
end Go.Pw
namespace Go.Pw
open Go.RowKit Go.Sh
variable {α:Type}{P:Program}{f:FuncId}{ds:List PV}{σ:Nat->Option Row}{ρ:Operand->PV}{dst:Option Tmp}{z:Option α}{v:α}{args:Array Operand}{ts:Array TypeId}{x:Operand}{vs cap:List PV}
def PO(P:Program)(f:FuncId)(ds:List PV)(x:Option α)(d:α->PV):Prop:=B0 P f/\∀r,x=some r->S0 P f ds (d r)
def YL(P:Program)(f:FuncId)(ds:List PV)(x:Option α)(d:α->Row):Prop:=B0 P f/\∀r,x=some r->nN P f ds (d r)
theorem pO{fn:Func}{c:Code}{x:Option α}{d:α->PV}(hf:P.funcs[f]? = some fn)
  (h:∀r,x=some r->∀(w0:WG P) imm0,Z2 { P:=P,N:=fn.ntmps,ρ:=none,w0:=w0.1,imm0:=imm0,tab:=w0.2 } c (QS { P:=P,N:=fn.ntmps,ρ:=none,w0:=w0.1,imm0:=imm0,tab:=w0.2 } (Fin P fn (d r))) ⟨M3 ds,λ_=>none⟩)
  (hb:fn.body=some c:=by rfl)(hn:ds.length<=fn.ntmps:=by exact nl)(e:fn.ntmps<=1000000:=by exact nl)(hm:fn.name ≠ "runtime.NumGoroutine" := by decide):PO P f ds x d:=⟨⟨fn,c,hf,hb,hm⟩,λr q=>pI hf (h r q) hb hn e⟩
theorem pON{fn:Func}{c:Code}{x:Option α}{d:α->Row}(hf:P.funcs[f]? = some fn)
  (h:∀r,x=some r->∀(w0:WG P) imm0,Z2 { P:=P,N:=fn.ntmps,ρ:=none,w0:=w0.1,imm0:=imm0,tab:=w0.2 } c (QS { P:=P,N:=fn.ntmps,ρ:=none,w0:=w0.1,imm0:=imm0,tab:=w0.2 } (OY P fn (d r))) ⟨M3 ds,λ_=>none⟩)
  (hb:fn.body=some c:=by rfl)(hn:ds.length<=fn.ntmps:=by exact nl)(e:fn.ntmps<=1000000:=by exact nl)(hm:fn.name ≠ "runtime.NumGoroutine" := by decide):YL P f ds x d:=⟨⟨fn,c,hf,hb,hm⟩,λr q=>pIN hf (h r q) hb hn e⟩
theorem F3{d:α->PV}(hx:ρ x = .fn (.func f) cap)(o:PO P f vs z d)(ha:args.toList.map ρ++cap=ds)(hz:z=some v)
  (hok:ds.all (PV.nI σ)=true:=by rfl)(hv:ds.map (PV.vw σ)=vs:=by rfl)(hfl:(d v).flat=true:=by rfl):E6 P σ ρ dst (.call { callee:=.value x,args,argTypes:=ts }) (d v) .none:=xy hx o.1 ha (o.2 v hz) hok hv hfl
theorem y8{d:α->PV}{ls:List Nat}(hx:ρ x = .fn (.func f) cap)(o:PO P f vs z d)(ha:args.toList.map ρ++cap=ds)(hz:z=some v)
  (hok:ds.all (PV.nI σ)=true:=by rfl)(hv:ds.map (PV.vw σ)=vs:=by rfl)(hl:ds.flatMap (PV.P1 σ)=ls:=by rfl):E6 P σ ρ dst (.call { callee:=.value x,args,argTypes:=ts }) (d v) (.pM ls):=AJ hx o.1 ha (o.2 v hz) hok hv hl
theorem EA{d:α->Row}{ls:List Nat}{l:Tmp}(hx:ρ x = .fn (.func f) cap)(o:YL P f vs z d)(ha:args.toList.map ρ++cap=ds)(hz:z=some v)
  (hd:dst=some l:=by rfl)(hok:ds.all (PV.nI σ)=true:=by rfl)(hv:ds.map (PV.vw σ)=vs:=by rfl)(hcl:(d v).cl=true:=by rfl)(hl:ds.flatMap (PV.P1 σ)=ls:=by rfl) :
  E6 P σ ρ dst (.call { callee:=.value x,args,argTypes:=ts }) (.sl l) (.frzN ls l (d v)):=Xz hx o.1 ha (o.2 v hz) hd hok hv hcl hl
section
variable{X:Ctx}{ops:Array Oper}{i:Nat}{os:List Oper}{K:Ctx->St->Prop}{env:Nat->PV}{σ:Nat->Option Row}{ty:TypeId}{pos:String}{after:Array Edge}{gd:Option (Nat × Bool)}{t:Tmp}{α β:Type}{z:Option α}{k:α->Option β}{r:β}
theorem cA{f:FuncId}{args:Array Operand}{ts:Array TypeId}{c:Operand}{ds vs cap:List PV}{d:α->PV}(h:z.bind k=some r)(o:PO X.P f vs z d)(hx:B6 env c = .fn (.func f) cap)(ha:args.toList.map (B6 env)++cap=ds)
  (kk:∀v,z=some v->k v=some r->Sq X ops (i+1) os K ⟨z7 env t (d v),σ⟩)(hw:D9 ops env ⟨some t,.call { callee:=.value c,args,argTypes:=ts },ty,pos,after,gd⟩=some true:=by rfl)(hok:ds.all (PV.nI σ)=true:=by rfl)(hv:ds.map (PV.vw σ)=vs:=by rfl)(hfl:∀v,(d v).flat=true:=by intro _;rfl) :
  Sq X ops i (⟨some t,.call { callee:=.value c,args,argTypes:=ts },ty,pos,after,gd⟩::os) K ⟨env,σ⟩:=by
 obtain⟨v,e,j⟩:=E7 h;exact y0 hw (xy hx o.1 ha (o.2 v e) hok hv (hfl v)) (kk v e j)
theorem cF{f:FuncId}{args:Array Operand}{ts:Array TypeId}{c:Operand}{ds vs cap:List PV}{d:α->PV}(h:z.bind k=some r)(o:PO X.P f vs z d)(hx:B6 env c = .fn (.func f) cap)(ha:args.toList.map (B6 env)++cap=ds)
  (kk:∀v,z=some v->k v=some r->Sq X ops (i+1) os K ⟨z7 env t (d v),σ⟩)(hw:D9 ops env ⟨some t,.call { callee:=.value c,args,argTypes:=ts },ty,pos,after,gd⟩=some true:=by rfl)(hok:ds.all (PV.nI σ)=true:=by rfl)(hv:ds.map (PV.vw σ)=vs:=by rfl)(hl:ds.flatMap (PV.P1 σ) = []:=by rfl) :
  Sq X ops i (⟨some t,.call { callee:=.value c,args,argTypes:=ts },ty,pos,after,gd⟩::os) K ⟨env,σ⟩:=by
 obtain⟨v,e,j⟩:=E7 h;exact yc hw (AJ hx o.1 ha (o.2 v e) hok hv hl) (kk v e j)
theorem iL{γ:Type}{f:γ->PV}{xs:List γ}{k:γ->Option β}{n:Int}{T E:TypeId}{x y:Operand}{b:Bool}{kd:IntKind}{m:Nat}(h:(ix xs n).bind k=some r)(hx:B6 env x = .H4 b (xs.map f))(hy:B6 env y = .int kd n)
  (hE:C1 X.P T=some E)(hz:w9 X.P E=some m)(kk:∀v,ix xs n=some v->k v=some r->Sq X ops (i+1) os K ⟨z7 env t (.rptr (f v).cells),σ⟩)(hl:∀v,(f v).cells.length=m:=by intro _;rfl)(hw:D9 ops env ⟨some t,.indexAddr T x y,ty,pos,after,gd⟩=some true:=by rfl) :
  Sq X ops i (⟨some t,.indexAddr T x y,ty,pos,after,gd⟩::os) K ⟨env,σ⟩:=by
 obtain⟨v,e,j⟩:=E7 h;exact y0 hw (y2 e hx hy hE hz rfl (hl v)) (kk v e j)
theorem nL{γ:Type}{f:γ->PV}{xs:List γ}{x:Operand}{T E:TypeId}{b:Bool}(hx:B6 env x = .H4 b (xs.map f))(hE:C1 X.P T=some E)(kk:Sq X ops (i+1) os K ⟨z7 env t (.int .i64 xs.length),σ⟩)(hw:D9 ops env ⟨some t,.call { callee:=.builtin .len,args:=#[x],argTypes:=#[T] },ty,pos,after,gd⟩=some true:=by rfl) :
  Sq X ops i (⟨some t,.call { callee:=.builtin .len,args:=#[x],argTypes:=#[T] },ty,pos,after,gd⟩::os) K ⟨env,σ⟩:=y0 hw (dq hx hE) kk
end
theorem d4{P:Program}{ops:Array Oper}{bar:List Nat}{i:Nat}{os:List Oper}{K:St->Prop}{env:Nat->PV}{σ:Nat->Option Row}{ty:TypeId}{pos:String}{after:Array Edge}{gd:Option (Nat × Bool)}{op:Op}{t:Tmp}{d:PV}(hw:D9 ops env ⟨some t,op,ty,pos,after,gd⟩=some true)(h:E6 P σ (B6 env) (some t) op d .none)(hc:cls bar i op=4)(k:Ex P ops bar true (i+1) os ⟨z7 env t d,σ⟩ K) :
  Ex P ops bar true i (⟨some t,op,ty,pos,after,gd⟩::os) ⟨env,σ⟩ K:=x0 hw h (λ_=>by rw[hc];trivial) k
def SQ:Op->Bool
 | .load .. => true
 | _=>false
theorem Qe{b:TB}{env:Nat->PV}{σ σ':Nat->Option Row}{op:Op}(h:SQ op=false):tp b env σ op=tp b env σ' op:=by
 cases op <;> first | rfl | cases h | skip
 case unOp o _ _=>cases o <;> rfl
 case makeFunc _ l _=>
  obtain⟨l⟩:=l;cases l <;> rfl
def evD{γ:Type}(b:TB)(bar:List Nat)(i:Nat)(o:Oper)(env:Nat->PV)(σ:Nat->Option Row)(k:(Nat->PV)->(Nat->Option Row)->Option γ):Option γ:=
 match o.guard with
 | some _=>none
 | none=>match o.dst with
  | none=>none
  | some t=>match o.op with
   | .box T x=>match σ t with
    | some _=>none
    | none=>match Nat.beq (cls bar i (.box T x)) 1 with
     | false=>none
     | true=>fc (B6 env x) λd=>match d.el with
      | true=>fcB d.iD λc=>match (kept bar).contains t with
       | true=>none
       | false=>k (z7 env t (.ptr t 0 0)) (z7 σ t (some ⟨[d],0,false,d.cells.length,c⟩))
      | false=>none
   | .alloc T=>match σ t with
    | some _=>none
    | none=>match Nat.beq (cls bar i (.alloc T)) 1 with
     | false=>none
     | true=>match tk T b.z with
      | some d=>match d.el with
       | true=>match (kept bar).contains t with
        | true=>none
        | false=>k (z7 env t (.ptr t 0 0)) (z7 σ t (some ⟨[d],0,false,d.cells.length,true⟩))
       | false=>none
      | none=>none
   | op=>match SQ op with
    | true=>match Nat.beq (cls bar i op) 0 with
     | false=>none
     | true=>match tp b env σ op with
      | some d=>fc d λd=>k (z7 env t d) σ
      | none=>none
    | false=>match Nat.beq (cls bar i op) 7 with
     | false=>none
     | true=>match tp b env σ op with
      | some d=>fc d λd=>k (z7 env t d) σ
      | none=>none
theorem PJ{γ:Type}{P:Program}{b:TB}(hb:b.Ok P){ops:Array Oper}{bar:List Nat}{i:Nat}{o:Oper}{os:List Oper}{env:Nat->PV}{σ:Nat->Option Row}{k:(Nat->PV)->(Nat->Option Row)->Option γ}{r:γ}(h:evD b bar i o env σ k=some r) :
  ∃env' σ',k env' σ'=some r/\∀K,Ex P ops bar true (i+1) os ⟨env',σ'⟩ K->Ex P ops bar true i (o::os) ⟨env,σ⟩ K:=by
 obtain⟨dst,op,ty,pos,after,gd⟩:=o;unfold evD at h;simp only at h;cases gd with
 | some g=>cases h
 | none=>
 simp only at h;cases dst with
 | none=>cases h
 | some t=>
 simp only at h;split at h
 .rename_i T' x;split at h;·cases h
  .rename_i hf;split at h;·cases h
   .rename_i hc;have hc:=za2 hc;rw[Bu] at h;split at h
    .rename_i hel;rw[Lo] at h;split at h;·cases h
     .rename_i hk;exact⟨_,_,h,λK q=>d1 rfl (.box T' x t rfl hel) hf (by simp only[Y5.off];rw[hk];rfl) hc q⟩
    .cases h
 .rename_i T';split at h;·cases h
  .rename_i hf;split at h;·cases h
   .rename_i hc;have hc:=za2 hc;split at h
    .rename_i d hd;split at h
     .rename_i hel;split at h;·cases h
      .rename_i hk;have:=hb.ze hd;cases hz:B1 P T' with
       | none=>rw[hz] at this;cases this
       | some v=>
        rw[hz] at this;simp only[ww,sm] at this;subst this;exact⟨_,_,h,λK q=>d1 rfl (.alloc T' t v rfl hz hel) hf (by simp only[Y5.off];rw[hk];rfl) hc q⟩
     .cases h
    .cases h
 .split at h
  .rename_i hl;split at h;·cases h
   .rename_i hc;split at h
    .rename_i d hd;rw[Bu] at h;exact⟨_,_,h,λK q=>d0 rfl (qC hb hd) (za2 hc) q⟩
    .cases h
  .rename_i hl;split at h;·cases h
   .rename_i hc;split at h
    .rename_i d hd;rw[Bu] at h;exact⟨_,_,h,λK q=>d7 rfl (λσ' _=>qC hb ((Qe hl).trans hd)) (za2 hc) q⟩
    .cases h
def Yf(b:TB)(bar:List Nat):Nat->Nat->List Oper->(Nat->PV)->(Nat->Option Row)->Option (List Oper × (Nat->PV) × (Nat->Option Row))
 | 0,_,l,env,σ=>some (l,env,σ)
 | _+1,_,[],_,_=>none
 | n+1,i,o::l,env,σ=>evD b bar i o env σ λenv σ=>Yf b bar n (i+1) l env σ
section
variable{P:Program}{ops:Array Oper}{bar:List Nat}{K:St->Prop}
theorem dG{b:TB}(hb:b.Ok P):∀(n:Nat) {i:Nat} {l l':List Oper} {env env':Nat->PV} {σ σ':Nat->Option Row},Yf b bar n i l env σ=some (l',env',σ')->Ex P ops bar true (i+n) l' ⟨env',σ'⟩ K->Ex P ops bar true i l ⟨env,σ⟩ K
 | 0,i,l,l',env,env',σ,σ',h,k=>by cases h;exact k
 | n+1,i,[],l',env,env',σ,σ',h,k=>by cases h
 | n+1,i,o::l,l',env,env',σ,σ',h,k=>by
  obtain⟨env1,σ1,e,j⟩:=PJ (P:=P) (ops:=ops) (os:=l) hb h;refine j _ (dG hb n e ?_);rw[n8,zbf 1 n];exact k
end
end Go.Pw
namespace Go.Pw
open Go.RowKit Go.Sh
variable {α:Type}{s:St}{R:List (Nat × Row)}
theorem y6{P:Program}{f:FuncId}{fn:Func}{c:Code}{ds:List PV}{x:Option α}{d:α->PV}(hf:P.funcs[f]? = some fn)(hb:fn.body=some c)
  (h:∀r,x=some r->∀ {w0:WG P} {imm0},Z2 { P:=P,N:=fn.ntmps,ρ:=none,w0:=w0.1,imm0:=imm0,tab:=w0.2 } c (QS { P:=P,N:=fn.ntmps,ρ:=none,w0:=w0.1,imm0:=imm0,tab:=w0.2 } (Fin P fn (d r))) ⟨M3 ds,λ_=>none⟩)
  (hn:ds.length<=fn.ntmps:=by exact nl)(e:fn.ntmps<=1000000:=by exact nl)(hm:fn.name ≠ "runtime.NumGoroutine" := by decide):PO P f ds x d:=pO hf (λr q w i=>@h r q w i) hb hn e hm
theorem TU{P:Program}{f:FuncId}{fn:Func}{c:Code}{ds:List PV}{x:Option α}{d:α->Row}(hf:P.funcs[f]? = some fn)(hb:fn.body=some c)
  (h:∀r,x=some r->∀ {w0:WG P} {imm0},Z2 { P:=P,N:=fn.ntmps,ρ:=none,w0:=w0.1,imm0:=imm0,tab:=w0.2 } c (QS { P:=P,N:=fn.ntmps,ρ:=none,w0:=w0.1,imm0:=imm0,tab:=w0.2 } (OY P fn (d r))) ⟨M3 ds,λ_=>none⟩)
  (hn:ds.length<=fn.ntmps:=by exact nl)(e:fn.ntmps<=1000000:=by exact nl)(hm:fn.name ≠ "runtime.NumGoroutine" := by decide):YL P f ds x d:=pON hf (λr q w i=>@h r q w i) hb hn e hm
abbrev swp(a b:Nat):Nat->Nat:=λl=>if l=a then b else l
abbrev A9(f:α->PV)(xs:List α)(z:Nat):Row:=⟨List.map f xs,(List.map f xs).length,true,z,true⟩
theorem F7(ls:List Nat){L:List (Nat × PV)}(h:Ag R ⟨s.env,T0 s.σ ls⟩ L:=by (repeat refine⟨J,J,J,?_⟩);exact tr)
  (k:Ar R ⟨s.env,T0 s.σ ls⟩ R:=by (repeat first | refine⟨rS,?_⟩ | refine⟨aM J J J (λq=>nomatch q) J J J J,?_⟩);exact tr):Wk s (St.of L R):=Wk.trans (yb s ls) (W h k)
theorem C4(ls:List Nat)(π:Nat->Nat){L:List (Nat × PV)}(h:AgP π R ⟨s.env,T0 s.σ ls⟩ L:=by (repeat refine⟨J,J,J,?_⟩);exact tr)
  (k:ZC π R ⟨s.env,T0 s.σ ls⟩ R:=by (repeat first | refine⟨rN,?_⟩ | refine⟨aM J J J (λq=>nomatch q) J J J J,?_⟩);exact tr)
  (hi:(R.all λp=>R.all λq=>π p.1 != π q.1||p.1==q.1)=true:=by rfl):Wk s (St.of L R):=Wk.trans (yb s ls) (WP π h k hi)
theorem cr(t l z a:Nat){L:List (Nat × PV)}(ht:s.env t = .H4 true []:=by rfl)(hl:s.σ l=none:=by rfl)
  (h:AgP (swp a l) R ⟨z7 s.env t (.sl l),z7 s.σ l (some ⟨[],0,true,z,true⟩)⟩ L:=by (repeat refine⟨J,J,J,?_⟩);exact tr)
  (k:ZC (swp a l) R ⟨z7 s.env t (.sl l),z7 s.σ l (some ⟨[],0,true,z,true⟩)⟩ R:=by (repeat first | refine⟨rN,?_⟩ | refine⟨aM J J J (λq=>nomatch q) J J J J,?_⟩);exact tr)
  (hi:(R.all λp=>R.all λq=>swp a l p.1 != swp a l q.1||p.1==q.1)=true:=by rfl)(e:l<MB:=by exact zF rfl):Wk s (St.of L R):=Wk.trans (kD ht hl e) (WP (swp a l) h k hi)
end Go.Pw
namespace Go.Sh
structure Vv where
 t:Nat
 xs:List Int
def KN(e:Vv)(A k:Nat):Int:=if e.t=A then e.xs.getD k 0 else 0
end Go.Sh
namespace Go.Pw
open Go.RowKit Go.Sh
def ifV(n:Nat->Nat)(e:Vv):Value:=.iface e.t (.agg ((List.range (n e.t)).map λk=>Value.int .i64 (e.xs.getD k 0)).toArray)
def ifE(n:Nat->Nat)(e:Vv):PV:=.abs λ_ _ v=>v=ifV n e
def tY(P:Program)(T:TypeId):Bool:=match P.underlying T with | some (.interface _)=>false | some _=>true | none=>false
theorem IT{P:Program}{T:TypeId}(h:tY P T=true):∃u,P.underlying T=some u/\∀m,u ≠ .interface m:=by
 unfold tY at h;cases hu:P.underlying T with
 | none=>rw[hu] at h;cases h
 | some u=>
  rw[hu] at h;refine⟨u,rfl,λm e=>?_⟩;subst e;cases h
theorem a3n{w:World}{imm:Nat->Nat->Prop}{n:Nat->Nat}{e:Vv}:Rd0 w imm (ifV n e) (ifE n e):=.abs _ _ rfl λ_ _ _=>rfl
theorem Ow{w:World}{imm:Nat->Nat->Prop}{v:Value}{xs:List Int}(h:Rd0 w imm v (.agg (xs.map (PV.int .i64)))):v = .agg (xs.map (Value.int .i64)).toArray:=by
 cases h with
 | agg vs cs hsc hn h=>
  congr 1;apply Array.ext;·simpa using hn
  .intro i e j;have hx:i<xs.length:=by simpa using j
   have:=h i vs[i] (.int .i64 xs[i]) (zu e) (by simp[hx]);generalize hv:vs[i]=v at this;cases this;rw[List.getElem_toArray,rx]
theorem LH(xs:List Int)(n:Nat)(h:xs.length=n):(List.range n).map (λk=>xs.getD k 0)=xs:=by
 subst h;apply zbd Ψ;intro i j e;simp[e]
theorem a1D{w:World}{imm:Nat->Nat->Prop}{m:Nat}{f:Nat->Int}{b:Bool}:Rd0 w imm (.tuple #[.agg ((List.range m).map λk=>Value.int .i64 (f k)).toArray,.bool b]) (.tup [.agg ((List.range m).map λk=>.int .i64 (f k)),.bool b]):=by
 refine .tup _ _ rfl λi v c hv hc=>?_;match i with
 | 0=>
  simp at hv hc;subst hv hc;refine .agg _ _ (by simp[PV.sc]) Ψ λi v c hv hc=>?_;have hi:i<m:=by
   have:=D4 hc;simpa using this
  simp[hi] at hv hc;subst hv hc;exact .int _ _
 | 1=>
  simp at hv hc;subst hv hc;exact .bool _
 | _+2=>simp at hc
theorem LM{P:Program}{σ:Nat->Option Row}{ρ:Operand->PV}{dst:Option Tmp}{n:Nat->Nat}{T:TypeId}{x:Operand}{xs:List Int}(hx:ρ x = .agg (xs.map (PV.int .i64)))(hT:tY P T=true)(hn:xs.length=n T)(hc:(PV.agg (xs.map (PV.int .i64))).iD=true:=by rfl) :
  E6 P σ ρ dst (.makeInterface T x) (ifE n ⟨T,xs⟩) .none:=by
 refine .pureV _ _ (λ_=>nofun) (λ_ _=>nofun) λo w imm μ u3 ev ho hr=>?_;have j:=hr x Ωb;rw[hx] at j;have m:=Ow (j.iD hc);have e:ifV n ⟨T,xs⟩ = .iface T (ev x):=by
  rw[m];show Value.iface T (.agg ((List.range (n T)).map λk=>Value.int .i64 (xs.getD k 0)).toArray)=_;rw[show (List.range (n T)).map (λk=>Value.int .i64 (xs.getD k 0))=((List.range (n T)).map λk=>xs.getD k 0).map (Value.int .i64) by rw[List.map_map];rfl,LH xs _ hn]
 refine⟨ifV n ⟨T,xs⟩,?_,.cl a3n⟩;rw[e];obtain⟨u,hu,hi⟩:=IT hT;simp only[execOp,ho,Instr.makeInterface,zt,zZ hu,zi];rfl
theorem GC{P:Program}{σ:Nat->Option Row}{ρ:Operand->PV}{dst:Option Tmp}{n:Nat->Nat}{xT A:TypeId}{x:Operand}{e:Vv}{zv:Value}{m:Nat}{d:PV}(hx:ρ x=ifE n e)(hA:tY P A=true)(hz:B1 P A=some zv)
  (hzv:zv = .agg (List.replicate m (.int .i64 0)).toArray)(hm:n A=m)(hd:PV.tup [.agg ((List.range m).map λk=>.int .i64 (KN e A k)),.bool (decide (e.t=A))]=d):E6 P σ ρ dst (.typeAssert x xT A true) d .none:=by
 subst hd;refine .pureV _ _ (λ_=>nofun) (λ_ _=>nofun) λo w imm μ u3 ev ho hr=>?_;have j:=hr x Ωb;rw[hx] at j;have p:ev x=ifV n e:=by
  have:=j.iD rfl;generalize ev x=v at this;unfold ifE at this;cases this with
  | abs R v ho h=>exact h w imm (.refl _ _)
 obtain⟨u,hu,hi⟩:=IT hA;refine⟨.tuple #[.agg ((List.range m).map λk=>Value.int .i64 (KN e A k)).toArray,.bool (decide (e.t=A))],?_,.cl a1D⟩;by_cases q:e.t=A
 .have y:((List.range (n A)).map λk=>Value.int .i64 (e.xs.getD k 0))=(List.range m).map λk=>Value.int .i64 (KN e A k):=by
   rw[hm];refine we λk _=>?_;unfold KN;rw[zc q]
  simp only[execOp,ho,Instr.typeAssert,zt,zZ hu,zi,p,ifV,q,wd,zY,y];rfl
 .have y:List.replicate m (Value.int .i64 0)=(List.range m).map λk=>Value.int .i64 (KN e A k):=by
   apply zbd Ψ;intro i j p;simp[KN,q]
  simp only[execOp,ho,Instr.typeAssert,zt,zZ hu,zi,p,ifV,q,wf,wd,zab,nx hz,hzv,y];rfl
section
variable{X:Ctx}{g:Gh}{st:St}{a:Act}{w:World}{n:Nat}{K:Act->World->Prop}{Q:Exit->Act->World->Prop}{ρ:Option Nat}{P:Program}
theorem XJ{o:Oper}{T:TypeId}{x y:Operand}{l i f:Nat}(h:D1 X g st a w)(ho:o.op = .store T x y)(e:∀t,o.dst=some t->t<X.N)(hx:B6 st.env x = .ptr l i f)(hy:B6 st.env y = .agg [])(hs:w9 X.P T=some 0)
  (C:∀B p w',D1 X B ⟨V1 st.env o.dst (.tup []),st.σ⟩ p w'->K p w'):o.wpIn (FX ρ) n X.P a w K Q:=by
 have m:=h.eval x;have q:=h.eval y;rw[hx] at m;rw[hy] at q;have A:a.eval y = .agg #[]:=Ow (xs:=[]) (q.iD rfl);have j:∃b,a.eval x = .pointer (some b):=by
  generalize a.eval x=u at m;cases m with
  | ptr l i f b s hp hA=>exact⟨_,rfl⟩
  | cl h=>cases h
 obtain⟨b,j⟩:=j;refine xA (w':=w) (λc=>Ωi) ?_ (C g _ _ (h.put e (.cl (.tup #[] [] rfl λi v c _ hc=>Ωj))));have hr:(Instr.storeAt T (a.eval x) (a.eval y)).run X.P w = .ok () w:=by
  rw[j,A];simp only[Instr.storeAt,Instr.sureAddr,zt,or,zi,storeVar,F8 hs,Value.cells];rfl
 obtain⟨dst,op,ty,pos,after,guard⟩:=o;simp only at ho;subst ho;exact OH hr
end
section
variable{X:Ctx}{ops:Array Oper}{i:Nat}{os:List Oper}{K:Ctx->St->Prop}{env:Nat->PV}{σ:Nat->Option Row}{ty:TypeId}{pos:String}{after:Array Edge}{gd:Option (Nat × Bool)}
theorem a2d{x y:Operand}{T:TypeId}{l j f:Nat}(hw:D9 ops env ⟨none,.store T x y,ty,pos,after,gd⟩=some true)(hx:B6 env x = .ptr l j f)(hy:B6 env y = .agg [])(hs:w9 X.P T=some 0)
  (k:Sq X ops (i+1) os K ⟨env,σ⟩):Sq X ops i (⟨none,.store T x y,ty,pos,after,gd⟩::os) K ⟨env,σ⟩:=M9 λho=>by
 intro hd n g a w next Qo e o;unfold wpOpIn;rw[ho];simp only;rw[zc (W3 e hw)];exact XJ (ρ:=X.ρ) e rfl (I7 hd ho) hx hy hs λq p w' m=>o X _ _ _ _ m ⟨⟨rfl,rfl⟩,rfl⟩ k
end
end Go.Pw
namespace Go.Pw
open Go.RowKit Go.Sh
section
variable{P:Program}{ops:Array Oper}{bar:List Nat}{i:Nat}{os:List Oper}{K:St->Prop}{env:Nat->PV}{σ:Nat->Option Row}{ty:TypeId}{pos:String}{after:Array Edge}{gd:Option (Nat × Bool)}
end
end Go.Pw
namespace Go.Pw
open Go.RowKit Go.Sh
section
variable{X:Ctx}{ops:Array Oper}{i:Nat}{os:List Oper}{K:Ctx->St->Prop}{env:Nat->PV}{σ:Nat->Option Row}{ty:TypeId}{pos:String}{after:Array Edge}{gd:Option (Nat × Bool)}{t:Tmp}
end
end Go.Pw
