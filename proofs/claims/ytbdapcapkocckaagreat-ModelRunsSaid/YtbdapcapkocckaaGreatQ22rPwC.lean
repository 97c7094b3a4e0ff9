/- A part. -/
import Derived.Test.YtbdapcapkocckaaGreatQ22rPwB
set_option linter.unusedVariables false
set_option linter.unusedSimpArgs false
set_option linter.unusedSectionVars false
namespace Go.Pw
open Go.RowKit
def tF(top env:Nat->PV):Nat->PV:=λi=>if i<1000000 then top i else env (i-1000000)
def pd(env:Nat->PV):Nat->PV:=λi=>env (i+1000000)
def md(ds:List Deferred):List (Nat × Obj):=ds.filterMap λd=>match d.target with
 | .collected r=>some (r,.deferred (some []))
 | _=>none
theorem mf(c:List Nat):md (c.map λr=>{ target:=.collected r,args:=#[] })=c.map λr=>(r,Obj.deferred (some [])):=by
 induction c with
 | nil=>rfl
 | cons r c ih=>
  unfold md at ih |-;rw[zT,List.filterMap_cons];simp only[ih,zT]
def Ctx.over(X:Ctx)(a:Act)(N:Nat)(ρ:Option Nat):Ctx:={ X with N:=N,ρ:=ρ,ext:=λi=>X.val a (i-1000000),obs:=md a.defers++X.obs,calm:=true }
section
variable{X:Ctx}{g:Gh}{st:St}{a:Act}{w:World}
theorem u7.push(h:u7 X g st a w){N:Nat}(ρ:Option Nat){tmps:Array Value}{top:Nat->PV}(o:N<=1000000)(hs:tmps.size=N)(ht:∀i,i<1000000->Rd w g.imm g.μ st.p6 (tmps.getD i undef) (top i)) :
  u7 (X.over a N ρ) g ⟨tF top st.env,st.σ⟩ { tmps:=tmps,defers:=[] } w:=by
 refine⟨hs,λi=>?_,h.rows,h.disj,h.ownimm,h.immlt,h.immsub,h.immsup,h.below,⟨[],zb4,rfl,λr hr=>by cases hr⟩,λp hp=>?_,⟨o,λ_=>rfl⟩,h.maps⟩
 .by_cases q:i<1000000
  .have c:(X.over a N ρ).val { tmps:=tmps,defers:=[] } i=tmps.getD i undef:=zb q;have e:tF top st.env i=top i:=zb q;show Rd w g.imm g.μ st.p6 _ (tF top st.env i);rw[c,e];exact ht i q
  .have c:(X.over a N ρ).val { tmps:=tmps,defers:=[] } i=X.val a (i-1000000):=by
    unfold Ctx.over;rw[Ctx.val,za q]
   have e:tF top st.env i=st.env (i-1000000):=za q;show Rd w g.imm g.μ st.p6 _ (tF top st.env i);rw[c,e];exact h.env _
 .rcases zH.1 hp with hp | hp
  .obtain⟨u,_,j,m⟩:=h.marks;rw[j,mf] at hp;obtain⟨r,hr,rfl⟩:=zn.1 hp;exact⟨(m r hr).1,rfl,rfl⟩
  .exact h.obs p hp
theorem u7.pop{N:Nat}{ρ:Option Nat}{st':St}{c:Act}{w0:World}(h0:u7 X g st a w0){e:Gh}(h:u7 (X.over a N ρ) e st' c w):u7 X e ⟨pd st'.env,st'.σ⟩ a w:=by
 refine⟨h0.size,λi=>?_,h.rows,h.disj,h.ownimm,h.immlt,h.immsub,h.immsup,h.below,?_,λp hp=>h.obs p (t6 _ hp),h0.big,h.maps⟩
 .have:=h.env (i+1000000);have m:(X.over a N ρ).val c (i+1000000)=X.val a i:=by
   have q:¬i+1000000<1000000:=Δ
   unfold Ctx.over;rw[Ctx.val,za q];simp only[Nat.add_sub_cancel]
  rw[m] at this;exact this
 .obtain⟨y,o,j,u⟩:=h0.marks;refine⟨y,o,j,λr hr=>⟨?_,(u r hr).2⟩⟩;refine (h.obs (r,.deferred (some [])) (rx _ ?_)).1;rw[j,mf];exact zn.2 ⟨r,hr,rfl⟩
theorem u7.WK(h:u7 X g st a w){l:Nat}{o o':Obj}(hl:w.heap[l]? = some o)(hc:o.isCells=false)(hm:dS o=false)(c:o'.isCells=false)(hb:X.w0.heap.size<=l)(C:o ≠ .deferred (some [])){obs:List (Nat × Obj)}
  (y:∀p∈obs,(p=(l,o'))\/(p.1≠l/\p∈X.obs))(G:dS o'=false:=by rfl):u7 { X with obs:=obs } g st a (w.putObj l o'):=by
 have m:l<w.heap.size:=(wp.1 hl).1;have hcell:∀b i,(w.putObj l o').cell? ⟨b,i,none⟩=w.cell? ⟨b,i,none⟩:=by
  intro b i;by_cases e:b=l
  .subst e;have none_of:∀(W:World) (o:Obj),W.heap[b]? = some o->o.isCells=false->W.cell? ⟨b,i,none⟩=none:=by
    intro W o hW ho;cases hq:W.cell? ⟨b,i,none⟩ with
    | none=>rfl
    | some u=>
     obtain⟨o2,k1,k2⟩:=cells_of_cell hq;rw[show W.heap[b]? = some o2 from k1] at hW;cases hW;rw[k2] at ho;cases ho
   rw[none_of _ _ (World.putObj_heap_same m) c,none_of _ _ hl hc]
  .exact World.cell?_of_block Δg
 have j:∀b i,(w.putObj l o').frozen? ⟨b,i,none⟩=w.frozen? ⟨b,i,none⟩\/b=l:=by
  intro b i;by_cases e:b=l
  .exact .inr e
  .left;unfold World.frozen?;simp only;rw[World.putObj_heap_other e]
 have hx:Ext w g.imm (w.putObj l o') g.imm:=⟨λ_ _ q=>q,λb i _=>hcell b i,λb i x _ hx hmx=>by
  by_cases e:b=l
  .subst e;rw[hl] at hx;cases hx;rw[hm] at hmx;cases hmx
  .rw[World.putObj_heap_other e];exact hx⟩
 refine⟨h.size,λi=>(h.env i).mono hx λ_ q=>⟨q,rfl⟩,λl' r q=>(h.rows l' r q).mono hx (λ_ k=>⟨k,rfl⟩) λb i ho=>⟨hcell b i,?_⟩,h.disj,h.ownimm,λb i q=>?_,h.immsub,h.immsup,?_,?_,λp hp=>?_,h.big,h.maps.move hx (λ_ _ _ q _ _=>q) λk x H q2=>?_⟩
 .rcases j b i with e | e
  .exact e
  .subst e;obtain⟨_,A,_⟩:=(h.rows l' r q).own b i ho;obtain⟨u,hu⟩:=zal.1 A;obtain⟨o2,k1,k2⟩:=cells_of_cell hu;simp only at k1;rw[hl] at k1;cases k1;rw[hc] at k2;cases k2
 .have:=h.immlt b i q;simpa[World.putObj] using this
 .exact h.below.trans ⟨⟨rfl,rfl,rfl,by simp[World.putObj],λk hk=>World.putObj_heap_other Δ⟩,zC _⟩
 .obtain⟨rs,h1,A,B⟩:=h.marks;refine⟨rs,h1,A,λr hr=>⟨?_,(B r hr).2⟩⟩;rw[World.putObj_heap_other (λe=>by subst e;have N:=(B _ hr).1;rw[hl] at N;exact C (zK N))];exact (B r hr).1
 .rcases y p hp with rfl | ⟨k1,k2⟩
  .exact⟨World.putObj_heap_same m,c,G⟩
  .rw[World.putObj_heap_other k1];exact h.obs p k2
 .by_cases e:k=l
  .subst e;rw[hl] at H;cases H;rw[hm] at q2;cases q2
  .rw[World.putObj_heap_other e];exact H
theorem u7.mark(h:u7 X g st a w){D:Nat}(m:w.heap[D]? = some (.deferred (some [])))(hb:X.w0.heap.size<=D)(hn:∀d∈a.defers,d.target ≠ .collected D)(hc:X.calm=false) :
  u7 X g st { a with defers:={ target:=.collected D,args:=#[] }::a.defers } w:=by
 obtain⟨o,e,c,j⟩:=h.marks;refine⟨h.size,h.env,h.rows,h.disj,h.ownimm,h.immlt,h.immsub,h.immsup,h.below,⟨D::o,?_,by rw[c];rfl,λr hr=>?_⟩,h.obs,⟨h.big.1,λq=>(by rw[hc] at q;cases q)⟩,h.maps⟩
 .refine me.2 ⟨λhr=>?_,e⟩;exact hn { target:=.collected D,args:=#[] } (by rw[c];exact zn.2 ⟨D,hr,rfl⟩) rfl
 .rcases zJ.1 hr with rfl | hr
  .exact⟨m,hb⟩
  .exact j r hr
theorem u7.RH(h:u7 X g st a w):∀d∈a.defers,∀r,d.target = .collected r->r<w.heap.size:=by
 obtain⟨j,_,c,e⟩:=h.marks;intro d hd r hr;rw[c] at hd;obtain⟨k,hk,rfl⟩:=zn.1 hd;cases hr;exact (wp.1 (e _ hk).1).1
theorem u7.watch(h:u7 X g st a w){l:Nat}{o:Obj}(hl:w.heap[l]? = some o)(hc:o.isCells=false)(hm:dS o=false:=by rfl):u7 { X with obs:=(l,o)::X.obs } g st a w:=
 ⟨h.size,h.env,h.rows,h.disj,h.ownimm,h.immlt,h.immsub,h.immsup,h.below,h.marks,λp hp=>by
  rcases zJ.1 hp with rfl | hp
  .exact⟨hl,hc,hm⟩
  .exact h.obs p hp,h.big,h.maps⟩
end
end Go.Pw
namespace Go.Pw
open Go.RowKit Go.Sh
section
variable{X:Ctx}{Q:PX->Ctx->St->Prop}{st:St}{ops:Array Oper}{i:Nat}{os:List Oper}{K:Ctx->St->Prop}{env:Nat->PV}{σ:Nat->Option Row}{ty:TypeId}{pos:String}{after:Array Edge}{gd:Option (Nat × Bool)}{op:Op}{t:Tmp}{d:PV}
theorem y0(hw:C9 ops env ⟨some t,op,ty,pos,after,gd⟩=some true)(h:G4 X.P σ (B8 env) (some t) op d .none)(k:Sq X ops (i+1) os K ⟨A3 env t d,σ⟩):Sq X ops i (⟨some t,op,ty,pos,after,gd⟩::os) K ⟨env,σ⟩:=
 qd (.run d .none hw h ⟨I8.refl _,H4.refl _⟩ trivial (λ_=>rfl) (λq=>nomatch q)) k
theorem y1{r:Row}(hw:C9 ops env ⟨some t,op,ty,pos,after,gd⟩=some true)(h:G4 X.P σ (B8 env) (some t) op d (.new t r))(hf:σ t=none)(k:Sq X ops (i+1) os K ⟨A3 env t d,A3 σ t (some r)⟩):Sq X ops i (⟨some t,op,ty,pos,after,gd⟩::os) K ⟨env,σ⟩:=
 qd (.run d (.new t r) hw h ⟨I8.refl _,H4.refl _⟩ hf (λq=>nomatch q) (λq=>nomatch q)) k
theorem ee(hw:C9 ops env ⟨some t,op,ty,pos,after,gd⟩=some false)(k:Sq X ops (i+1) os K ⟨A3 env t (.tup []),σ⟩):Sq X ops i (⟨some t,op,ty,pos,after,gd⟩::os) K ⟨env,σ⟩:=qd (.skip hw) k
theorem TL.ex{P:Program}{bar:List Nat}{o:Oper}{s:St}{K:St->Prop}(h:TL P ops true (kept bar) (cls bar i o.op) o st s)(k:Ex P ops bar true (i+1) os s K):Ex P ops bar true i (o::os) st K:=⟨s,h,k⟩
theorem O{g:Bool}(hw:C9 ops env ⟨some t,op,ty,pos,after,gd⟩=some g)(h:g=true->G4 X.P σ (B8 env) (some t) op d .none)(k:Sq X ops (i+1) os K ⟨A3 env t (cond g d (.tup [])),σ⟩):Sq X ops i (⟨some t,op,ty,pos,after,gd⟩::os) K ⟨env,σ⟩:=by
 cases g;·exact ee hw k
 .exact y0 hw (h rfl) k
theorem TA{g:Bool}(hw:C9 ops env ⟨some t,op,ty,pos,after,gd⟩=some g)(h:g=true->G4 X.P σ (B8 env) (some t) op d (.oe []))(k:Sq X ops (i+1) os K ⟨A3 env t (cond g d (.tup [])),σ⟩):Sq X ops i (⟨some t,op,ty,pos,after,gd⟩::os) K ⟨env,σ⟩:=by
 cases g;·exact ee hw k
 .exact qd (.run d (.oe []) hw (h rfl) ⟨I8.refl _,H4.refl _⟩ trivial (λq=>nomatch q) (λq=>nomatch q)) k
theorem Tt{ops:Array Oper}{env:Nat->PV}{o:Oper}{j u:Nat}{want g b:Bool}(c:o.guard=some (j,want))(hd:(ops[j]?).bind (·.dst)=some u)(h:B8 env (.tmp u)=cond g (.bool b) (.tup [])):C9 ops env o=some (g&&(b==want)):=by
 unfold C9;rw[c];simp only[hd,h];cases g <;> rfl
theorem eZ{x y:Operand}{T:TypeId}{l q n:Nat}{x0 x' d:PV}{cs:List PV}{opn:Bool}{z:Nat}{cl cl':Bool}(hw:C9 ops env ⟨none,.store T x y,ty,pos,after,gd⟩=some true)(hx:B8 env x = .ptr l 0 q)(hy:B8 env y=d\/(B8 env y).w1=d)(hs:u5 X.P T=some n)(k:Sq X ops (i+1) os K ⟨env,A3 σ l (some ⟨[x'],0,opn,z,cl'⟩)⟩)(hl:σ l=some ⟨[x0],0,opn,z,cl⟩:=by rfl)
  (hc:d.cells=cs:=by rfl)(he:d.el=true:=by rfl)(hp:0<n:=by exact zP rfl)(hn:cs.length=n:=by rfl)(hf:q+n<=x0.cells.length:=by exact zP rfl)(hsc:cs.all PV.sc=true:=by rfl)(c:K8 x0 q cs=x':=by rfl)(hcl:(cl&&cs.all PV.Z1)=cl':=by rfl) :
  Sq X ops i (⟨none,.store T x y,ty,pos,after,gd⟩::os) K ⟨env,σ⟩:=by
 subst c;subst hcl;have h:G4 X.P σ (B8 env) none (.store T x y) (.tup []) (.sto l 0 q cs):=wc hx hy hc he hs hp hn;have:=qd (X:=X) (K:=K) (os:=os) (i:=i) (ops:=ops) (st:=⟨env,σ⟩) (.run (.tup []) (.sto l 0 q cs) hw h ⟨I8.refl _,H4.refl _⟩ ⟨_,x0,hl,rfl,zC _,by rw[hn];exact hf,hsc⟩ (λq=>nomatch q) (λq=>nomatch q));refine this ?_;simp only[aj.apply,hl];exact k
theorem gW{α:Type}{f:α->PV}{xs:List α}{e v:α}{m:Int}{x y:Operand}{T:TypeId}{l q n:Nat}{d:PV}{cs:List PV}{opn:Bool}{z:Nat}(h:ix xs m=some e)(hw:C9 ops env ⟨none,.store T x y,ty,pos,after,gd⟩=some true)(hx:B8 env x = .ptr l m.toNat q)(hy:B8 env y=d\/(B8 env y).w1=d)(hs:u5 X.P T=some n)(k:Sq X ops (i+1) os K ⟨env,A3 σ l (some ⟨(xs.set m.toNat v).map f,0,opn,z,true⟩)⟩)(hl:σ l=some ⟨xs.map f,0,opn,z,true⟩:=by rfl)
  (hc:d.cells=cs:=by rfl)(he:d.el=true:=by rfl)(hp:0<n:=by exact zP rfl)(hn:cs.length=n:=by rfl)(hf:q+n<=(f e).cells.length:=by exact zP rfl)(hsc:cs.all PV.sc=true:=by rfl)(c:K8 (f e) q cs=f v:=by rfl)(hcl:cs.all PV.Z1=true:=by rfl) :
  Sq X ops i (⟨none,.store T x y,ty,pos,after,gd⟩::os) K ⟨env,σ⟩:=by
 have h0:G4 X.P σ (B8 env) none (.store T x y) (.tup []) (.sto l m.toNat q cs):=wc hx hy hc he hs hp hn;have j:=(xB f h).2;have:=qd (X:=X) (K:=K) (os:=os) (i:=i) (ops:=ops) (st:=⟨env,σ⟩) (.run (.tup []) (.sto l m.toNat q cs) hw h0 ⟨I8.refl _,H4.refl _⟩ ⟨_,f e,hl,j,zU _,by rw[hn];exact hf,hsc⟩ (λq=>nomatch q) (λq=>nomatch q));refine this ?_;simp only[aj.apply,hl,j,c,hcl,zax];rw[<-zca];exact k
theorem G3{s:Nat}{r q:Row}(hw:C9 ops env ⟨some t,op,ty,pos,after,gd⟩=some true)(h:G4 X.P σ (B8 env) (some t) op d (.app s t r))(hf:σ t=none)(c:σ s=some q)(ho:q.opn=true)
  (k:Sq X ops (i+1) os K ⟨A3 env t d,A3 (A3 σ s (some ⟨q.els,q.els.length,false,q.z,q.cl⟩)) t (some r)⟩):Sq X ops i (⟨some t,op,ty,pos,after,gd⟩::os) K ⟨env,σ⟩:=by
 have:=qd (X:=X) (K:=K) (os:=os) (i:=i) (ops:=ops) (st:=⟨env,σ⟩) (.run d (.app s t r) hw h ⟨I8.refl _,H4.refl _⟩ ⟨hf,q,c,ho⟩ (λq=>nomatch q) (λq=>nomatch q));refine this ?_;simp only[aj.apply,c];exact k
theorem yc(hw:C9 ops env ⟨some t,op,ty,pos,after,gd⟩=some true)(h:G4 X.P σ (B8 env) (some t) op d (.oe []))(k:Sq X ops (i+1) os K ⟨A3 env t d,σ⟩):Sq X ops i (⟨some t,op,ty,pos,after,gd⟩::os) K ⟨env,σ⟩:=
 qd (.run d (.oe []) hw h ⟨I8.refl _,H4.refl _⟩ trivial (λq=>nomatch q) (λq=>nomatch q)) k
theorem Ka{ls:List Nat}{σ':Nat->Option Row}(hw:C9 ops env ⟨some t,op,ty,pos,after,gd⟩=some true)(h:G4 X.P σ (B8 env) (some t) op d (.oe ls))(hs:V1 σ ls=σ')(k:Sq X ops (i+1) os K ⟨A3 env t d,σ'⟩):Sq X ops i (⟨some t,op,ty,pos,after,gd⟩::os) K ⟨env,σ⟩:=by
 subst hs;exact qd (.run d (.oe ls) hw h ⟨I8.refl _,H4.refl _⟩ trivial (λq=>nomatch q) (λq=>nomatch q)) k
theorem NL{ls:List Nat}{σ':Nat->Option Row}{r:Row}(hw:C9 ops env ⟨some t,op,ty,pos,after,gd⟩=some true)(h:G4 X.P σ (B8 env) (some t) op d (.frzN ls t r))(hf:σ t=none)(hs:V1 σ ls=σ')(k:Sq X ops (i+1) os K ⟨A3 env t d,A3 σ' t (some r)⟩):Sq X ops i (⟨some t,op,ty,pos,after,gd⟩::os) K ⟨env,σ⟩:=by
 subst hs;exact qd (.run d (.frzN ls t r) hw h ⟨I8.refl _,H4.refl _⟩ hf (λq=>nomatch q) (λq=>nomatch q)) k
theorem a1x{l:Nat}{ys es:List PV}{q:Row}(hw:C9 ops env ⟨some t,op,ty,pos,after,gd⟩=some true)(h:G4 X.P σ (B8 env) (some t) op d (.AE l ys))(hl:σ l=some q)(hlo:q.lo=0)(hn:ys.length<=q.els.length)(he:ys++q.els.drop ys.length=es)
  (k:Sq X ops (i+1) os K ⟨A3 env t d,A3 σ l (some ⟨es,q.lo,q.opn,q.z,q.cl⟩)⟩):Sq X ops i (⟨some t,op,ty,pos,after,gd⟩::os) K ⟨env,σ⟩:=by
 have:=qd (X:=X) (K:=K) (os:=os) (i:=i) (ops:=ops) (st:=⟨env,σ⟩) (.run d (.AE l ys) hw h ⟨I8.refl _,H4.refl _⟩ ⟨q,hl,hlo,hn⟩ (λq=>nomatch q) (λq=>nomatch q));refine this ?_;subst he;simp only[aj.apply,hl];exact k
end
section
variable{P:Program}{ops:Array Oper}{bar:List Nat}{i:Nat}{os:List Oper}{K:St->Prop}{env:Nat->PV}{σ:Nat->Option Row}{ty:TypeId}{pos:String}{after:Array Edge}{gd:Option (Nat × Bool)}{op:Op}{t:Tmp}{d:PV}
theorem E9(h:K ⟨env,σ⟩):Ex P ops bar true i [] ⟨env,σ⟩ K:=h
theorem d7(hw:C9 ops env ⟨some t,op,ty,pos,after,gd⟩=some true)(h:∀σ',H4 (kept bar) σ σ'->G4 P σ' (B8 env) (some t) op d .none)(c:cls bar i op=7)(k:Ex P ops bar true (i+1) os ⟨A3 env t d,σ⟩ K) :
  Ex P ops bar true i (⟨some t,op,ty,pos,after,gd⟩::os) ⟨env,σ⟩ K:=x7 hw h c k
theorem d0(hw:C9 ops env ⟨some t,op,ty,pos,after,gd⟩=some true)(h:G4 P σ (B8 env) (some t) op d .none)(hc:cls bar i op=0)(k:Ex P ops bar true (i+1) os ⟨A3 env t d,σ⟩ K) :
  Ex P ops bar true i (⟨some t,op,ty,pos,after,gd⟩::os) ⟨env,σ⟩ K:=x0 hw h (λ_=>by rw[hc];rfl) k
theorem d2(hw:C9 ops env ⟨some t,op,ty,pos,after,gd⟩=some true)(h:G4 P σ (B8 env) (some t) op d .none)(hc:cls bar i op=2)(k:Ex P ops bar true (i+1) os ⟨A3 env t d,σ⟩ K) :
  Ex P ops bar true i (⟨some t,op,ty,pos,after,gd⟩::os) ⟨env,σ⟩ K:=x0 hw h (λ_=>by rw[hc];exact .inl rfl) k
theorem d5(hw:C9 ops env ⟨some t,op,ty,pos,after,gd⟩=some true)(h:G4 P σ (B8 env) (some t) op d .none)(hc:cls bar i op=5)(k:Ex P ops bar true (i+1) os ⟨A3 env t d,σ⟩ K) :
  Ex P ops bar true i (⟨some t,op,ty,pos,after,gd⟩::os) ⟨env,σ⟩ K:=x0 hw h (λ_=>by rw[hc];exact .inl rfl) k
theorem cu(hw:C9 ops env ⟨some t,op,ty,pos,after,gd⟩=some true)(h:G4 P σ (B8 env) (some t) op d (.oe []))(hc:cls bar i op=2)(k:Ex P ops bar true (i+1) os ⟨A3 env t d,σ⟩ K) :
  Ex P ops bar true i (⟨some t,op,ty,pos,after,gd⟩::os) ⟨env,σ⟩ K:=a1u hw h (λ_=>by rw[hc];exact .inr (.inl rfl)) k
theorem d5f{ls:List Nat}{σ':Nat->Option Row}(hw:C9 ops env ⟨some t,op,ty,pos,after,gd⟩=some true)(h:G4 P σ (B8 env) (some t) op d (.oe ls))(hs:V1 σ ls=σ')(hc:cls bar i op=5)(k:Ex P ops bar true (i+1) os ⟨A3 env t d,σ'⟩ K) :
  Ex P ops bar true i (⟨some t,op,ty,pos,after,gd⟩::os) ⟨env,σ⟩ K:=by
 subst hs;exact⟨_,.run d (.oe ls) hw h ⟨I8.refl _,H4.refl _⟩ trivial (λ_=>rfl) (λ_=>by rw[hc];exact .inr (.inl ⟨_,rfl⟩)),k⟩
variable {r:Row}{g:Bool}
theorem d2N(hw:C9 ops env ⟨some t,op,ty,pos,after,gd⟩=some true)(h:G4 P σ (B8 env) (some t) op d (.frzN [] t r))(hf:σ t=none)(ht:(aj.frzN [] t r).off (kept bar)=true)(hc:cls bar i op=2)(k:Ex P ops bar true (i+1) os ⟨A3 env t d,A3 σ t (some r)⟩ K) :
  Ex P ops bar true i (⟨some t,op,ty,pos,after,gd⟩::os) ⟨env,σ⟩ K:=a0e hw h hf (λ_=>ht) (λ_=>by rw[hc];exact .inr (.inr ⟨_,_,rfl⟩)) k
theorem d1(hw:C9 ops env ⟨some t,op,ty,pos,after,gd⟩=some true)(h:G4 P σ (B8 env) (some t) op d (.new t r))(hf:σ t=none)(ht:(aj.new t r).off (kept bar)=true)(hc:cls bar i op=1)(k:Ex P ops bar true (i+1) os ⟨A3 env t d,A3 σ t (some r)⟩ K) :
  Ex P ops bar true i (⟨some t,op,ty,pos,after,gd⟩::os) ⟨env,σ⟩ K:=x1 hw h hf (λ_=>ht) (λ_=>by rw[hc];exact .inr ⟨_,_,rfl⟩) k
theorem Ow(hw:C9 ops env ⟨some t,op,ty,pos,after,gd⟩=some true)(h:G4 P σ (B8 env) (some t) op d .none)(hc:cls bar i op=1)(k:Ex P ops bar true (i+1) os ⟨A3 env t d,σ⟩ K) :
  Ex P ops bar true i (⟨some t,op,ty,pos,after,gd⟩::os) ⟨env,σ⟩ K:=x0 hw h (λ_=>by rw[hc];exact .inl rfl) k
theorem d3(hw:C9 ops env ⟨some t,op,ty,pos,after,gd⟩=some true)(h:G4 P σ (B8 env) (some t) op d (.new t r))(hf:σ t=none)(ht:(aj.new t r).off (kept bar)=true)(hc:cls bar i op=3)(k:Ex P ops bar true (i+1) os ⟨A3 env t d,A3 σ t (some r)⟩ K) :
  Ex P ops bar true i (⟨some t,op,ty,pos,after,gd⟩::os) ⟨env,σ⟩ K:=x1 hw h hf (λ_=>ht) (λ_=>by rw[hc];exact .inl ⟨_,_,rfl⟩) k
theorem Yi{s:Nat}{q:Row}(hw:C9 ops env ⟨some t,op,ty,pos,after,gd⟩=some true)(h:G4 P σ (B8 env) (some t) op d (.app s t r))(hf:σ t=none)(c:σ s=some q)(ho:q.opn=true)(ht:(aj.app s t r).off (kept bar)=true)(hc:cls bar i op=3)
  (k:Ex P ops bar true (i+1) os ⟨A3 env t d,A3 (A3 σ s (some ⟨q.els,q.els.length,false,q.z,q.cl⟩)) t (some r)⟩ K) :
  Ex P ops bar true i (⟨some t,op,ty,pos,after,gd⟩::os) ⟨env,σ⟩ K:=a1t hw h hf c ho (λ_=>ht) (λ_=>by rw[hc];exact .inr ⟨_,_,_,rfl⟩) k
theorem cU(hw:C9 ops env ⟨some t,op,ty,pos,after,gd⟩=some g)(h:g=true->∀σ',H4 (kept bar) σ σ'->G4 P σ' (B8 env) (some t) op d .none)(hc:cls bar i op=7)(k:Ex P ops bar true (i+1) os ⟨A3 env t (cond g d (.tup [])),σ⟩ K) :
  Ex P ops bar true i (⟨some t,op,ty,pos,after,gd⟩::os) ⟨env,σ⟩ K:=by
 cases g;·exact HJ hw k
 .exact x7 hw (h rfl) hc k
theorem cE(hw:C9 ops env ⟨some t,op,ty,pos,after,gd⟩=some g)(h:g=true->G4 P σ (B8 env) (some t) op d .none)(hc:cls bar i op=0)(k:Ex P ops bar true (i+1) os ⟨A3 env t (cond g d (.tup [])),σ⟩ K) :
  Ex P ops bar true i (⟨some t,op,ty,pos,after,gd⟩::os) ⟨env,σ⟩ K:=by
 cases g;·exact HJ hw k
 .exact d0 hw (h rfl) hc k
theorem Bu(hw:C9 ops env ⟨some t,op,ty,pos,after,gd⟩=some g)(h:g=true->G4 P σ (B8 env) (some t) op d .none)(hc:cls bar i op=2)(k:Ex P ops bar true (i+1) os ⟨A3 env t (cond g d (.tup [])),σ⟩ K) :
  Ex P ops bar true i (⟨some t,op,ty,pos,after,gd⟩::os) ⟨env,σ⟩ K:=by
 cases g;·exact HJ hw k
 .exact d2 hw (h rfl) hc k
theorem FO(hw:C9 ops env ⟨some t,op,ty,pos,after,gd⟩=some g)(h:g=true->G4 P σ (B8 env) (some t) op d (.oe []))(hc:cls bar i op=2)(k:Ex P ops bar true (i+1) os ⟨A3 env t (cond g d (.tup [])),σ⟩ K) :
  Ex P ops bar true i (⟨some t,op,ty,pos,after,gd⟩::os) ⟨env,σ⟩ K:=by
 cases g;·exact HJ hw k
 .exact cu hw (h rfl) hc k
theorem B4{x y:Operand}{T:TypeId}{l q n:Nat}{x0 x' d:PV}{cs:List PV}{opn:Bool}{z:Nat}{cl cl':Bool}(hw:C9 ops env ⟨none,.store T x y,ty,pos,after,gd⟩=some true)(hx:B8 env x = .ptr l 0 q)(hy:B8 env y=d\/(B8 env y).w1=d)(hs:u5 P T=some n)(k:Ex P ops bar true (i+1) os ⟨env,A3 σ l (some ⟨[x'],0,opn,z,cl'⟩)⟩ K)(hl:σ l=some ⟨[x0],0,opn,z,cl⟩:=by rfl)
  (hc:d.cells=cs:=by rfl)(he:d.el=true:=by rfl)(hp:0<n:=by exact zP rfl)(hn:cs.length=n:=by rfl)(hf:q+n<=x0.cells.length:=by exact zP rfl)(hsc:cs.all PV.sc=true:=by rfl)(c:K8 x0 q cs=x':=by rfl)(hcl:(cl&&cs.all PV.Z1)=cl':=by rfl)(ht:(aj.sto l 0 q cs).off (kept bar)=true:=by rfl)(e:cls bar i (.store T x y)=4:=by rfl):Ex P ops bar true i (⟨none,.store T x y,ty,pos,after,gd⟩::os) ⟨env,σ⟩ K:=
 XF hw (wc hx hy hc he hs hp hn) hl rfl (zC _) (by rw[hn];exact hf) hsc hcl c rfl (λ_=>ht) (λ_=>by rw[e];trivial) k
end
section
variable{X:Ctx}{Q:PX->Ctx->St->Prop}{st:St}
theorem Zt{J R:Type}{x y:Code}{κ:J->Option R}{r:R}(F:J->St)(hk:∀j,κ j=some r->aA X y Q (F j))(hx:aA X x (mB (λX' s=>X'=X/\∃j,κ j=some r/\Wk s (F j)) Q) st):aA X (.seq x y) Q st:=
 g6 (hx.mono λe X' s q=>by
  cases e <;> simp only[mB] at q |- <;> first | exact q | (
   obtain⟨rfl,j,c,m⟩:=q;exact de m (hk j c)))
theorem a1h{S E:Type}{f:S->Option (S ⊕ E)}{s0:S}{e:E}{c:Code}(I:S->Ctx->St->Prop)(h:lp f s0=some e)(h0:∃o,Wk st o/\I s0 X o)(hX:∀s X1 s1,I s X1 s1->X1.P=X.P/\X1.ρ=X.ρ)
  (hr:∀s X1 s1,I s X1 s1->∀x,f s=some x->(∀p,x = .inr p->p=e)->aA X1 c (mB (λX' s'=>∃s2,x = .inl s2/\∃s'',Wk s' s''/\I s2 X' s'') Q) s1):aA X (.loop c) Q st:=by
 intro n g a w hs;let J:Nat->Act->World->Prop:=λm a w=>∃s X1 u s1,u7 X1 u s1 a w/\I s X1 s1/\TG f m s=some e
 have least:∀a w,∃k,(∃m,J m a w)->J k a w/\∀m,J m a w->k<=m:=by
  intro a w;by_cases q:∃m,J m a w
  .obtain⟨k,C,H⟩:=vi q;exact⟨k,λ_=>⟨C,H⟩⟩
  .exact⟨0,λh=>absurd h q⟩
 obtain⟨o,hw1,N⟩:=h0;obtain⟨u,hs1⟩:=hw1 X g a w hs;refine wpIn_loop (λa w=>∃m,J m a w) (λa w=>Classical.choose (least a w)) ⟨_,s0,X,u,o,hs1,N,by rw[<-MS];exact h⟩ ?_;rintro a w hI;obtain⟨⟨s,X1,u,s1,k1,k2,j⟩,_⟩:=zb6 (least a w) hI;generalize hm:Classical.choose (least a w)=m at j |-;obtain⟨hP,A⟩:=hX s X1 s1 k2;cases m with
 | zero=>rw[IS] at j;cases j
 | succ m=>
  rw[qT] at j;cases hf:f s with
  | none=>rw[hf] at j;cases j
  | some x=>
   have hx:∀p,x = .inr p->p=e:=λp q=>by
    rw[hf,q] at j;exact zK j
   have:=hr s X1 s1 k2 x hf hx n u a w k1;rw[hP,A] at this;refine zb1 this λex B w' q=>?_;rw[vI ⟨hP,A⟩] at q;cases ex <;> simp only[lift,mB,Exit.then] at q |- <;> first | exact q | skip
   obtain⟨X',g',st',C,_,s2,hx2,s'',hw2,H⟩:=q;obtain⟨g2,G⟩:=hw2 X' g' B w' C;have hJ:J m B w':=⟨s2,X',g2,s'',G,H,by rw[hf,hx2] at j;exact j⟩;have y:∃m,J m B w':=⟨m,hJ⟩;exact⟨y,Nat.lt_succ_of_le ((zb6 (least B w') y).2 m hJ)⟩
theorem Zw{S E:Type}{f:S->Option (S ⊕ E)}{s0:S}{e:E}{c:Code}(F:S->St)(h:lp f s0=some e)(h0:Wk st (F s0))
  (hr:∀s x,f s=some x->(∀j,x = .inr j->j=e)->aA X c (mB (λX' s'=>X'=X/\∃s2,x = .inl s2/\Wk s' (F s2)) Q) (F s)):aA X (.loop c) Q st:=
 a1h (λs X1 s1=>X1=X/\s1=F s) h ⟨_,h0,rfl,rfl⟩ (λs X1 s1 q=>by rw[q.1];exact⟨rfl,rfl⟩) (by
  rintro s _ _ ⟨rfl,rfl⟩ x hf hx;refine (hr s x hf hx).mono λex X' s' q=>?_;cases ex <;> simp only[mB] at q |- <;> first | exact q | (
   obtain⟨m,s2,o,p⟩:=q;exact⟨s2,o,_,p,m,rfl⟩))
end
end Go.Pw
namespace Go.Pw
open Go.RowKit Go.Sh
abbrev Ls{α:Type}(f:α->PV)(l:List α):PV:=.lst false (l.map f)
abbrev _root_.Go.Sh.A4.Pc(x:A4):List PV:=[.int .i64 x.a,.int .i64 x.b,.int .i64 x.c,.int .i64 x.d]
abbrev _root_.Go.Sh.A4.Pv(x:A4):PV:=.agg x.Pc
section
variable{P:Program}{σ:Nat->Option Row}{ρ:Operand->PV}{dst:Option Tmp}
theorem pc{c a b:Operand}{x:Bool}(hc:ρ c = .bool x)(hb:ρ b = .bool false)(e:(x==true)=false):G4 P σ ρ dst (.pick c a b) (.bool false) .none:=by
 have:=G4.pick (P:=P) (σ:=σ) (dst:=dst) c a b x hc;rw[hb] at this;cases x;·exact this
 .cases e
theorem mn{c a b:Operand}{x y:Bool}(hc:ρ c = .bool x)(ha:ρ a = .bool y)(e:(x==true)=true):G4 P σ ρ dst (.pick c a b) (.bool y) .none:=by
 have:=G4.pick (P:=P) (σ:=σ) (dst:=dst) c a b x hc;rw[ha] at this;cases x;·cases e
 .exact this
def Et(P:Program)(t:TypeId):Option Nat:=match P.underlying t with
 | some .bool=>some 0
 | some (.int _)=>some 1
 | some .string=>some 2
 | _=>none
def BF(P:Program):Nat->List Field->Option (List Nat)
 | _,[]=>some []
 | i,f::fs=>if f.name ≠ "_" /\ f.offset=i/\K5 P f.type=some false then match Et P f.type,BF P (i+1) fs with
  | some k,some ks=>some (k::ks)
  | _,_=>none
  else none
def oJ(P:Program)(t:TypeId):Option (List Nat):=
 if P.eqGuardType P.depth t=true then none else match P.underlying t with
  | some (.struct fs)=>if P.stoodInHeld t=true then none else BF P 0 fs.toList
  | some (.array n e)=>if n=4/\K5 P e=some false/\u5 P e=some 1 then (Et P e).map λk=>[k,k,k,k] else none
  | _=>none
def Xh:Nat->PV->PV->Option Bool
 | 0,.bool a,.bool b=>some (a==b)
 | 1,.int k a,.int k' b=>if k=k' then some (a==b) else none
 | 2,.str a,.str b=>some (a.toList==b.toList)
 | _,_,_=>none
def DF:List Nat->List PV->List PV->Option Bool
 | [],[],[]=>some true
 | k::ks,x::xs,y::ys=>match Xh k x y,DF ks xs ys with
  | some a,some b=>some (a&&b)
  | _,_=>none
 | _,_,_=>none
section
variable{w:World}{imm:Nat->Nat->Prop}{μ:Nat->O0}{p6:Nat->Prop}
theorem wF{t:TypeId}{d k:Nat}{v u:Value}{x y:PV}{r:Bool}(ht:Et P t=some k)(hv:Rd w imm μ p6 v x)(hu:Rd w imm μ p6 u y)(h:Xh k x y=some r):(Op.equalIn (d+1) t v u).run P w = .ok r w:=by
 unfold Et at ht;unfold Xh at h;split at h
 .cases h;rw[hv.eD,hu.eD];refine run_equalIn_bool' w d t _ _ ?_;split at ht <;> first | assumption | (cases ht;done)
 .split at h
  .rename_i q;cases h;subst q;rw[hv.U3,hu.U3];split at ht <;> first | (exact run_equalIn_int w d t _ _ _ _ ΩI) | (cases ht;done)
  .cases h
 .cases h;rw[hv.pF,hu.pF];refine run_equalIn_string w d t _ _ ?_;split at ht <;> first | assumption | (cases ht;done)
 .cases h
theorem wG{d:Nat}{vs us:Array Value}:∀(fs:List Field) (i:Nat) (ks:List Nat) (xs ys:List PV) (r:Bool),BF P i fs=some ks->DF ks xs ys=some r ->
  (∀(j:Nat) x,xs[j]? = some x->∃v,vs[i+j]? = some v/\Rd w imm μ p6 v x)->(∀(j:Nat) y,ys[j]? = some y->∃v,us[i+j]? = some v/\Rd w imm μ p6 v y) ->
  (Op.eqFields (d+1) vs us fs).run P w = .ok r w
 | [],i,ks,xs,ys,r,hk,h,hx,hy=>by
  cases hk;cases xs <;> cases ys <;> simp only[DF] at h <;> first | (cases h;done) | skip
  cases h;rfl
 | f::fs,i,ks,xs,ys,r,hk,h,hx,hy=>by
  simp only[BF] at hk;split at hk;rotate_left
  .cases hk
  rename_i q;obtain⟨G,H,C⟩:=q;cases o:Et P f.type with
  | none=>rw[o] at hk;cases hk
  | some k=>
   cases p:BF P (i+1) fs with
   | none=>rw[o,p] at hk;cases hk
   | some m=>
    rw[o,p] at hk;cases hk;cases xs <;> cases ys <;> simp only[DF] at h <;> first | (cases h;done) | skip
    rename_i x xs y ys;cases ha:Xh k x y with
    | none=>rw[ha] at h;cases h
    | some a=>
     cases hb:DF m xs ys with
     | none=>rw[ha,hb] at h;cases h
     | some b=>
      rw[ha,hb] at h;cases h;obtain⟨v,e,B⟩:=hx 0 x rfl;obtain⟨u,c,A⟩:=hy 0 y rfl;rw[zbf,<-H] at e c;have hr:=wF (d:=d) o B A ha;have ih:=wG (d:=d) fs (i+1) m xs ys b p hb (λj x' q=>by have:=hx (j+1) x' (Ω q);rwa [show i+(j+1)=i+1+j by omega] at this)
       (λj x' q=>by have:=hy (j+1) x' (Ω q);rwa [show i+(j+1)=i+1+j by omega] at this)
      simp only[Op.eqFields,zb G,zy,sA C e,sA C c,zm,hr];cases a;·rfl
      .simp only[za2,zM,pu,zax];exact ih
end
theorem Iq:∀(ks:List Nat) (xs ys:List PV) (r:Bool),DF ks xs ys=some r->xs.length=ks.length/\ys.length=ks.length
 | [],[],[],_,_=>⟨rfl,rfl⟩
 | k::ks,x::xs,y::ys,r,h=>by
  simp only[DF] at h;split at h
  .rename_i a b e c;have:=Iq ks xs ys b c;simp[this.1,this.2]
  .cases h
 | [],_::_,_,_,h=>by cases h
 | [],[],_::_,_,h=>by cases h
 | _::_,[],_,_,h=>by cases h
 | _::_,_::_,[],_,h=>by cases h
theorem four{α:Type}{xs:List α}(h:xs.length=4):∃a b c d,xs = [a,b,c,d]:=by
 rcases xs with _ | ⟨a,_ | ⟨b,_ | ⟨c,_ | ⟨d,_ | ⟨e,l⟩⟩⟩⟩⟩ <;> simp at h
 exact⟨a,b,c,d,rfl⟩
theorem Ih{w:World}{imm:Nat->Nat->Prop}{μ:Nat->O0}{p6:Nat->Prop}{vs:Array Value}{xs:List PV}(hn:vs.size=xs.length)(h:∀(i:Nat) v c,vs[i]? = some v->xs[i]? = some c->Rd w imm μ p6 v c) :
  ∀(j:Nat) x,xs[j]? = some x->∃v,vs[j]? = some v/\Rd w imm μ p6 v x:=λj x hx=>by
 have e:j<vs.size:=by rw[hn];exact C6 hx
 exact⟨_,zq e,h j _ x (zq e) hx⟩
theorem Pk{w:World}{imm:Nat->Nat->Prop}{μ:Nat->O0}{p6:Nat->Prop}{t:TypeId}{ks:List Nat}{v u:Value}{xs ys:List PV}{r:Bool}{d:Nat}(ht:oJ P t=some ks)(h:DF ks xs ys=some r)(hv:Rd w imm μ p6 v (.agg xs))(hu:Rd w imm μ p6 u (.agg ys)) :
  ∃vs us,v = .agg vs/\u = .agg us/\(Op.equalIn (d+2) t (.agg vs) (.agg us)).run P w = .ok r w:=by
 obtain⟨vs,rfl,hn,hc⟩:=hv.iT;obtain⟨us,rfl,hn',hc'⟩:=hu.iT;have hx:=Ih hn hc;have hy:=Ih hn' hc';refine⟨vs,us,rfl,rfl,?_⟩;unfold oJ at ht;split at ht;·cases ht
 split at ht
 .rename_i fs c;split at ht;·cases ht
  rename_i hst;have y:P.fieldsOf t=fs:=by unfold Program.fieldsOf;rw[c]
  rw[run_equalIn_struct w (d+1) t vs us (by rw[y];exact c) (Ω hst),y];exact wG fs.toList 0 ks xs ys r ht h (λj x q=>by rw[zar];exact hx j x q) (λj x q=>by rw[zar];exact hy j x q)
 .rename_i n e c;split at ht;rotate_left
  .cases ht
  rename_i q;obtain⟨rfl,q2,q3⟩:=q;cases hk:Et P e with
  | none=>rw[hk] at ht;cases ht
  | some k=>
   rw[hk] at ht;simp only[rg,wd] at ht;subst ht;obtain⟨l1,l2⟩:=Iq _ _ _ _ h;obtain⟨x0,x1,x2,x3,rfl⟩:=four l1;obtain⟨y0,y1,y2,y3,rfl⟩:=four l2
   .simp only[DF] at h;cases m:Xh k x0 y0 with
    | none=>rw[m] at h;cases h
    | some b0=>
    cases o:Xh k x1 y1 with
    | none=>rw[m,o] at h;cases h
    | some b1=>
    cases e2:Xh k x2 y2 with
    | none=>rw[m,o,e2] at h;cases h
    | some b2=>
    cases e3:Xh k x3 y3 with
    | none=>rw[m,o,e2,e3] at h;cases h
    | some b3=>
    rw[m,o,e2,e3] at h;cases h;obtain⟨v0,hv0,rv0⟩:=hx 0 x0 rfl;obtain⟨v1,G,rv1⟩:=hx 1 x1 rfl;obtain⟨v2,H,rv2⟩:=hx 2 x2 rfl;obtain⟨v3,N,rv3⟩:=hx 3 x3 rfl;obtain⟨u0,hu0,ru0⟩:=hy 0 y0 rfl;obtain⟨u1,A,ru1⟩:=hy 1 y1 rfl;obtain⟨u2,B,ru2⟩:=hy 2 y2 rfl;obtain⟨u3,C,ru3⟩:=hy 3 y3 rfl;have r0:=wF (d:=d) hk rv0 ru0 m;have r1:=wF (d:=d) hk rv1 ru1 o;have r2:=wF (d:=d) hk rv2 ru2 e2;have r3:=wF (d:=d) hk rv3 ru3 e3;have p:∀(cs:Array Value) (i:Nat) (v:Value),cs[i]? = some v->(part e cs i).run P w = .ok v w:=λcs i v q=>sA q2 q;rw[Op.equalIn];simp only[zy,zR c,zm,J0 q3];simp only[Std.Legacy.Range.forIn_eq_forIn_range',Std.Legacy.Range.size,Nat.sub_zero,Nat.add_sub_cancel,Nat.div_one,List.range',List.forIn_cons,List.forIn_nil,zy,Nat.mul_one,zar,Nat.reduceAdd,p _ _ _ hv0,p _ _ _ G,p _ _ _ H,p _ _ _ N,p _ _ _ hu0,p _ _ _ A,p _ _ _ B,p _ _ _ C,zm,r0,r1,r2,r3];cases b0 <;> cases b1 <;> cases b2 <;> cases b3 <;> simp[r1,r2,r3,p _ _ _ G,p _ _ _ H,p _ _ _ N,p _ _ _ A,p _ _ _ B,p _ _ _ C]
 .cases ht
theorem KF{t:TypeId}{ks:List Nat}(ht:oJ P t=some ks):P.eqGuardType P.depth t=false:=by
 unfold oJ at ht;split at ht;·cases ht
 .rename_i q;simpa using q
theorem Jc{t u:TypeId}{ks:List Nat}{x y:Operand}{xs ys:List PV}{r q:Bool}(ht:oJ P t=some ks)(hx:ρ x = .agg xs)(hy:ρ y = .agg ys)(h:DF ks xs ys=some r)(B:(!r)=q):G4 P σ ρ dst (.binOp .neq t x y u) (.bool q) .none:=by
 subst B;refine .pureV _ _ (λc q=>Γ) (λT x q=>Γ) λo w imm μ p6 ev ho hr=>?_;have j:=hr x Ωa;have m:=hr y Ωa;rw[hx] at j;rw[hy] at m;obtain⟨dst,op,ty,pos,after,guard⟩:=o;simp only at ho;subst ho;obtain⟨vs,us,p,A,e⟩:=Pk (d:=9998) ht h j m;refine⟨.bool (!r),?_,.cl (.bool _)⟩;simp only[execOp,p,A];refine N8 ?_;rw[zy,run_eqGuard_agg w .neq t x y vs us (KF ht),zm,run_neq_struct,e];rfl
end
section
variable{X:Ctx}{ops:Array Oper}{i:Nat}{os:List Oper}{K:Ctx->St->Prop}{env:Nat->PV}{σ:Nat->Option Row}{ty:TypeId}{pos:String}{after:Array Edge}{gd:Option (Nat × Bool)}{t:Tmp}
theorem a1w{α:Type}{f:α->PV}{xs ys zs:List α}{x y:Operand}{T U E:TypeId}{l z:Nat}{opn:Bool}(h:AE xs ys=some zs)(hw:C9 ops env ⟨some t,.call { callee:=.builtin .copy,args:=#[x,y],argTypes:=#[T,U] },ty,pos,after,gd⟩=some true)
  (hx:B8 env x = .sl l)(hl:σ l=some ⟨xs.map f,0,opn,z,true⟩)(hy:Src σ (B8 env y) (ys.map f) true)(hE:B7 X.P T=some E)(hz:u5 X.P E=some z)(hel:∀e,(f e).cells.length=z)(hzp:0<z)
  (k:Sq X ops (i+1) os K ⟨A3 env t (.int .i64 ys.length),A3 σ l (some ⟨zs.map f,0,opn,z,true⟩)⟩):Sq X ops i (⟨some t,.call { callee:=.builtin .copy,args:=#[x,y],argTypes:=#[T,U] },ty,pos,after,gd⟩::os) K ⟨env,σ⟩:=by
 obtain⟨c,rfl⟩:=QM h;have j:((ys.map f).length:Int)=ys.length:=Ψ
 refine a1x (l:=l) (q:=⟨xs.map f,0,opn,z,true⟩) (ys:=ys.map f) (es:=(ys++xs.drop ys.length).map f) hw (Ze (n:=ys.length) hx hl rfl hy hE hz rfl (λe he=>Ω5) (Ω c) hzp j) hl rfl (Ω c) (by simp[List.map_drop]) k
end
theorem xb{X:Ctx}{ops:Array Oper}{i:Nat}{os:List Oper}{K:Ctx->St->Prop}{env:Nat->PV}{σ:Nat->Option Row}{ty ty' T E:TypeId}{pos:String}{after:Array Edge}{t:Tmp}{x:Operand}{xs:List PV}{q:Bool}
  (hx:B8 env x = .lst q xs)(hE:B7 X.P T=some E)(k:∀b:Bool,(b=true->xs = [])->Sq X ops (i+1) os K ⟨A3 env t (.bool b),σ⟩) :
  Sq X ops i (⟨some t,.binOp .eql T x (.const (.slice none 0 0)) ty',ty,pos,after,none⟩::os) K ⟨env,σ⟩:=λhd hi n g a w Qo hs G=>by
 have ho:ops[i]? = some ⟨some t,.binOp .eql T x (.const (.slice none 0 0)) ty',ty,pos,after,none⟩:=by have:=hi 0;simpa using this.symm
 have e:List.range' i ((⟨some t,.binOp .eql T x (.const (.slice none 0 0)) ty',ty,pos,after,none⟩:Oper)::os).length=i::List.range' (i+1) os.length:=rfl;have hv:=hs.eval x;rw[hx] at hv;obtain⟨A,c,z,u,o,H,_,B,_⟩:=hv.gp;rw[e,wpOpsIn_cons];unfold wpOpIn;rw[ho];simp only;rw[zb (by rfl)];have hu:=P5 hE;have m:(binOp .eql T (a.eval x) (.slice none 0 0)).run X.P w = .ok (.bool A.isNone) w:=by
  rw[o];have p:(binOp .eql T (.slice A xs.length c) (.slice none 0 0):Sem Value)=(do pure (.bool (<-Op.equal T (.slice A xs.length c) (.slice none 0 0)))):=rfl;rw[p,zy];have y:(Op.equal T (.slice A xs.length c) (.slice none 0 0)).run X.P w = .ok A.isNone w:=by
   have:Op.maxDepth=9999+1:=rfl;unfold Op.equal;rw[this,Op.equalIn,zy,zR hu];cases A <;> rfl
  rw[y];rfl
 refine I0 (λc q=>Γ) (v:=.bool A.isNone) (w':=w) ?_ ?_
 .simp only[execOp];have h:a.eval (.const (.slice none 0 0)) = .slice none 0 0:=rfl;rw[h];refine N8 ?_;have C:(eqGuard .eql T x (.const (.slice none 0 0)) (a.eval x) (.slice none 0 0)).run X.P w = .ok () w:=by
   rw[o];exact EZ (v:=.slice A xs.length c) ⟨λcs q=>Γ,λq=>Γ⟩
  rw[zy,C,zm,m]
 .refine k A.isNone (λq=>?_) hd (λj=>ΩN) n g _ w Qo (hs.put (Q5 hd ho) (.cl (.bool _))) G;cases A with
  | none=>have:=B rfl;exact ul Δ
  | some _=>cases q
theorem a1s{s:St}(t:Nat)(ok:(s.env t).pY s.σ=true):Wk s ⟨A3 s.env t ((s.env t).vw s.σ),V1 s.σ ((s.env t).T9 s.σ)⟩:=λX g a w h=>by
 obtain⟨imm',c,e,j⟩:=h.V1 ((s.env t).T9 s.σ);have hv:=h.view e (h.env t) ok j;refine⟨⟨imm',g.μ⟩,⟨c.size,λi=>?_,c.rows,c.disj,c.ownimm,c.immlt,c.immsub,c.immsup,c.below,c.marks,c.obs,c.big,c.maps⟩⟩;by_cases q:i=t
 .subst q;rw[show (St.mk (A3 s.env i ((s.env i).vw s.σ)) (V1 s.σ ((s.env i).T9 s.σ))).env i=(s.env i).vw s.σ from p7 _ _ _];exact .cl hv.w2
 .rw[show (St.mk (A3 s.env t ((s.env t).vw s.σ)) (V1 s.σ ((s.env t).T9 s.σ))).env i=s.env i from o0 _ _ q];exact c.env i
end Go.Pw
namespace Go.Pw
open Go.RowKit Go.Sh
def rm(fn:FuncId)(tmps:Array Value)(ps:Array Tmp)(assign body:Code)(D:Nat):Loop:=
 { state:=.ready,pending:=none,fn:=fn,tmps:=tmps,params:=ps,assign:=assign,body:=body,defers:=D }
structure Ran (X:Ctx) (N0:Nat) (ps:Array Tmp) (assign body:Code) (l:Nat):Prop where
 is:∃(tm:Array Value) (fn:FuncId) (D:Nat) (os:List (Nat × Obj)),X.obs=(l,.loop (rm fn tm ps assign body D))::os/\(∀p∈os,p.1≠l)/\tm.size=N0/\∀i,i<1000000->X.ext (i+1000000)=tm.getD i undef
 lo:X.w0.heap.size<=l
def Xf(c:Code):List (Nat × Obj)->List (Nat × Obj)
 | (l,.loop r)::os=>(l,.loop { r with state:=.done,pending:=some c })::os
 | os=>os
def Ctx.done(X:Ctx)(c:Code):Ctx:={ X with obs:=Xf c X.obs }
def IP(Q:PX->Ctx->St->Prop):Code->Ctx->St->Prop
 | .ret,X,s=>Q .ret X s
 | .exit id,X,s=>Q (.exit id) X s
 | _,_,_=>False
def Xp(X Y:Ctx)(Q:PX->Ctx->St->Prop):PX->Ctx->St->Prop
 | .normal,X',s | .ret,X',s=>(X'=Y/\Q .normal X ⟨pd s.env,s.σ⟩)\/∃c,X'=Y.done c/\IP Q c X ⟨pd s.env,s.σ⟩
 | _,_,_=>False
theorem tI{P:Program}{f:FuncId}{fn:Func}{c:Code}(j:P.funcs[f]? = some fn)(m:fn.body=some c)(o:fn.name ≠ "runtime.NumGoroutine")(args:Array Value)(w:World) :
  (callFunc f args).run P w = .ok (.enter f args) w:=by
 have e:(fn.name == "runtime.NumGoroutine")=false:=Ω o
 simp only[callFunc,program,Sem.run,zy,zm,j,e,m];simp
theorem xZ{P:Program}{a:Act}{g:Operand}{gf:FuncId}{lb:Array Value}(c:a.eval g = .func (.func gf) #[] lb)(l:Nat)(w:World) :
  (resolve a.eval (rangeCall g l) 0).run P w = .ok { target:=.fn (.func gf) lb,args:=#[.func (.yield l) #[] #[]] } w:=by
 simp only[resolve,c];simp[go_sem]
section
variable{X:Ctx}{Q:PX->Ctx->St->Prop}{st:St}
theorem Nq{w:World}{imm:Nat->Nat->Prop}{μ:Nat->O0}{p6:Nat->Prop}{vs:Array Value}{ds:List PV}(hn:vs.size=ds.length)(h:∀(i:Nat) v d,vs[i]? = some v->ds[i]? = some d->Rd w imm μ p6 v d)(k:Nat)(i:Nat) :
  Rd w imm μ p6 ((vs++Array.replicate k undef).getD i undef) (O6 ds i):=by
 unfold O6;rw[zO,zd];rcases zI i vs.size with q | q
 .rw[qr q,zq q,zc (by rw[<-hn];exact q)];exact h i _ _ (zq q) (zc (by rw[<-hn];exact q))
 .rw[zaj q,zab (by rw[<-hn];exact q),zbr];split;·exact .cl (.tup #[] [] rfl λi v c _ hc=>Ωj)
  .exact .cl (.tup #[] [] rfl λi v c _ hc=>Ωj)
theorem results_none{fn:Func}(h:fn.results = #[])(tmps:Array Value)(P:Program)(w:World):(results fn tmps).run P w = .ok (.tuple #[]) w:=by
 rw[lA,h,Array.mapM_eq_mapM_toList];simp only[List.mapM_nil,<-bind_pure_comp];rfl
theorem dc{g:Operand}{ps:Array Tmp}{assign body:Code}{gf:FuncId}{fn:Func}{c:Code}{cap:List PV}{N1:Nat}(hg:B8 st.env g = .fn (.func gf) cap)(hf:X.P.funcs[gf]? = some fn)(hb:fn.body=some c)(hN:fn.ntmps=N1)(hn:1+cap.length<=N1)
  (hres:fn.results = #[])(hname':D6 X.P gf)(hρ:X.ρ=none)(hcalm:X.calm=false)
  (h:∀l e1 o1,Ran { P:=X.P,N:=N1,ρ:=none,w0:=X.w0,imm0:=X.imm0,ext:=e1,obs:=o1,calm:=true,tab:=X.tab } X.N ps assign body l ->
   aA { P:=X.P,N:=N1,ρ:=none,w0:=X.w0,imm0:=X.imm0,ext:=e1,obs:=o1,calm:=true,tab:=X.tab } c (Xp X { P:=X.P,N:=N1,ρ:=none,w0:=X.w0,imm0:=X.imm0,ext:=e1,obs:=o1,calm:=true,tab:=X.tab } Q) ⟨tF (O6 (.fn (.yield l) []::cap)) st.env,st.σ⟩)
  (h6:N1<=1000000:=by exact zP rfl):aA X (.rangeFunc g ps assign body) Q st:=by
 intro n g' a w hs;obtain⟨fn2,c2,hf2,_,hname⟩:=hname';rw[hf] at hf2;cases hf2;refine wpIn_rangeFunc λfid _=>?_;have hv:=hs.eval g;rw[hg] at hv;obtain⟨vs,e,hnv,hcap⟩:=mN hv;generalize o:rm fid a.tmps ps assign body w.heap.size=rec;have hrun1:(Instr.enterLoop fid a.tmps ps assign body (FX X.ρ).round).run X.P w = .ok (w.heap.size+1,[{ target:=.collected w.heap.size,args:=#[] }]) ((w.alloc (.deferred (some []))).alloc (.loop rec)):=by
  rw[hρ,<-o];exact run_enterLoop_outer fid a.tmps ps assign body
 have hinv:∀W:World,(invoke (.fn (.func gf) vs) #[.func (.yield (w.heap.size+1)) #[] #[]]).run X.P W = .ok (.enter gf (#[.func (.yield (w.heap.size+1)) #[] #[]]++vs)) W:=λW=>by
  simp only[invoke];exact tI hf hb hname _ _
 refine⟨w.heap.size+1,_,_,_,_,gf,#[.func (.yield (w.heap.size+1)) #[] #[]]++vs,_,hrun1,xZ e _ _,λ_ _=>trivial,hinv _,λq=>by simp[FX] at q,?_⟩;generalize hl:w.heap.size+1=l;have s1:=hs.alloc (.deferred (some []));have s2:=s1.alloc (.loop rec);have hz1:(w.alloc (.deferred (some []))).heap.size=w.heap.size+1:=World.size_alloc ..;have hD:((w.alloc (.deferred (some []))).alloc (.loop rec)).heap[w.heap.size]? = some (.deferred (some [])):=by
  rw[Below.heap_alloc _ _ _ (by rw[hz1];exact Nat.lt_succ_self _)];exact World.alloc_heap_new ..
 have hL:((w.alloc (.deferred (some []))).alloc (.loop rec)).heap[l]? = some (.loop rec):=by
  have:=World.alloc_heap_new (w.alloc (.deferred (some []))) (.loop rec);rw[hz1,hl] at this;exact this
 generalize hw2:(w.alloc (.deferred (some []))).alloc (.loop rec)=w2 at s2 hD hL |-;have s3:=s2.mark hD hs.below.size (λd hd q=>absurd (hs.RH d hd _ q) (zb0 _)) hcalm;generalize ha':({ a with defers:={ target:=.collected w.heap.size,args:=#[] }::a.defers }:Act)=m at s3;have ha2:({ a with defers:=[{ target:=.collected w.heap.size,args:=#[] }]++a.defers }:Act)=m:=ha';rw[ha2];have htm:m.tmps=a.tmps:=by rw[<-ha']
 refine callsIn_of_wp_marks hf hb trivial ?_ hρ;have hyv:Rd w2 g'.imm g'.μ st.p6 (.func (.yield l) #[] #[]) (.fn (.yield l) []):=.cl (.fn (.yield l) #[] [] rfl λi v c _ hc=>Ωj);have hx2:Ext w g'.imm w2 g'.imm:=by
  rw[<-hw2];exact (Ext.alloc hs.immlt _).trans (Ext.alloc s1.immlt _)
 obtain⟨av,G⟩:∃av:Array Value,av=(#[Value.func (.yield l) #[] #[]]++vs):=⟨_,rfl⟩;have hz:av.size=(PV.fn (.yield l) []::cap).length:=by rw[G];simp[hnv];omega
 have hav0:av[0]? = some (Value.func (.yield l) #[] #[]):=by rw[G,qr Ψ];rfl
 have hav1:∀i,av[i+1]? = vs[i]? := λi=>by rw[G,zaj Ψ];simp
 have hrd:∀(i:Nat) v d,av[i]? = some v->(PV.fn (.yield l) []::cap)[i]? = some d->Rd w2 g'.imm g'.μ st.p6 v d:=λi v d hv hd=>by
  cases i with
  | zero=>
   rw[hav0] at hv;cases hv;cases hd;exact hyv
  | succ i=>
   rw[hav1] at hv;exact (hcap i v d hv (Ω hd)).mono hx2 λ_ q=>⟨q,rfl⟩
 rw[<-G];have s4:=s3.push (N:=N1) none (tmps:=av++Array.replicate (fn.ntmps-av.size) undef) (top:=O6 (.fn (.yield l) []::cap)) h6 (by
   simp only[zbt,Array.size_replicate];simp only[zF] at hz;omega) (λi _=>Nq hz hrd _ i)
 have s5:=s4.watch hL rfl;generalize hY:({ X.over m N1 none with obs:=(l,.loop rec)::(X.over m N1 none).obs }:Ctx)=Y at s5;have u:Y={ P:=X.P,N:=N1,ρ:=none,w0:=X.w0,imm0:=X.imm0,ext:=Y.ext,obs:=Y.obs,calm:=true,tab:=X.tab }:=by
  rw[<-hY];simp only[Ctx.over]
 have hYx:∀i,Y.ext i=X.val m (i-1000000):=λi=>by rw[<-hY];simp only[Ctx.over]
 have C:Y.obs=(l,.loop rec)::(md m.defers++X.obs):=by rw[<-hY];simp only[Ctx.over]
 have hos:∀p∈md m.defers++X.obs,p.1≠l:=by
  intro p hp q;have hlt:p.1<w.heap.size+1:=by
   rcases zH.1 hp with hp | hp
   .rw[<-ha'] at hp;obtain⟨rs,_,r2,r3⟩:=hs.marks;have e2:({ target:=.collected w.heap.size,args:=#[] }::a.defers:List Deferred)=(w.heap.size::rs).map λr=>{ target:=.collected r,args:=#[] }:=by rw[r2];rfl
    simp only[e2,mf] at hp;obtain⟨r,hr,rfl⟩:=zn.1 hp;rcases zJ.1 hr with rfl | hr
    .exact Nat.lt_succ_self _
    .exact Nat.lt_succ_of_lt (wp.1 (r3 r hr).1).1
   .exact Nat.lt_succ_of_lt (wp.1 (hs.obs p hp).1).1
  omega
 have y:Ran Y X.N ps assign body l:=⟨⟨a.tmps,fid,w.heap.size,_,by rw[C,<-o],hos,hs.size,λi hi=>by
   rw[hYx,Nat.add_sub_cancel,Ctx.val,zb hi,htm]⟩,by
   rw[<-hY];have:=hs.below.size;show X.w0.heap.size<=l;omega⟩
 have hp:=h l Y.ext Y.obs (u▸y);rw[<-u] at hp;have hp2:=hp (n-1) _ _ _ s5;have hYρ:Y.ρ=none:=by rw[u]
 have hYP:Y.P=X.P:=by rw[u]
 rw[hYρ,hYP] at hp2;rw[hρ];have hYu:{ Y with obs:=(X.over m N1 none).obs }=X.over m N1 none:=by rw[<-hY]
 refine zb1 hp2 λex a1 w1 q=>?_;have key:∀X' g1 j,u7 X' g1 j a1 w1->((X'=Y/\Q .normal X ⟨pd j.env,j.σ⟩)\/∃c,X'=Y.done c/\IP Q c X ⟨pd j.env,j.σ⟩)->LeavesInM (FX none) (n-1) X.P fn a1.tmps (rangePost (FX none) n X.P l (lift X Q) m) a1.defers .returning w1:=by
  intro X' g1 j A H;have hcal:X'.calm=true:=by
   rcases H with ⟨rfl,_⟩ | ⟨B,rfl,_⟩;·rw[u]
   .rw[u];rfl
  rw[A.big.2 hcal];refine⟨_,results_none hres _ _ _,?_⟩;rcases H with ⟨rfl,H⟩ | ⟨B,rfl,H⟩
  .have hh:=(A.obs (l,.loop rec) (by rw[C];exact zh ..)).1;refine⟨rec.pending,_,run_endLoop hh (by rw[<-o];simp[rm]),?_⟩;have t1:=A.WK (o':=.loop { rec with state:=.exhausted }) hh rfl rfl rfl y.lo (λq=>Γ) (obs:=(X.over m N1 none).obs) (λp hp=>.inr ⟨hos p hp,by rw[C];exact zw _ hp⟩);rw[hYu] at t1;have t2:=s3.pop t1;have hpend:rec.pending=none:=by rw[<-o];rfl
   simp only[hpend] at t2 |-;exact⟨X,_,_,t2,⟨rfl,rfl⟩,H⟩
  .have hdo:(Y.done B).obs=(l,.loop { rec with state:=.done,pending:=some B })::(md m.defers++X.obs):=by
    show Xf B Y.obs=_;rw[C];rfl
   have hh:=(A.obs (l,.loop { rec with state:=.done,pending:=some B }) (by rw[hdo];exact zh ..)).1;refine⟨some B,_,run_endLoop hh Ψ,?_⟩;have t1:=A.WK (o':=.loop { rec with state:=.exhausted,pending:=some B }) hh rfl rfl rfl y.lo (λq=>Γ) (obs:=(X.over m N1 none).obs) (λp hp=>.inr ⟨hos p hp,by rw[hdo];exact zw _ hp⟩);have hYu2:{ Y.done B with obs:=(X.over m N1 none).obs }=X.over m N1 none:=by rw[<-hYu];rfl
   rw[hYu2] at t1;have t2:=s3.pop t1;simp only;cases B <;> simp only[IP] at H <;> first | (exact H.elim) | skip
   .exact wpIn_exit ⟨X,_,_,t2,⟨rfl,rfl⟩,H⟩
   .exact wpIn_ret ⟨X,_,_,t2,⟨rfl,rfl⟩,H⟩
 cases ex <;> simp only[lift,Xp,bodyPostM] at q |- <;> first
  | (obtain⟨X',g1,j,h1,_,h2⟩:=q;exact key X' g1 j h1 h2)
  | (obtain⟨X',g1,j,h1,_,h2⟩:=q;exact h2.elim)
  | exact q.elim
end
end Go.Pw
namespace Go.Pw
open Go.RowKit Go.Sh
def JE:List Tmp->List PV->(Nat->PV)->Nat->PV
 | p::ps,d::ds,f=>JE ps ds (A3 f p d)
 | _,_,f=>f
def Yb(X2 X3:Ctx)(body:Code)(Qb:PX->Ctx->St->Prop):PX->Ctx->St->Prop
 | .normal,X',s=>X'=X2/\aA X3 body Qb s
 | _,_,_=>False
def ZI(X3:Ctx)(kT:St->Prop)(kF:Code->St->Prop):PX->Ctx->St->Prop
 | .normal,X',s=>X'=X3/\kT s
 | .ret,X',s=>X'=X3/\kF .ret s
 | .exit id,X',s=>X'=X3/\kF (.exit id) s
 | .goto _,_,_=>False
def YI(P:Program)(Y:Ctx)(fn:Func)(k:PV->St->Prop):PX->Ctx->St->Prop
 | .normal,X',s | .ret,X',s=>X'=Y/\∃c,Dy P s fn.results.toList c/\k (ke c) s
 | _,_,_=>False
section
variable{X:Ctx}{Q:PX->Ctx->St->Prop}{st:St}{g:Gh}{a:Act}{w:World}
theorem u7.a18{N:Nat}{ρ:Option Nat}{st':St}{j:Act}{w0:World}{c e:List (Nat × Obj)}(h0:u7 X g st a w0){m:Gh}(h:u7 { X.over a N ρ with obs:=c } m st' j w)(ho:∀p∈md a.defers++e,p∈c):u7 { X with obs:=e } m ⟨pd st'.env,st'.σ⟩ a w:=by
 refine⟨h0.size,λi=>?_,h.rows,h.disj,h.ownimm,h.immlt,h.immsub,h.immsup,h.below,?_,λp hp=>h.obs p (ho p (t6 _ hp)),h0.big,h.maps⟩
 .have:=h.env (i+1000000);have u:Ctx.val { X.over a N ρ with obs:=c } j (i+1000000)=Ctx.val { X with obs:=e } a i:=by
   have q:¬i+1000000<1000000:=Δ
   unfold Ctx.over;rw[Ctx.val,za q];simp only[Nat.add_sub_cancel];rfl
  rw[u] at this;exact this
 .obtain⟨B,y,o,A⟩:=h0.marks;refine⟨B,y,o,λr hr=>⟨?_,(A r hr).2⟩⟩;refine (h.obs (r,.deferred (some [])) (ho _ (rx _ ?_))).1;rw[o,mf];exact zn.2 ⟨r,hr,rfl⟩
theorem yx:∀(l:List (Tmp × Value)) (tm:Array Value),(l.foldl (λtmps (t,a)=>tmps.setIfInBounds t a) tm).size=tm.size
 | [],tm=>rfl
 | p::l,tm=>by
  rw[ww,yx l];simp
theorem Eu{w:World}{imm:Nat->Nat->Prop}{μ:Nat->O0}{p6:Nat->Prop}:∀(ps:List Tmp) (vs:List Value) (ds:List PV) (tm:Array Value) (f:Nat->PV),vs.length=ds.length->(∀(i:Nat) v d,vs[i]? = some v->ds[i]? = some d->Rd w imm μ p6 v d) ->
  (∀p∈ps,p<tm.size)->(∀i,i<1000000->Rd w imm μ p6 (tm.getD i undef) (f i))->∀i,i<1000000->Rd w imm μ p6 (((ps.zip vs).foldl (λtmps (t,a)=>tmps.setIfInBounds t a) tm).getD i undef) (JE ps ds f i)
 | [],_,ds,tm,f,_,_,_,h=>by
  cases ds <;> exact h
 | p::ps,[],[],tm,f,_,_,_,h=>h
 | p::ps,[],_::_,tm,f,hn,_,_,h=>by cases hn
 | p::ps,_::_,[],tm,f,hn,_,_,h=>by cases hn
 | p::ps,v::vs,d::ds,tm,f,hn,hv,hp,h=>by
  have ih:=Eu ps vs ds (tm.setIfInBounds p v) (A3 f p d) (Ω hn) (λi o d' c j=>hv (i+1) o d' (Ω c) (Ω j)) (λq m=>by
   simp only[Array.size_setIfInBounds];exact hp q (zw _ m)) (λi hi=>by
   unfold A3;by_cases e:i=p
   .subst e;have:=hp i (zh ..);rw[zb rfl];simp only[zO,za0,ut,this];exact hv 0 v d rfl rfl
   .rw[za e];simp only[zO,za0,za (zaz e)];rw[<-zO];exact h i hi)
  exact ih
theorem KH{P:Program}{o:Oper}{x:Operand}{args:Array Operand}{ts:Array TypeId}{l:Nat}{r:Loop}(ho:o.op = .call { callee:=.value x,args,argTypes:=ts })(hx:a.eval x = .func (.yield l) #[] #[])(h:w.heap[l]? = some (.loop r))(hs:args.size=r.params.size) :
  (execOp a.eval o).run P w = .ok (.round l r.fn ((r.params.zip (args.map a.eval)).foldl (λtmps (t,a)=>tmps.setIfInBounds t a) r.tmps) r.assign r.body) w:=by
 obtain⟨dst,op,ty,pos,after,guard⟩:=o;simp only at ho;subst ho;simp only[execOp,resolve,hx,Deferred.ofValue,zy,zau,zm,invoke];have:=run_yield (P:=P) (args:=args.map a.eval) h (Ω hs);simpa using this
end
section
variable{X:Ctx}{ops:Array Oper}{i:Nat}{os:List Oper}{K:Ctx->St->Prop}{env:Nat->PV}{σ:Nat->Option Row}{ty:TypeId}{pos:String}{after:Array Edge}{gd:Option (Nat × Bool)}{t:Tmp}
def TJ(X:Ctx)(ops:Array Oper)(i:Nat)(K:Ctx->St->Prop)(st:St):Prop:=
 jg X.N ops=true->∀(n:Nat) (g:Gh) (a:Act) (w:World) (next:Act->World->Prop) (Qo:Exit->Act->World->Prop),u7 X g st a w ->
  (∀X' e s' c w',u7 X' e s' c w'->(X'.P=X.P/\X'.ρ=X.ρ)/\X'.N=X.N->K X' s'->next c w')->wpOpIn (FX X.ρ) n X.P ops Qo i next a w
theorem Pq{o:Oper}{st:St}(h:TJ X ops i (λX' s=>Sq X' ops (i+1) os K s) st):Sq X ops i (o::os) K st:=λhd hi n g a w Qo hs C=>by
 have e:List.range' i (o::os).length=i::List.range' (i+1) os.length:=rfl;rw[e,wpOpsIn_cons];refine h hd n g a w _ Qo hs λX' y s' q w' p c k=>?_;have:=k (by rw[c.2];exact hd) (λj=>ΩN) n y q w' Qo p λX2 A s2 u w2 B m=>C X2 A s2 u w2 B ⟨m.1.trans c.1.1,m.2.trans c.1.2⟩;rw[c.1.1,c.1.2] at this;exact this
theorem U9{o:Oper}{st:St}(h:ops[i]? = some o->TJ X ops i (λX' s=>Sq X' ops (i+1) os K s) st):Sq X ops i (o::os) K st:=λhd hi=>by
 have ho:=hi 0;simp only[za6,zbf] at ho;exact Pq (h ho.symm) hd hi
theorem Dq{N0:Nat}{ps:Array Tmp}{assign body:Code}{l:Nat}{args:Array Operand}{ts:Array TypeId}{x:Operand}{ds:List PV}(ho:ops[i]? = some ⟨some t,.call { callee:=.value x,args,argTypes:=ts },ty,pos,after,gd⟩)(hR:Ran X N0 ps assign body l)(hw:C9 ops env ⟨some t,.call { callee:=.value x,args,argTypes:=ts },ty,pos,after,gd⟩=some true)
  (hf:B8 env x = .fn (.yield l) [])(ha:args.toList.map (B8 env)=ds)(hps:args.size=ps.size)(hpn:(ps.toList.all λp=>decide (p<N0))=true)(hcalm:X.calm=true)
  (h:∀e2 o2 o3,aA { P:=X.P,N:=N0,ρ:=some l,w0:=X.w0,imm0:=X.imm0,ext:=e2,obs:=o2,calm:=true,tab:=X.tab } assign
   (Yb { P:=X.P,N:=N0,ρ:=some l,w0:=X.w0,imm0:=X.imm0,ext:=e2,obs:=o2,calm:=true,tab:=X.tab } { P:=X.P,N:=N0,ρ:=some l,w0:=X.w0,imm0:=X.imm0,ext:=e2,obs:=o3,calm:=true,tab:=X.tab } body
    (ZI { P:=X.P,N:=N0,ρ:=some l,w0:=X.w0,imm0:=X.imm0,ext:=e2,obs:=o3,calm:=true,tab:=X.tab } (λs=>K X ⟨A3 (pd s.env) t (.bool true),s.σ⟩) (λc s=>K (X.done c) ⟨A3 (pd s.env) t (.bool false),s.σ⟩)))
   ⟨tF (JE ps.toList ds (pd env)) env,σ⟩)(hN:N0<=1000000:=by exact zP rfl) :
  TJ X ops i K ⟨env,σ⟩:=by
 intro hd n g a w next Qo hs hq;unfold wpOpIn;rw[ho];simp only;rw[zb (ax hs hw)];obtain⟨⟨tm,fid,D,e,C,hne,htz,hext⟩,hlo⟩:=hR;have hdef:a.defers = []:=hs.big.2 hcalm;have hL:=(hs.obs (l,.loop (rm fid tm ps assign body D)) (by rw[C];exact zh ..)).1;have hxv:=hs.eval x;rw[show B8 (St.env ⟨env,σ⟩) x = .fn (.yield l) [] from hf] at hxv;obtain⟨vs0,e0,hn0,_⟩:=mN hxv;have:vs0 = #[]:=by
  have:vs0.size=0:=Ω hn0
  exact Array.size_eq_zero_iff.1 this
 subst this;refine⟨λ_ _=>trivial,?_⟩;rw[Oper.semAt_eq _ _ _ (λc q=>Γ),KH rfl e0 hL hps];refine⟨λq=>by simp[FX] at q,?_⟩;refine roundIn_of_wpIn (F:=FX X.ρ) trivial ?_;show assign.wpIn (FX (some l)) (n-1) X.P _ _ w;have hrd:∀(j:Nat) v d,(args.toList.map a.eval)[j]? = some v->ds[j]? = some d->Rd w g.imm g.μ (St.p6 ⟨env,σ⟩) v d:=by
  intro j v d hv hd';subst ha;rw[zD] at hv hd';cases hx:args.toList[j]? with
  | none=>rw[hx] at hv;cases hv
  | some y=>
   rw[hx] at hv hd';cases hv;cases hd';exact hs.eval y
 have hbase:∀j,j<1000000->Rd w g.imm g.μ (St.p6 ⟨env,σ⟩) (tm.getD j undef) (pd env j):=λj hj=>by
  have:=hs.env (j+1000000);rw[Ctx.val,za Δ,hext j hj] at this;exact this
 have hzip:(ps.zip (args.map a.eval)).foldl (λtmps (t,a)=>tmps.setIfInBounds t a) tm=(ps.toList.zip (args.toList.map a.eval)).foldl (λtmps (t,a)=>tmps.setIfInBounds t a) tm:=by
  rw[<-Array.foldl_toList,Array.toList_zip,Array.toList_map]
 have hsz:((ps.zip (args.map a.eval)).foldl (λtmps (t,a)=>tmps.setIfInBounds t a) tm).size=N0:=by rw[hzip,yx,htz]
 have s1:=hs.push (N:=N0) (some l) (tmps:=(ps.zip (args.map a.eval)).foldl (λtmps (t,a)=>tmps.setIfInBounds t a) tm) (top:=JE ps.toList ds (pd env)) hN hsz (λj hj=>by
  rw[hzip];refine Eu ps.toList _ ds tm _ (by rw[<-ha];simp) hrd (λp hp=>?_) hbase j hj;rw[htz];have:=zg.1 hpn p hp;simpa using this)
 generalize hX2:X.over a N0 (some l)=X2 at s1;have B:X2={ P:=X.P,N:=N0,ρ:=some l,w0:=X.w0,imm0:=X.imm0,ext:=X2.ext,obs:=X2.obs,calm:=true,tab:=X.tab }:=by
  rw[<-hX2];simp only[Ctx.over]
 have hX2o:X2.obs=(l,.loop (rm fid tm ps assign body D))::e:=by
  rw[<-hX2];simp only[Ctx.over];rw[hdef,C];rfl
 have h1:=h X2.ext X2.obs ((l,.loop { rm fid tm ps assign body D with state:=.busy })::e);rw[<-B] at h1;have hX3e:({ P:=X.P,N:=N0,ρ:=some l,w0:=X.w0,imm0:=X.imm0,ext:=X2.ext,obs:=(l,.loop { rm fid tm ps assign body D with state:=.busy })::e,calm:=true,tab:=X.tab }:Ctx)={ X2 with obs:=(l,.loop { rm fid tm ps assign body D with state:=.busy })::e }:=by
  rw[B]
 rw[hX3e] at h1;generalize G:({ X2 with obs:=(l,.loop { rm fid tm ps assign body D with state:=.busy })::e }:Ctx)=X3 at h1;have hX3o:X3.obs=(l,.loop { rm fid tm ps assign body D with state:=.busy })::e:=by rw[<-G]
 have H:X2.ρ=some l:=by rw[B]
 have hX2P:X2.P=X.P:=by rw[B]
 have hX3ρ:X3.ρ=some l:=by rw[<-G,H]
 have hX3P:X3.P=X.P:=by rw[<-G,hX2P]
 have hX2w:X2.w0=X.w0:=by rw[B]
 have hX3w:X3.w0=X.w0:=by rw[<-G,hX2w]
 have w1:=h1 (n-1) g _ w s1;rw[H,hX2P] at w1;refine zb1 w1 λex a1 w1 q=>?_;cases ex <;> simp only[lift,Yb,Exit.then] at q |- <;> first | (obtain⟨_,_,_,_,_,q⟩:=q;exact q.elim) | exact q.elim | skip
 obtain⟨X',g1,t1,hs1,_,rfl,hb⟩:=q;have hL1:=(hs1.obs _ (by rw[hX2o];exact zh ..)).1;refine⟨_,run_beginRound hL1 rfl,?_⟩;have hs2:=hs1.WK (o':=.loop { rm fid tm ps assign body D with state:=.busy }) hL1 rfl rfl rfl (by rw[hX2w];exact hlo) (λq=>Γ) (obs:=(l,.loop { rm fid tm ps assign body D with state:=.busy })::e) (λp hp=>by
  rcases zJ.1 hp with rfl | hp
  .exact .inl rfl
  .exact .inr ⟨hne p hp,by rw[hX2o];exact zw _ hp⟩)
 rw[G] at hs2;have w2:=hb (n-1) _ _ _ hs2;rw[hX3ρ,hX3P] at w2;refine zb1 w2 λex a2 w3 q=>?_;have hLB:∀A o,u7 X3 A o a2 w3->w3.heap[l]? = some (.loop { rm fid tm ps assign body D with state:=.busy }):=λA o m=>(m.obs _ (by rw[hX3o];exact zh ..)).1;have back:∀(A:Gh) (o:St) (r:Loop),u7 X3 A o a2 w3->u7 { X with obs:=(l,.loop r)::e } A ⟨pd o.env,o.σ⟩ a (w3.putObj l (.loop r)):=by
  intro A o r m;have s4:=m.WK (o':=.loop r) (hLB A o m) rfl rfl rfl (by rw[hX3w];exact hlo) (λq=>Γ) (obs:=(l,.loop r)::e) (λp hp=>by
   rcases zJ.1 hp with rfl | hp
   .exact .inl rfl
   .exact .inr ⟨hne p hp,by rw[hX3o];exact zw _ hp⟩)
  have e4:({ X3 with obs:=(l,.loop r)::e }:Ctx)={ X.over a N0 (some l) with obs:=(l,.loop r)::e }:=by rw[<-G,<-hX2]
  rw[e4] at s4;exact hs.a18 s4 (λp hp=>by rw[hdef] at hp;simpa[md] using hp)
 have kF:∀(c:Code) (A:Gh) (o:St),u7 X3 A o a2 w3->K (X.done c) ⟨A3 (pd o.env) t (.bool false),o.σ⟩->∃v w',(Instr.endRound l (some c)).run X.P w3 = .ok v w'/\next (a.put (some t) v) w':=by
  intro c A o m hk;refine⟨_,_,run_endRound (some c) (hLB A o m),?_⟩;have s5:=back A o { rm fid tm ps assign body D with state:=.done,pending:=some c } m;have e5:X.done c={ X with obs:=(l,.loop { rm fid tm ps assign body D with state:=.done,pending:=some c })::e }:=by
   unfold Ctx.done;rw[C];rfl
  rw[<-e5] at s5;have hdst:∀u,(some t:Option Tmp)=some u->u<(X.done c).N:=Q5 hd ho;exact hq _ _ _ _ _ (s5.put hdst (.cl (.bool false))) ⟨⟨rfl,rfl⟩,rfl⟩ hk
 cases ex <;> simp only[lift,ZI,roundPost] at q |- <;> first
  | (obtain⟨X',A,o,m,_,rfl,hk⟩:=q;exact kF _ A o m hk)
  | (obtain⟨_,_,_,_,_,q⟩:=q;exact q.elim)
  | exact q.elim
  | skip
 obtain⟨X',A,o,m,_,rfl,hk⟩:=q;refine⟨_,_,run_endRound none (hLB A o m),?_⟩;have s5:=back A o (rm fid tm ps assign body D) m;have e5:({ X with obs:=(l,.loop (rm fid tm ps assign body D))::e }:Ctx)=X:=by rw[<-C]
 rw[e5] at s5;exact hq _ _ _ _ _ (s5.put (Q5 hd ho) (.cl (.bool true))) ⟨⟨rfl,rfl⟩,rfl⟩ hk
theorem kB{N0:Nat}{ps:Array Tmp}{assign body:Code}{l:Nat}{args:Array Operand}{ts:Array TypeId}{x:Operand}{ds:List PV}(y:Ran X N0 ps assign body l)(hw:C9 ops env ⟨some t,.call { callee:=.value x,args,argTypes:=ts },ty,pos,after,gd⟩=some true)
  (hf:B8 env x = .fn (.yield l) [])(ha:args.toList.map (B8 env)=ds)(m:args.size=ps.size)(j:(ps.toList.all λp=>decide (p<N0))=true)(hcalm:X.calm=true)
  (h:∀e o q,aA { P:=X.P,N:=N0,ρ:=some l,w0:=X.w0,imm0:=X.imm0,ext:=e,obs:=o,calm:=true,tab:=X.tab } assign
   (Yb { P:=X.P,N:=N0,ρ:=some l,w0:=X.w0,imm0:=X.imm0,ext:=e,obs:=o,calm:=true,tab:=X.tab } { P:=X.P,N:=N0,ρ:=some l,w0:=X.w0,imm0:=X.imm0,ext:=e,obs:=q,calm:=true,tab:=X.tab } body
    (ZI { P:=X.P,N:=N0,ρ:=some l,w0:=X.w0,imm0:=X.imm0,ext:=e,obs:=q,calm:=true,tab:=X.tab } (λs=>Sq X ops (i+1) os K ⟨A3 (pd s.env) t (.bool true),s.σ⟩) (λc s=>Sq (X.done c) ops (i+1) os K ⟨A3 (pd s.env) t (.bool false),s.σ⟩)))
   ⟨tF (JE ps.toList ds (pd env)) env,σ⟩)(u:N0<=1000000:=by exact zP rfl) :
  Sq X ops i (⟨some t,.call { callee:=.value x,args,argTypes:=ts },ty,pos,after,gd⟩::os) K ⟨env,σ⟩:=U9 λho=>Dq ho y hw hf ha m j hcalm h u
theorem LI{args:Array Operand}{ts:Array TypeId}{x:Operand}{gf:FuncId}{cap ds:List PV}{fn:Func}{c:Code}{N1:Nat}(ho:ops[i]? = some ⟨some t,.call { callee:=.value x,args,argTypes:=ts },ty,pos,after,gd⟩)(hw:C9 ops env ⟨some t,.call { callee:=.value x,args,argTypes:=ts },ty,pos,after,gd⟩=some true)
  (hf:B8 env x = .fn (.func gf) cap)(hk:X.P.funcs[gf]? = some fn)(hb:fn.body=some c)(hname':D6 X.P gf)(hN:fn.ntmps=N1)(ha:args.toList.map (B8 env)++cap=ds)(hn:ds.length<=N1)
  (h:∀e1 o1,aA { P:=X.P,N:=N1,ρ:=none,w0:=X.w0,imm0:=X.imm0,ext:=e1,obs:=o1,calm:=true,tab:=X.tab } c
   (YI X.P { P:=X.P,N:=N1,ρ:=none,w0:=X.w0,imm0:=X.imm0,ext:=e1,obs:=o1,calm:=true,tab:=X.tab } fn (λd s=>K X ⟨A3 (pd s.env) t d,s.σ⟩)) ⟨tF (O6 ds) env,σ⟩)(h6:N1<=1000000:=by exact zP rfl) :
  TJ X ops i K ⟨env,σ⟩:=by
 intro hd n g a w next Qo hs hq;obtain⟨fn2,c2,hf2,_,hname⟩:=hname';rw[hk] at hf2;cases hf2;unfold wpOpIn;rw[ho];simp only;rw[zb (ax hs hw)];have hv:=hs.eval x;rw[show B8 (St.env ⟨env,σ⟩) x = .fn (.func gf) cap from hf] at hv;obtain⟨vs,e0,hnv,hcap⟩:=mN hv;have hexec:=nh (P:=X.P) (w:=w) (o:=⟨some t,.call { callee:=.value x,args,argTypes:=ts },ty,pos,after,gd⟩) rfl e0 ⟨fn,c,hk,hb,hname⟩;refine⟨λ_ _=>trivial,?_⟩;rw[Oper.semAt_eq _ _ _ (λc q=>Γ),hexec];refine⟨λq=>by simp[FX] at q,?_⟩;obtain⟨av,G⟩:∃av:Array Value,av=args.map a.eval++vs:=⟨_,rfl⟩;rw[<-G];have hz:av.size=ds.length:=by rw[G,<-ha];simp[hnv]
 have hrd:∀(j:Nat) v d,av[j]? = some v->ds[j]? = some d->Rd w g.imm g.μ (St.p6 ⟨env,σ⟩) v d:=by
  intro j v d hv m;subst G;subst ha;rcases zI j args.size with q | q
  .rw[qr (Ω q),zch] at hv;rw[zX (Ω q),zD] at m;cases hx:args[j]? with
   | none=>rw[hx] at hv;cases hv
   | some y=>
    have hx':args.toList[j]? = some y:=Ω hx
    rw[hx] at hv;rw[hx'] at m;cases hv;cases m;exact hs.eval y
  .rw[zaj (Ω q)] at hv;rw[zW (Ω q)] at m;exact hcap _ v d hv (Ω (m))
 have s1:=hs.push (N:=N1) none (tmps:=av++Array.replicate (fn.ntmps-av.size) undef) (top:=O6 ds) h6 (by
   simp only[zbt,Array.size_replicate];omega) (λi _=>Nq hz hrd _ i)
 generalize hY:X.over a N1 none=Y at s1;have p:Y={ P:=X.P,N:=N1,ρ:=none,w0:=X.w0,imm0:=X.imm0,ext:=Y.ext,obs:=Y.obs,calm:=true,tab:=X.tab }:=by
  rw[<-hY];simp only[Ctx.over]
 have h1:=h Y.ext Y.obs;rw[<-p] at h1;have hYρ:Y.ρ=none:=by rw[p]
 have C:Y.P=X.P:=by rw[p]
 have hYc:Y.calm=true:=by rw[p]
 have w1:=h1 (n-1) g _ w s1;rw[hYρ,C] at w1;have hc:CallsIn (FX none) (n-1) X.P gf av w λe w''=>∃v,e = .returned v/\next (a.put (some t) v) w'':=by
  refine callsIn_of_wp_marks hk hb trivial ?_ rfl;refine zb1 w1 λex a1 w1 q=>?_;have key:∀X' H B,u7 X' H B a1 w1->(X'=Y/\∃rs,Dy X.P B fn.results.toList rs/\K X ⟨A3 (pd B.env) t (ke rs),B.σ⟩)->LeavesInM (FX none) (n-1) X.P fn a1.tmps (λe w''=>∃v,e = .returned v/\next (a.put (some t) v) w'') a1.defers .returning w1:=by
   rintro X' H B u ⟨rfl,rs,hr,hk'⟩;rw[u.big.2 hYc];rw[<-C] at hr;obtain⟨v,A,hvr⟩:=Nw u hr;rw[C] at A;refine⟨v,A,v,rfl,?_⟩;rw[<-hY] at u;have s2:=hs.pop u;exact hq _ _ _ _ _ (s2.put (Q5 hd ho) hvr) ⟨⟨rfl,rfl⟩,rfl⟩ hk'
  cases ex <;> simp only[lift,YI,bodyPostM] at q |- <;> first
   | (obtain⟨X',H,B,h1,_,h2⟩:=q;exact key X' H B h1 h2)
   | (obtain⟨X',H,B,h1,_,h2⟩:=q;exact h2.elim)
   | exact q.elim
 have hc2:CallsIn (FX X.ρ) (n-1) X.P gf av w λe w''=>∃v,e = .returned v/\next (a.put (some t) v) w'':=hc;refine hc2.mono λe w'' hr=>?_;obtain⟨v,rfl,hk⟩:=hr;exact hk
theorem xc{args:Array Operand}{ts:Array TypeId}{x:Operand}{gf:FuncId}{cap ds:List PV}{fn:Func}{c:Code}{N1:Nat}(hw:C9 ops env ⟨some t,.call { callee:=.value x,args,argTypes:=ts },ty,pos,after,gd⟩=some true)
  (hf:B8 env x = .fn (.func gf) cap)(hk:X.P.funcs[gf]? = some fn)(hb:fn.body=some c)(hname':D6 X.P gf)(o:fn.ntmps=N1)(ha:args.toList.map (B8 env)++cap=ds)(hn:ds.length<=N1)
  (h:∀e j,aA { P:=X.P,N:=N1,ρ:=none,w0:=X.w0,imm0:=X.imm0,ext:=e,obs:=j,calm:=true,tab:=X.tab } c
   (YI X.P { P:=X.P,N:=N1,ρ:=none,w0:=X.w0,imm0:=X.imm0,ext:=e,obs:=j,calm:=true,tab:=X.tab } fn (λd s=>Sq X ops (i+1) os K ⟨A3 (pd s.env) t d,s.σ⟩)) ⟨tF (O6 ds) env,σ⟩)(m:N1<=1000000:=by exact zP rfl) :
  Sq X ops i (⟨some t,.call { callee:=.value x,args,argTypes:=ts },ty,pos,after,gd⟩::os) K ⟨env,σ⟩:=U9 λho=>LI ho hw hf hk hb hname' o ha hn h m
end
section
variable{X:Ctx}{Q:PX->Ctx->St->Prop}{st:St}
theorem Zu{J R:Type}{x:Code}{κ:J->Option R}{r:R}(F:J->St)(hk:∀j,κ j=some r->Q .normal X (F j))(hx:aA X x (mB (λX' s=>X'=X/\∃j,κ j=some r/\Wk s (F j)) Q) st):aA X x Q st:=λn g a w hs=>zb1 (hx n g a w hs) λe c w' q=>by
 cases e <;> simp only[lift,mB] at q |- <;> first | exact q | skip
 obtain⟨X',m,st',p,u,rfl,j,y,h⟩:=q;obtain⟨o,A⟩:=h X' m c w' p;exact⟨X',o,_,A,u,hk j y⟩
def Yo(K:Ctx->St->Prop):PX->Ctx->St->Prop
 | .normal,X,s | .ret,X,s=>K X s
 | _,_,_=>False
theorem Zv{J R:Type}{x:Code}{κ:J->Option R}{r:R}(F:J->St)(hk:∀j,κ j=some r->Q .normal X (F j)/\Q .ret X (F j))(hx:aA X x (Yo (λX' s=>X'=X/\∃j,κ j=some r/\Wk s (F j))) st):aA X x Q st:=λn g a w hs=>zb1 (hx n g a w hs) λe h w' q=>by
 cases e <;> simp only[lift,Yo] at q |- <;> first | (obtain⟨X',o,st',u,m,c⟩:=q;exact c.elim) | exact q | skip
 all_goals
  obtain⟨X',o,st',u,m,rfl,j,c,A⟩:=q;obtain⟨p,y⟩:=A X' o h w' u;first | exact⟨X',p,_,y,m,(hk j c).1⟩ | exact⟨X',p,_,y,m,(hk j c).2⟩
theorem dup{p q:Prop}(h:p)(e:p=q:=by rfl):p/\q:=⟨h,e▸h⟩
end
end Go.Pw
namespace Go.Pw
open Go.RowKit Go.Sh
theorem Ek{x y c z:PV}{j k:Nat}(hx:x.el=true)(hj:x.cells[j]? = some y)(hs:c.sc=true)(h:(K8 x j [c]).cells[k]? = some z):(k=j/\z=c)\/(k≠j/\x.cells[k]? = some z):=by
 have m:=PV.G5 hj;have hc:=(pz (x:=x) (f:=j) (cs:=[c]) hx Ξ (by simp[hs])).1;rw[hc] at h;have hk:(x.cells.take j).length=j:=by simp;omega
 by_cases e:k=j
 .subst e;left;refine⟨rfl,?_⟩;rw[zac,zW Δ] at h;simp[hk] at h;exact h.symm
 .right;refine⟨e,?_⟩;rcases zI k j with q | q
  .rw[zac,zX Δ,zas q] at h;exact h
  .rw[zW Ξ] at h;simp only[zA,hk,zF,zag,zao] at h;rwa [show j+(0+1)+(k-(j+(0+1)))=k by omega] at h
section
variable{X:Ctx}{st:St}{a:Act}{w:World}{g:Gh}
theorem u7.SU(h:u7 X g st a w){l0 j:Nat}{m:Row}{x y B:PV}{cl':Bool}(hl:st.σ l0=some m)(he:m.els = [x])(hj:x.cells[j]? = some y)(hs:B.sc=true)(hr:∀b s v,(g.μ l0).A=some ⟨b,s,none⟩->w.cell? ⟨b,s+0*(g.μ l0).z+j,none⟩=some v->Rd w g.imm g.μ st.p6 v y->Rd w g.imm g.μ st.p6 v B)
  (hcl:cl'=true->m.cl=true/\∀v,Rd0 w g.imm v y->Rd0 w g.imm v B):u7 X g ⟨st.env,A3 st.σ l0 (some ⟨[K8 x j [B]],m.lo,m.opn,m.z,cl'⟩)⟩ a w:=by
 have hp:∀l,st.p6 l->St.p6 ⟨st.env,A3 st.σ l0 (some ⟨[K8 x j [B]],m.lo,m.opn,m.z,cl'⟩)⟩ l/\g.μ l=g.μ l:=by
  rintro l ⟨r,hr⟩;refine⟨?_,rfl⟩;by_cases e:l=l0
  .subst e;exact⟨_,p7 _ _ _⟩
  .exact⟨r,by rw[<-hr];exact o0 _ _ e⟩
 have nomap:MB<=l0->False:=λq=>by
  obtain⟨b',es,N,_⟩:=h.maps.at_ l0 m q hl;rw[he] at N;cases N;cases hj
 have G:=h.rows l0 m hl;have p:=G.el x (by rw[he];exact zh ..);have hlt:=PV.G5 hj;have H:=pz (x:=x) (f:=j) (cs:=[B]) p.1 Ξ (by simp[hs]);have hlen:(K8 x j [B]).cells.length=x.cells.length:=by rw[H.1];simp;omega
 have hown:∀b o,M1 (g.μ l0) ⟨[K8 x j [B]],m.lo,m.opn,m.z,cl'⟩ b o->M1 (g.μ l0) m b o:=λb o q=>q;have hcase:∀l r,A3 st.σ l0 (some ⟨[K8 x j [B]],m.lo,m.opn,m.z,cl'⟩) l=some r->∃r1,st.σ l=some r1/\(∀b o,M1 (g.μ l) r b o->M1 (g.μ l) r1 b o):=by
  intro l r q;by_cases e:l=l0
  .subst e;rw[p7] at q;cases q;exact⟨m,hl,hown⟩
  .rw[o0 _ _ e] at q;exact⟨r,q,λ_ _ q=>q⟩
 refine⟨h.size,λi=>(h.env i).mono (Ext.refl _ _) hp,λl r q=>?_,λl l' r r' hne q q' b o ho k=>?_,λl r b o q ho=>?_,h.immlt,h.immsub,h.immsup,h.below,h.marks,h.obs,h.big,h.maps.A3 hl (λq=>(nomap q).elim) λq=>(nomap q).elim⟩
 .by_cases e:l=l0
  .subst e;rw[show (St.mk st.env (A3 st.σ l (some ⟨[K8 x j [B]],m.lo,m.opn,m.z,cl'⟩))).σ l=_ from p7 _ _ _] at q;cases q;refine⟨by rw[G.n,he];rfl,G.z,G.C,G.lo,λz hz=>?_,G.nil,G.spot,λi z k c hz hc=>?_,λb o ho=>G.own b o ho⟩
   .simp only[zu] at hz;subst hz;exact⟨H.2,by rw[hlen];exact p.2⟩
   .cases i with
    | succ i=>simp at hz
    | zero=>
     simp only[za6,wd] at hz;subst hz;rcases Ek p.1 hj hs hc with ⟨rfl,rfl⟩ | ⟨_,hc'⟩
     .obtain⟨b,s,u,k1,k2,k3,k4,k5⟩:=G.cell 0 x k y (by rw[he];rfl) hj;exact⟨b,s,u,k1,k2,(hr b s u k1 k2 k3).mono (Ext.refl _ _) hp,k4,λq=>(hcl q).2 u (k5 (hcl q).1)⟩
     .obtain⟨b,s,u,k1,k2,k3,k4,k5⟩:=G.cell 0 x k c (by rw[he];rfl) hc';exact⟨b,s,u,k1,k2,k3.mono (Ext.refl _ _) hp,k4,λq=>k5 (hcl q).1⟩
  .rw[show (St.mk st.env (A3 st.σ l0 (some ⟨[K8 x j [B]],m.lo,m.opn,m.z,cl'⟩))).σ l=st.σ l from o0 _ _ e] at q;exact (h.rows l r q).mono (Ext.refl _ _) hp λ_ _ _=>⟨rfl,rfl⟩
 .obtain⟨r1,N,k1⟩:=hcase l r q;obtain⟨r2,h2,k2⟩:=hcase l' r' q';exact h.disj l l' r1 r2 hne N h2 b o (k1 b o ho) (k2 b o k)
 .obtain⟨r1,N,k1⟩:=hcase l r q;exact h.ownimm l r1 b o N (k1 b o ho)
end
theorem wZ{s:St}{l0 j l z:Nat}{x x':PV}{lo zz:Nat}{opn cl:Bool}(hl0:s.σ l0=some ⟨[x],lo,opn,zz,cl⟩)(hj:x.cells[j]? = some (.lst true []))(hl:s.σ l=none)(hx:K8 x j [.sl l]=x')(hne:(l==l0)=false)(hlm:l<MB:=by exact zP rfl) :
  Wk s ⟨s.env,A3 (A3 s.σ l (some ⟨[],0,true,z,true⟩)) l0 (some ⟨[x'],lo,opn,zz,false⟩)⟩:=λX g a w h=>by
 subst hx;have B:l≠l0:=Ω hne
 have nomap:MB<=l0->False:=λq=>by
  obtain⟨b',es,h1,_⟩:=h.maps.at_ l0 _ q hl0;cases h1;cases hj
 have hxr:=(h.rows l0 _ hl0).cell 0 x j _ rfl hj;obtain⟨b0,s0,u,hA0,hu,hv,_,_⟩:=hxr;obtain⟨A,c,z',u',e,h1,h2,h3,_⟩:=hv.gp;have hc:=h2 rfl;simp only[zag] at hc e;subst hc;have hs:=h.wH (l:=l) (A:=A) (xs:=[]) (z:=z) hlm hl (λ_=>rfl) (λ_ q=>Γ) (λq=>absurd q (zb0 _)) true;have y:(St.mk s.env (A3 s.σ l (some ⟨[],0,true,z,true⟩))).σ l0=some ⟨[x],lo,opn,zz,cl⟩:=by rw[<-hl0];exact o0 _ _ (zaz B)
 have p:u7 X ⟨g.imm,A3 g.μ l ⟨A,0,0,z⟩⟩ ⟨s.env,A3 s.σ l (some ⟨[],0,true,z,true⟩)⟩ a w:=hs;have H:=p.rows l0 _ y;have hμ:A3 g.μ l ⟨A,0,0,z⟩ l0=g.μ l0:=o0 _ _ (zaz B);have hp:∀l',St.p6 ⟨s.env,A3 s.σ l (some ⟨[],0,true,z,true⟩)⟩ l'->St.p6 ⟨s.env,A3 (A3 s.σ l (some ⟨[],0,true,z,true⟩)) l0 (some ⟨[K8 x j [.sl l]],lo,opn,zz,false⟩)⟩ l'/\A3 g.μ l ⟨A,0,0,z⟩ l'=A3 g.μ l ⟨A,0,0,z⟩ l':=by
  rintro l' ⟨r,hr⟩;refine⟨?_,rfl⟩;by_cases e:l'=l0
  .subst e;exact⟨_,p7 _ _ _⟩
  .exact⟨r,by rw[<-hr];exact o0 _ _ e⟩
 have G:=H.el x (zh ..);have hlt:=PV.G5 hj;have N:=pz (x:=x) (f:=j) (cs:=[.sl l]) G.1 Ξ rfl;have hlen:(K8 x j [.sl l]).cells.length=x.cells.length:=by rw[N.1];simp;omega
 have hcase:∀l' r,A3 (A3 s.σ l (some ⟨[],0,true,z,true⟩)) l0 (some ⟨[K8 x j [.sl l]],lo,opn,zz,false⟩) l'=some r->∃r1,A3 s.σ l (some ⟨[],0,true,z,true⟩) l'=some r1/\(∀b o,M1 (A3 g.μ l ⟨A,0,0,z⟩ l') r b o->M1 (A3 g.μ l ⟨A,0,0,z⟩ l') r1 b o):=by
  intro l' r q;by_cases e:l'=l0
  .subst e;rw[p7] at q;cases q;exact⟨_,y,λ_ _ q=>q⟩
  .rw[o0 _ _ e] at q;exact⟨r,q,λ_ _ q=>q⟩
 refine⟨⟨g.imm,A3 g.μ l ⟨A,0,0,z⟩⟩,⟨p.size,λi=>(p.env i).mono (Ext.refl _ _) hp,λl' r q=>?_,λl1 l2 r r' hne q q' b o ho k=>?_,λl' r b o q ho=>?_,p.immlt,p.immsub,p.immsup,p.below,p.marks,p.obs,p.big,p.maps.A3 y (λq=>(nomap q).elim) λq=>(nomap q).elim⟩⟩
 .by_cases e:l'=l0
  .subst e;rw[show (St.mk s.env (A3 (A3 s.σ l (some ⟨[],0,true,z,true⟩)) l' (some ⟨[K8 x j [.sl l]],lo,opn,zz,false⟩))).σ l'=_ from p7 _ _ _] at q;cases q;refine⟨H.n,H.z,H.C,H.lo,λz hz=>?_,H.nil,H.spot,λi z k c hz hc=>?_,λb o ho=>H.own b o ho⟩
   .simp only[zu] at hz;subst hz;exact⟨N.2,by rw[hlen];exact G.2⟩
   .cases i with
    | succ i=>simp at hz
    | zero=>
     simp only[za6,wd] at hz;subst hz;rcases Ek G.1 hj rfl hc with ⟨rfl,rfl⟩ | ⟨_,hc'⟩
     .obtain⟨b,s1,u1,k1,k2,k3,k4,k5⟩:=H.cell 0 x k _ rfl hj;refine⟨b,s1,u1,k1,k2,?_,k4,λq=>Γ⟩;simp only[hμ] at k1 k2;rw[hA0] at k1;cases k1;rw[hu] at k2;cases k2;rw[e];exact gO (m:=⟨A,0,0,z⟩) ⟨⟨[],0,true,z,true⟩,(o0 _ _ B).trans (p7 _ _ _)⟩ (p7 _ _ _)
     .obtain⟨b,s,u,k1,k2,k3,k4,k5⟩:=H.cell 0 x k c rfl hc';exact⟨b,s,u,k1,k2,k3.mono (Ext.refl _ _) hp,k4,λq=>Γ⟩
  .rw[show (St.mk s.env (A3 (A3 s.σ l (some ⟨[],0,true,z,true⟩)) l0 (some ⟨[K8 x j [.sl l]],lo,opn,zz,false⟩))).σ l'=A3 s.σ l (some ⟨[],0,true,z,true⟩) l' from o0 _ _ e] at q;exact (p.rows l' r q).mono (Ext.refl _ _) hp λ_ _ _=>⟨rfl,rfl⟩
 .obtain⟨r1,h1,k1⟩:=hcase l1 r q;obtain⟨r2,h2,k2⟩:=hcase l2 r' q';exact p.disj l1 l2 r1 r2 hne h1 h2 b o (k1 b o ho) (k2 b o k)
 .obtain⟨r1,h1,k1⟩:=hcase l' r q;exact p.ownimm l' r1 b o h1 (k1 b o ho)
theorem Ty{s:St}(l0 j:Nat){x x' y B:PV}{σ':Nat->Option Row}{lo zz:Nat}{opn cl:Bool}{c:Row}(e:s.σ l0=some c)(he:c.els = [x])(hj:x.cells[j]? = some y)(hok:y.pY s.σ=true)(hy:y.vw s.σ=B)(hf:V1 s.σ (y.T9 s.σ)=σ')(o:σ' l0=some ⟨[x],lo,opn,zz,cl⟩)(hs:B.sc=true)(hx:K8 x j [B]=x') :
  Wk s ⟨s.env,A3 σ' l0 (some ⟨[x'],lo,opn,zz,false⟩)⟩:=λX g a w h=>by
 subst hx;subst hy;subst hf;obtain⟨imm',C,G,H⟩:=h.V1 (y.T9 s.σ);refine⟨⟨imm',g.μ⟩,C.SU o rfl hj hs (λb s1 v hA hv _=>?_) (λq=>Γ)⟩;obtain⟨b',s',u,k1,k2,N,_,_⟩:=(h.rows l0 c e).cell 0 x j y (by rw[he];rfl) hj;have m:(g.μ l0).A=some ⟨b,s1,none⟩:=hA;rw[m] at k1;cases k1;have p:w.cell? ⟨b,s1+0*(g.μ l0).z+j,none⟩=some v:=hv;rw[p] at k2;cases k2;exact .cl (h.view G N hok H).w2
end Go.Pw
namespace Go.Pw
open Go.RowKit Go.Sh
def yo(M:Array Nat)(n m:Nat):Bool:=(List.range n).all λx=>decide (x<m)||(List.range m).all λj=>(M.getD x 0).testBit j
theorem Bt{M:Array Nat}{n m:Nat}(h:yo M n m=true){x j:Nat}(hx:x<n)(hm:m<=x)(hj:j<m):(M.getD x 0).testBit j=true:=by
 have:=zg.1 h x (Ω hx);rw[zbx] at this;rcases this with q | q
 .have:x<m:=by simpa using q
  omega
 .exact zg.1 q j (Ω hj)
section
variable{X:Ctx}{ops:Array Oper}{n:Nat}{ρ:Option Nat}{Q:Exit->Act->World->Prop}
def Down(ops:Array Oper)(listed:Array Bool):Prop:=∀i o,listed.getD i false=true->ops[i]? = some o->∀e∈o.after,Region.binds .any e=true->listed.getD e.on false=true
theorem yH{bar:List Nat}{M:Array Nat}(hr:tH ops bar M=true){listed:Array Bool}(B:listed.size=ops.size){i:Nat}{c:List Nat}(h:ia ops.size listed=i::c):i∈Region.ready .any ops listed:=by
 have o:i∈ia ops.size listed:=by rw[h];simp
 obtain⟨j,u⟩:=zj.1 o;have hi:i<ops.size:=Ω j
 refine zj.2 ⟨j,?_⟩;rw[u,zax,zq hi];simp only[rg,un];rw[zbl];intro e he;cases hb:Region.binds .any e with
 | false=>rfl
 | true=>
 have A:=(dg hr (zq hi)).2.1 e he hb;show (!true||_)=true;rw[zbx];right;cases y:listed.getD e.on false with
 | true=>rfl
 | false=>
  exfalso;have p:e.on∈ia ops.size listed:=zj.2 ⟨Ξ,by
   have:listed.getD e.on true=false:=by
    have m:e.on<listed.size:=Δ
    simp[zO,m] at y |-;exact y
   rw[this];rfl⟩
  have hs:=jD ops.size listed;rw[h] at hs p;rw[or] at hs;rcases zJ.1 p with q | q
  .omega
  .have:=hs.1 _ q;omega
theorem uz{listed:Array Bool}{i:Nat}(hi:i∈Region.ready .any ops listed):i<ops.size/\i∈ia ops.size listed/\∀o,ops[i]? = some o->∀e∈o.after,Region.binds .any e=true->listed.getD e.on false=true:=by
 obtain⟨k1,k2⟩:=zj.1 hi;rw[zB] at k2;have c:i<ops.size:=Ω k1
 refine⟨c,zj.2 ⟨k1,k2.1⟩,λo ho e he hb=>?_⟩;have:=k2.2;rw[ho] at this;simp only[rg,un] at this;rw[zbl] at this;have:=this e he;rw[hb] at this;simpa using this
theorem yT{bar:List Nat}{M:Array Nat}(hr:tH ops bar M=true){listed:Array Bool}(hdown:Down ops listed){i:Nat}{o:Oper}(ho:ops[i]? = some o)(c:∀e∈o.after,Region.binds .any e=true->listed.getD e.on false=true) :
  ∀j,(M.getD i 0).testBit j=true->listed.getD j false=true:=by
 have key:∀(m k:Nat) (o:Oper),k<m->ops[k]? = some o->(∀e∈o.after,Region.binds .any e=true->listed.getD e.on false=true)->∀j,(M.getD k 0).testBit j=true->listed.getD j false=true:=by
  intro m;induction m with
  | zero=>intro k o hk;omega
  | succ m ihm=>
   intro k o hk ho c j hj;obtain⟨e,u,y,p⟩:=(dg hr ho).1 j hj;have hl:=c e u y;rcases p with rfl | p
   .exact hl
   .have G:=(dg hr ho).2.1 e u y;have h:k<ops.size:=by
     rcases zI k ops.size with q | q
     .exact q
     .rw[zci q] at ho;cases ho
    exact ihm e.on _ Δ (zq (show e.on<ops.size by omega)) (λA B C=>hdown e.on _ hl (zq (show e.on<ops.size by omega)) A B C) j p
 exact key (i+1) i o Δ ho c
theorem um{listed:Array Bool}{j:Nat}(h:j∈ia ops.size listed):listed.getD j false=false:=by
 obtain⟨m,e⟩:=zj.1 h;have q2':listed.getD j true=false:=Ω e
 rw[zO] at q2' |-;cases c:listed[j]? with
 | none=>rfl
 | some b=>rw[c] at q2';exact q2'
theorem Down.set{listed:Array Bool}(hd:Down ops listed){i:Nat}(c:∀o,ops[i]? = some o->∀e∈o.after,Region.binds .any e=true->listed.getD e.on false=true):Down ops (listed.setIfInBounds i true):=by
 intro k o hk ho e he hb;by_cases q:k=i
 .subst q;exact getD_set_true (c o ho e he hb)
 .rw[getD_set_ne (listed:=listed) (i:=i) (j:=k) false (zaz q)] at hk;exact getD_set_true (hd k o hk ho e he hb)
theorem Eh{bar:List Nat}{M:Array Nat}{m:Nat}{stM:St}(hd:jg X.N ops=true)(hr:tH ops bar M=true)(hc:yo M ops.size m=true){N:Nat}
  {tail:List Nat}(ht:∀x∈tail,m<=x)
  (hK:∀listed g' a' w',listed.size=ops.size->ia ops.size listed=tail->Down ops listed->u7 X g' stM a' w'->wpAnyIn (FX ρ) n X.P .any ops Q N listed a' w') :
  ∀(k:Nat) (c:List Nat) (listed:Array Bool) (g:Gh) (st:St) (a:Act) (w:World),c.length=k->u7 X g st a w->listed.size=ops.size->ia ops.size listed=c++tail->(∀j∈c,j<m)->Down ops listed->HS X.P ops bar true c st stM ->
   wpAnyIn (FX ρ) n X.P .any ops Q (k+N) listed a w:=by
 intro k;induction k with
 | zero=>
  intro c listed g st a w hk h y e A hdown p;have:c = []:=ul hk;subst this;have:st=stM:=p;subst this;rw[zar];exact hK listed g a w y (Ω e) hdown h
 | succ k ih=>
  intro c listed g st a w hk h y e A hdown p;rw[Nat.succ_add];refine⟨λhnil=>?_,λi hi=>?_⟩
  .exfalso;cases c with
   | nil=>simp at hk
   | cons j c=>
    have:=yH hr y e;rw[hnil] at this;cases this
  .obtain⟨B,hirem,hafter⟩:=uz hi;have o:=zq B;have hwait:=yT hr hdown o (hafter _ o);have hic:i∈c:=by
    rw[e] at hirem;rcases zH.1 hirem with q | q
    .exact q
    .exfalso;obtain⟨j,hj⟩:∃j,j∈c:=by
      cases c with
      | nil=>simp at hk
      | cons j c=>exact⟨j,zh ..⟩
     have h1:=hwait j (Bt hc B (ht i q) (A j hj));rw[um (ops:=ops) (listed:=listed) (j:=j) (by rw[e];exact rx _ hj)] at h1;cases h1
   obtain⟨c1,c2,u⟩:=List.append_of_mem hic;have hs:=jD ops.size listed;rw[e,u] at hs;rw[u] at p;have H:(c1++i::(c2++tail)).Pairwise (· < ·):=Ω hs
   rw[za8] at H;have G:∀j∈c1,∀oj,ops[j]? = some oj->oj.apart ops ops[i]=true/\allowed (cls bar j oj.op) (cls bar i ops[i].op)=true:=by
    intro j hj oj hoj;have hji:=H.2.2 j hj i (zh ..);rcases (dg hr o).2.2 j oj hji hoj with q | q
    .have:=hwait j q;rw[um (ops:=ops) (listed:=listed) (j:=j) (by rw[e,u];simp[hj])] at this;cases this
    .exact q
   obtain⟨σF,st',hst,hrest⟩:=CN o c1 c2 st stM G p;refine yg o h hst (Q5 hd o) λg' a' w' h'=>?_;have C:=CF (c1:=c1) (c2:=c2++tail) y B (by rw[e,u];simp);refine ih (c1++c2) _ g' st' a' w' ?_ h' (Ω y) (by rw[C];simp) (λj hj=>A j (by rw[u];rcases zH.1 hj with q | q <;> simp[q])) (hdown.set hafter) hrest;rw[u] at hk;simp at hk |-;omega
theorem UN{bar:List Nat}{M:Array Nat}{m:Nat}(hr:tH ops bar M=true)(hc:yo M ops.size (m+1)=true){tail:List Nat}(ht:∀x∈tail,m+1<=x){N:Nat}{listed:Array Bool}{a:Act}{w:World}(p:listed.size=ops.size)
  (c:ia ops.size listed=m::tail)(hdown:Down ops listed)
  (h:∀listed',listed'.size=ops.size->ia ops.size listed'=tail->Down ops listed'->wpOpIn (FX ρ) n X.P ops Q m (wpAnyIn (FX ρ) n X.P .any ops Q N listed') a w):wpAnyIn (FX ρ) n X.P .any ops Q (N+1) listed a w:=by
 refine⟨λhnil=>?_,λi hi=>?_⟩
 .have:=yH hr p c;rw[hnil] at this;cases this
 .obtain⟨o,hirem,hafter⟩:=uz hi;have e:=zq o;have hwait:=yT hr hdown e (hafter _ e);rw[c] at hirem;rcases zJ.1 hirem with rfl | q
  .exact h _ (Ω p) (Ω (CF (c1:=[]) p o (by simpa using c))) (hdown.set hafter)
  .exfalso;have u:=hwait m (Bt hc o (ht i q) (Nat.lt_succ_self m));rw[um (ops:=ops) (listed:=listed) (j:=m) (by rw[c];exact zh ..)] at u;cases u
end
theorem rB{P:Program}{bar:List Nat}{dr:Bool}{K:St->Prop}{ops:Array Oper}:∀(os:List Oper) (i:Nat) (st:St),(∀j,j<os.length->os[j]? = ops[i+j]?)->Ex P ops bar dr i os st K->∃s,HS P ops bar dr (List.range' i os.length) st s/\K s
 | [],_,st,_,h=>⟨st,rfl,h⟩
 | o::os,i,st,hi,h=>by
  obtain⟨s,c,e⟩:=h;obtain⟨s',k1,k2⟩:=rB os (i+1) s (λj hj=>by
   have:=hi (j+1) (Ω hj);rwa [zbu,show i+(j+1)=i+1+j by omega] at this) e
  have h0:=hi 0 Ψ;exact⟨s',⟨o,s,Ω h0.symm,c,k1⟩,k2⟩
section
variable{X:Ctx}{Q:PX->Ctx->St->Prop}{st:St}
theorem GK{ops:Array Oper}{i:Nat}{K:Ctx->St->Prop}{st':St}(h:Wk st st')(k:TJ X ops i K st'):TJ X ops i K st:=λhd n g a w next Qo hs j=>by
 obtain⟨e,c⟩:=h X g a w hs;exact k hd n e a w next Qo c j
theorem a14{id:Nat}{s:St}(h:Q (.exit id) X s):IP Q (.exit id) X s:=h
theorem Vy{s:St}(h:Q .ret X s):IP Q .ret X s:=h
theorem Vc{M:Array Nat}{n:Nat}:yo M n n=true:=zg.2 λx hx=>by
 have:x<n:=Ω hx
 simp[this]
theorem drY{id:Nat}{l:List Oper}{y:Code}(bar:List Nat)(m:Nat)(hm:X.P.follows .mixedOrders=true)(hd:jg X.N l.toArray=true)(hr:tH l.toArray bar (Region.before l.toArray)=true)
  (hc:yo (Region.before l.toArray) l.length m=true)(hc1:yo (Region.before l.toArray) l.length (m+1)=true)(hlt:m<l.length)
  (h:Ex X.P l.toArray bar true 0 (l.take m) st (λs=>TJ X l.toArray m (λX' s'=>∃s2,Wk s' s2/\Ex X'.P l.toArray bar true (m+1) (l.drop (m+1)) s2 (λs''=>aA X' y Q s'')) s)):aA X (.seq (.region id l.toArray true) y) Q st:=by
 intro n g a w hs;refine wpIn_seq (wpIn_region_any hm ?_);have hsize:l.toArray.size=l.length:=Ψ
 obtain⟨stM,hrun1,hop⟩:=rB (ops:=l.toArray) (l.take m) 0 st (λj hj=>by
  have:j<m:=by simp at hj;omega
  simp[zas this]) h
 have hlen:(l.take m).length=m:=by simp;omega
 rw[hlen] at hrun1;have u:ia l.toArray.size (Array.replicate l.toArray.size false)=List.range' 0 m++(m::List.range' (m+1) (l.length-(m+1))):=by
  have e1:ia l.toArray.size (Array.replicate l.toArray.size false)=List.range l.toArray.size:=zav.2 λi hi=>by
   have:i<l.length:=Ω hi
   simp[zO,this]
  have e2:(m::List.range' (m+1) (l.length-(m+1)))=List.range' (0+m) (l.length-m):=by
   rw[show l.length-m=(l.length-(m+1))+1 by omega,zar];rfl
  rw[e1,e2,hsize,List.range_eq_range',List.range'_append_1,show m+(l.length-m)=l.length by omega]
 have hdown0:Down l.toArray (Array.replicate l.toArray.size false):=λi o hi=>by
  exfalso;rw[zO,zbr] at hi;split at hi <;> cases hi
 have hfuel:l.toArray.size=m+((l.length-(m+1))+1):=by rw[hsize];omega
 have H:yo (Region.before l.toArray) l.toArray.size m=true:=by rw[hsize];exact hc
 have p:yo (Region.before l.toArray) l.toArray.size (m+1)=true:=by rw[hsize];exact hc1
 have goal:=Eh (X:=X) (ρ:=X.ρ) (n:=n) (Q:=Exit.then (λa w=>y.wpIn (FX X.ρ) n X.P (lift X Q) a w) (lift X Q)) (N:=(l.length-(m+1))+1) hd hr H (tail:=m::List.range' (m+1) (l.length-(m+1))) (λx hx=>by
   rcases zJ.1 hx with rfl | hx
   .exact zC _
   .have:=List.mem_range'_1.1 hx;omega) (stM:=stM) (λlisted g1 a1 w1 B hrem1 hdown1 hs1=>?_) m (List.range' 0 m) _ g st a _ Ψ hs.drew Ψ u (λj hj=>by have:=List.mem_range'_1.1 hj;omega) hdown0 hrun1
 .rw[<-hfuel] at goal;exact goal
 refine UN (X:=X) hr p (λx hx=>by have:=List.mem_range'_1.1 hx;omega) B hrem1 hdown1 λlisted2 C hrem2 hdown2=>?_;refine hop hd n g1 a1 w1 _ _ hs1 λX' g2' s2' a2 w2 A hX q=>?_;obtain⟨s2,hw2,hex⟩:=q;obtain⟨g2,hs2⟩:=hw2 X' g2' a2 w2 A;obtain⟨⟨e,c⟩,G⟩:=hX;obtain⟨sE,hrun2,hk⟩:=rB (ops:=l.toArray) (l.drop (m+1)) (m+1) s2 (λj _=>by simp[zao]) hex;have hlen2:(l.drop (m+1)).length=l.length-(m+1):=Ψ
 rw[hlen2] at hrun2;have goal2:=Eh (X:=X') (ρ:=X.ρ) (n:=n) (Q:=Exit.then (λa w=>y.wpIn (FX X.ρ) n X.P (lift X Q) a w) (lift X Q)) (N:=0) (by rw[G];exact hd) hr (m:=l.toArray.size) Vc (tail:=[]) (λx hx=>by cases hx) (stM:=sE) (λlisted g3 a3 w3 hsz3 hrem3 hdown3 hs3=>⟨?_,?_⟩) (l.length-(m+1)) (List.range' (m+1) (l.length-(m+1))) listed2 g2 s2 a2 w2 Ψ hs2 C (Ω hrem2) (λj hj=>by have:=List.mem_range'_1.1 hj;rw[hsize];omega) hdown2 hrun2
 .rw[e] at goal2;exact goal2
 .cases hq:Region.ready .any l.toArray listed with
  | nil=>rfl
  | cons i r=>
   have:=(uz (ops:=l.toArray) (listed:=listed) (i:=i) (by rw[hq];exact zh ..)).2.1;rw[hrem3] at this;cases this
 .have:=hk n g3 a3 w3 hs3;rw[vI ⟨e,c⟩,e,c] at this;exact this
end
end Go.Pw
namespace Go.Pw
open Go.RowKit Go.Sh Go.Instr
def sQ{K:Type}[BEq K]:List K->K->Option Nat
 | [],_=>none
 | a::ks,k=>if k==a then some 0 else (sQ ks k).map (· + 1)
theorem EM{K V:Type}[BEq K]:∀(es:List (K × V)) (k:K),C4 es k=(sQ (es.map (·.1)) k).bind λi=>es[i]?.map (·.2)
 | [],_=>rfl
 | p::es,k=>by
  unfold C4;rw[zT,sQ];split;·rfl
  .rw[EM es k];cases sQ (es.map (·.1)) k <;> rfl
theorem xO{K V:Type}[BEq K]:∀(es:List (K × V)) (k:K) (v:V),u6 es k v=match sQ (es.map (·.1)) k with
  | some i=>es.set i (k,v)
  | none=>es ++ [(k,v)]
 | [],_,_=>rfl
 | p::es,k,v=>by
  unfold u6;rw[zT,sQ];split;·rfl
  .rw[xO es k v];cases sQ (es.map (·.1)) k <;> rfl
theorem MN{K:Type}[BEq K]:∀(ks:List K) (k:K) (i:Nat),sQ ks k=some i->∃h:i<ks.length,(k==ks[i])=true
 | [],_,_,h=>by cases h
 | a::ks,k,i,h=>by
  rw[sQ] at h;split at h
  .rename_i q;cases h;exact⟨Nat.zero_lt_succ _,q⟩
  .rw[Option.map_eq_some_iff] at h;obtain⟨j,c,rfl⟩:=h;obtain⟨e,m⟩:=MN ks k j c;exact⟨Nat.succ_lt_succ e,Ω m⟩
def a0t{K:Type}(EK:K->PV)(ents:List MapEntry)(ks:List K)(w:World)(imm:Nat->Nat->Prop):Prop:=
 ents.length=ks.length/\∀(i:Nat) e k,ents[i]? = some e->ks[i]? = some k->Rd0 w imm e.key (EK k)
structure Dx (P:Program) (kt:TypeId) {K:Type} [BEq K] (EK:K->PV):Prop where
 check:∀ {w:World} {imm:Nat->Nat->Prop} {kv:Value} {k:K} (b:Bool),Rd0 w imm kv (EK k)->(checkKey b 10000 kt kv).run P w = .ok () w
 find:∀ {w:World} {imm:Nat->Nat->Prop} {kv:Value} {k:K} (ents:List MapEntry) (ks:List K),Rd0 w imm kv (EK k)->a0t EK ents ks w imm->(findKey kt kv ents).run P w = .ok ((sQ ks k).bind λi=>ents[i]?.map λe=>(i,e.val)) w
 stays:∀ {w:World} {imm:Nat->Nat->Prop} {kv ku:Value} {k u:K},Rd0 w imm kv (EK k)->Rd0 w imm ku (EK u)->(k==u)=true->(keyThatStays ku kv).run P w = .ok kv w
 lM:∀k:K,(EK k).lM=true/\(EK k).w1=EK k
 eq:∀k u:K,(k==u)=true->k=u
theorem yw{ik:IntKind}{n:Int}:∀(ents:List MapEntry) (ks:List Int) (c:Nat),ents.length=ks.length->(∀(i:Nat) e k,ents[i]? = some e->ks[i]? = some k->e.key = .int ik k) ->
  findNow (.int ik) (.int ik n) ents c=some ((sQ ks n).bind λi=>ents[i]?.map λe=>(c+i,e.val))
 | [],[],c,_,_=>rfl
 | e::ents,[],_,h,_=>by simp at h
 | [],k::ks,_,h,_=>by simp at h
 | e::ents,k::ks,c,hl,h=>by
  have h0:=h 0 e k rfl rfl;rw[findNow,h0,sQ];simp only[sameNow,ut];by_cases q:n=k
  .subst q;simp
  .have u:(n==k)=false:=by simpa using q
   rw[u];simp only[zM,pu];rw[yw ents ks (c+1) (Ω hl) λi m k' o p=>h (i+1) m k' (Ω o) (Ω p)];cases sQ ks n with
   | none=>rfl
   | some j=>
    simp only[zcv,rg,zbu];rw[t8,zb8 1 j]
theorem A8{P:Program}{kt:TypeId}{ik:IntKind}(h:P.underlying kt=some (.int ik)):Dx P kt (PV.int ik) where
 check b hr:=by
  cases hr
  unfold checkKey
  simp only[zy,zR h,zm]
  rfl
 find ents ks hr hk:=by
  cases hr
  unfold findKey
  simp only[zy,zR h,zm]
  rw[yw ents ks 0 hk.1 λi e k c j=>by
   have:=hk.2 i e k c j
   cases m:e.key <;> rw[m] at this <;> cases this
   rfl]
  simp only[zar]
  rfl
 stays c j he:=by
  cases c
  cases j
  rename_i k u
  have:k=u:=Ω he
  subst this
  unfold keyThatStays
  rw[zb (by simp[sameBits])]
  rfl
 lM k:=⟨rfl,rfl⟩
 eq k u h:=Ω h
theorem BQ{P:Program}{w:World}{b:Nat}{ents:Array MapEntry}{clock:Nat}(h:w.heap[b]? = some (.map ents clock)):(getObj b).run P w = .ok (.map ents clock) w:=by
 simp[getObj,Sem.run,h]
theorem CR{P:Program}{w:World}{b:Nat}{ents:Array MapEntry}{clock:Nat}(o:Obj)(h:w.heap[b]? = some (.map ents clock)):(setObj b o).run P w = .ok () (w.putObj b o):=by
 simp[setObj,Sem.run,h,World.putObj]
def dx{K V:Type}(EK:K->PV)(E:V->PV)(p:K × V):PV:=.tup [EK p.1,E p.2]
def wM(P:Program)(t:TypeId):Option (TypeId × TypeId):=match P.underlying t with | some (.map k e)=>some (k,e) | _=>none
theorem JL{P:Program}{t k e:TypeId}(h:wM P t=some (k,e)):P.underlying t=some (.map k e):=by
 unfold wM at h;split at h;·rename_i h';cases h;exact h'
 .cases h
section
variable{P:Program}{w:World}{imm:Nat->Nat->Prop}{K V:Type}[BEq K]{EK:K->PV}{E:V->PV}
theorem lT.keys{b:Nat}{es:List (K × V)}(h:lT w imm b (es.map (dx EK E))):∃ents clock,w.heap[b]? = some (.map ents clock)/\ents.toList.length=es.length/\a0t EK ents.toList (es.map (·.1)) w imm /\
  ∀(i:Nat) e p,ents.toList[i]? = some e->es[i]? = some p->Rd0 w imm e.val (E p.2):=by
 rcases h with ⟨ents,clock,y,j,o⟩ | ⟨s,pos,_,j⟩;rotate_left
 .cases es with
  | nil=>cases j
  | cons p es=>cases j
 have hl:ents.toList.length=es.length:=Ω j
 refine⟨ents,clock,y,hl,⟨Ω hl,λi e k m c=>?_⟩,λi e p m c=>?_⟩
 .obtain⟨kk,vv,k1,k2,u⟩:=o i e (Ω m);rw[zD] at k1 c;cases q:es[i]? with
  | none=>rw[q] at c;cases c
  | some p=>
   rw[q] at k1 c;cases c;cases k1;exact k2
 .obtain⟨kk,vv,k1,k2,u⟩:=o i e (Ω m);rw[zD,c] at k1;cases k1;exact u
theorem lT.find{b:Nat}{es:List (K × V)}(h:lT w imm b (es.map (dx EK E))){kt:TypeId}(m:Dx P kt EK){kv:Value}{k:K}(hk:Rd0 w imm kv (EK k)) :
  ∃ents clock,w.heap[b]? = some (.map ents clock)/\(∀e,(checkKey e 10000 kt kv).run P w = .ok () w)/\((C4 es k=none/\sQ (es.map (·.1)) k=none/\(findKey kt kv ents.toList).run P w = .ok none w) \/
   ∃i e p,sQ (es.map (·.1)) k=some i/\ents[i]? = some e/\es[i]? = some p/\C4 es k=some p.2/\(k==p.1)=true/\Rd0 w imm e.val (E p.2)/\Rd0 w imm e.key (EK p.1)/\(findKey kt kv ents.toList).run P w = .ok (some (i,e.val)) w):=by
 obtain⟨ents,clock,o,A,j,q⟩:=h.keys;refine⟨ents,clock,o,λe=>m.check e hk,?_⟩;have hf:=m.find ents.toList (es.map (·.1)) hk j;rw[EM];cases hi:sQ (es.map (·.1)) k with
 | none=>rw[hi] at hf;exact .inl ⟨rfl,rfl,hf⟩
 | some i=>
  obtain⟨u,y⟩:=MN _ _ _ hi;have q1':i<es.length:=Ω u
  have c:i<ents.toList.length:=Δ
  rw[hi] at hf;rw[zcv,zc c] at hf;refine .inr ⟨i,ents.toList[i],es[i],rfl,?_,zc q1',?_,Ω y,q i _ _ (zc c) (zc q1'),j.2 i _ _ (zc c) (by rw[zD,zc q1'];rfl),hf⟩;·rw[<-Array.getElem?_toList,zc c]
  .rw[zcv,zc q1'];rfl
def YN(E:V->PV)(r:Option V)(z:PV)(ok:Bool):PV:=
 if ok then .tup [match r with | some v=>E v | none=>z,.bool r.isSome] else match r with | some v=>E v | none=>z
theorem Rz(E:V->PV)(r:Option V)(z:V):YN E r (E z) false=E (r.getD z):=by cases r <;> rfl
theorem lk2(E:V->PV)(r:Option V)(z:V):YN E r (E z) true = .tup [E (r.getD z),.bool r.isSome]:=by cases r <;> rfl
theorem CM{b:Nat}{es:List (K × V)}(h:lT w imm b (es.map (dx EK E))){T kt et:TypeId}(hT:wM P T=some (kt,et))(y:Dx P kt EK){kv:Value}{k:K}(hk:Rd0 w imm kv (EK k)){zv:Value}(hz:A6 P et=some zv)(ok:Bool) :
  ∃v,(Instr.lookup T (.map (some b)) kv ok).run P w = .ok v w/\Rd0 w imm v (YN E (C4 es k) (PV.fH zv) ok):=by
 obtain⟨ents,clock,o,q,u⟩:=h.find y hk;unfold Instr.lookup;simp only[zy,zR (JL hT),zm,BQ o,zau,q];rcases u with ⟨j,_,A⟩ | ⟨i,e,p,_,_,_,j,_,m,_,B⟩
 .rw[j,A];simp only[zm,zy,nQ hz,zau];cases ok;·exact⟨_,rfl,ux _ _ _⟩
  .refine⟨_,rfl,.tup _ _ rfl λi v c hv hc=>?_⟩;match i with
   | 0=>simp at hv hc;subst hv;subst hc;exact ux _ _ _
   | 1=>simp at hv hc;subst hv;subst hc;exact .bool _
   | _+2=>simp at hv
 .rw[j,B];simp only[zm,zy,zau];cases ok;·exact⟨_,rfl,m⟩
  .refine⟨_,rfl,.tup _ _ rfl λi v c hv hc=>?_⟩;match i with
   | 0=>simp at hv hc;subst hv;subst hc;exact m
   | 1=>simp at hv hc;subst hv;subst hc;exact .bool _
   | _+2=>simp at hv
end
section
variable{X:Ctx}{g:Gh}{st:St}{a:Act}{w:World}{K V:Type}[BEq K]{EK:K->PV}{E:V->PV}
theorem Qy{l:Nat}{o o':Obj}(hl:w.heap[l]? = some o)(hc:o.isCells=false)(c:o'.isCells=false)(b i:Nat):(w.putObj l o').cell? ⟨b,i,none⟩=w.cell? ⟨b,i,none⟩:=by
 have j:l<w.heap.size:=(wp.1 hl).1;by_cases e:b=l
 .subst e;have none_of:∀(W:World) (o:Obj),W.heap[b]? = some o->o.isCells=false->W.cell? ⟨b,i,none⟩=none:=by
   intro W o m ho;cases p:W.cell? ⟨b,i,none⟩ with
   | none=>rfl
   | some u=>
    obtain⟨q,k1,k2⟩:=cells_of_cell p;rw[show W.heap[b]? = some q from k1] at m;cases m;rw[k2] at ho;cases ho
  rw[none_of _ _ (World.putObj_heap_same j) c,none_of _ _ hl hc]
 .exact World.cell?_of_block Δg
theorem u7.u6(h:u7 X g st a w){l b:Nat}{r:Row}{o':Obj}{c:List PV}(hl:MB<=l)(hr:st.σ l=some r)(hrc:r.cl=false)(hA:(g.μ l).A=some ⟨b,0,none⟩)
  (ho':dS o'=true)(hm:Ext w g.imm (w.putObj b o') g.imm->(w.putObj b o').heap[b]? = some o'->lT (w.putObj b o') g.imm b c) :
  u7 X g ⟨st.env,A3 st.σ l (some { r with els:=[.mapc c] })⟩ a (w.putObj b o'):=by
 obtain⟨b',es0,m1,m2,m3,m4,m5,m6⟩:=h.maps.at_ l r hl hr;rw[hA] at m2;cases m2;obtain⟨x0,q0,q0m⟩:=m4.obj;have hni:=m5 hrc;have hlt:b<w.heap.size:=(wp.1 q0).1;have hcell:=Qy (w:=w) (o':=o') q0 (R1 q0m) (R1 ho');have hx:Ext w g.imm (w.putObj b o') g.imm:=⟨λ_ _ q=>q,λb i _=>hcell b i,λm i x q B hm'=>by
  by_cases e:m=b
  .subst e;exact absurd q (hni i)
  .rw[World.putObj_heap_other e];exact B⟩
 have hp:∀l',st.p6 l'->St.p6 ⟨st.env,A3 st.σ l (some { r with els:=[.mapc c] })⟩ l'/\g.μ l'=g.μ l':=by
  rintro l' ⟨r',hr'⟩;refine⟨?_,rfl⟩;by_cases e:l'=l
  .exact⟨_,ΩL⟩
  .exact⟨r',by rw[show (St.mk st.env (A3 st.σ l (some { r with els:=[.mapc c] }))).σ l'=st.σ l' from o0 _ _ e];exact hr'⟩
 have hcase:∀l' r',A3 st.σ l (some { r with els:=[.mapc c] }) l'=some r'->(l'=l/\r'={ r with els:=[.mapc c] })\/(l'≠l/\st.σ l'=some r'):=by
  intro l' r' q;by_cases e:l'=l
  .subst e;rw[p7] at q;cases q;exact .inl ⟨rfl,rfl⟩
  .rw[o0 _ _ e] at q;exact .inr ⟨e,q⟩
 have N:∀l' r',st.σ l'=some r'->∀m i,M1 (g.μ l') r' m i->(w.putObj b o').frozen? ⟨m,i,none⟩=w.frozen? ⟨m,i,none⟩:=λl' r' q m i ho=>by
  have e:m≠b:=λe=>by
   subst e;have:=pb (h.rows l' r' q) ho q0;rw[q0m] at this;cases this
  unfold World.frozen?;simp only;rw[World.putObj_heap_other e]
 have H:=h.rows l r hr;refine⟨h.size,λi=>(h.env i).mono hx hp,λl' r' q=>?_,λl1 l2 r1 r2 u q1 q2 b' o' ho=>?_,λl' r' b' o' q ho=>?_,λm i q=>?_,h.immsub,h.immsup,?_,?_,λp hp=>?_,h.big,⟨λl' r' hl' q=>?_,λl1 l2 r1 r2 h1 h2 u q1 q2 q3=>?_⟩⟩
 .rcases hcase l' r' q with ⟨rfl,rfl⟩ | ⟨e,G⟩
  .refine⟨?_,H.z,H.C,?_,λx B=>?_,H.nil,H.spot,λi x j y B hy=>?_,λm o2 ho=>?_⟩;·rw[H.n,m1];rfl
   .exact H.lo
   .simp only[zu] at B;subst B;refine⟨rfl,?_⟩;have:=(H.el _ (by rw[m1];exact zh ..)).2;rw[<-this];rfl
   .have:x = .mapc c:=by
     cases i with
     | zero=>simp at B;exact B.symm
     | succ i=>simp at B
    subst this;cases hy
   .obtain⟨k1,k2,k3⟩:=H.own m o2 ho;exact⟨k1,by rw[hcell];exact k2,by rw[N _ _ hr _ _ ho];exact k3⟩
  .exact (h.rows l' r' G).mono hx hp λm i ho=>⟨hcell m i,N l' r' G m i ho⟩
 .rcases hcase l1 r1 q1 with ⟨rfl,rfl⟩ | ⟨e1,q1'⟩ <;> rcases hcase l2 r2 q2 with ⟨rfl,rfl⟩ | ⟨e2,q2'⟩
  .exact absurd rfl u
  .exact λk=>h.disj l1 l2 r r2 u hr q2' b' o' ho k
  .exact λk=>h.disj l1 l2 r1 r u q1' hr b' o' ho k
  .exact h.disj l1 l2 r1 r2 u q1' q2' b' o' ho
 .rcases hcase l' r' q with ⟨rfl,rfl⟩ | ⟨e,G⟩;·exact h.ownimm l' r b' o' hr ho
  .exact h.ownimm l' r' b' o' G ho
 .have:=h.immlt m i q;simpa[World.putObj] using this
 .exact h.below.trans ⟨⟨rfl,rfl,rfl,by simp[World.putObj],λk hk=>World.putObj_heap_other Δ⟩,zC _⟩
 .obtain⟨rs,h1,h2,h3⟩:=h.marks;refine⟨rs,h1,h2,λr hr=>⟨?_,(h3 r hr).2⟩⟩;rw[World.putObj_heap_other (λe=>by subst e;have h4:=(h3 _ hr).1;rw[q0] at h4;cases h4;cases q0m)];exact (h3 r hr).1
 .obtain⟨k1,k2,k3⟩:=h.obs p hp;refine⟨?_,k2,k3⟩;rw[World.putObj_heap_other (λe=>by rw[e,q0] at k1;rw[<-zK k1,q0m] at k3;cases k3)];exact k1
 .have apart':=h.maps.apart;rcases hcase l' r' q with ⟨rfl,rfl⟩ | ⟨e,G⟩;·exact⟨b,c,rfl,hA,m3,hm hx (World.putObj_heap_same hlt),m5,m6⟩
  .obtain⟨m,es2,n1,n2,n3,n4,n5,n6⟩:=h.maps.at_ l' r' hl' G;have u:m≠b:=λe2=>by
    subst e2;exact h.maps.apart l l' r r' hl hl' (zaz e) hr G hrc (by rw[hA,n2])
   exact⟨m,es2,n1,n2,n3,n4.mono hx λo k1 k2=>by rw[World.putObj_heap_other u];exact k1,n5,n6⟩
 .have f:∀l' q,A3 st.σ l (some { r with els:=[.mapc c] }) l'=some q->∃G,st.σ l'=some G/\G.cl=q.cl:=λl' q hq=>by
   rcases hcase l' q hq with ⟨rfl,rfl⟩ | ⟨e,G⟩;·exact⟨r,hr,rfl⟩
   .exact⟨q,G,rfl⟩
  obtain⟨s1,k1,k2⟩:=f l1 r1 q1;obtain⟨s2,k3,_⟩:=f l2 r2 q2;exact h.maps.apart l1 l2 s1 s2 h1 h2 u k1 k3 (by rw[k2];exact q3)
theorem u7.a17(h:u7 X g st a w){l b:Nat}{r:Row}{ents':Array MapEntry}{clock':Nat}{c:List PV}(hl:MB<=l)(hr:st.σ l=some r)(j:r.cl=false)(hA:(g.μ l).A=some ⟨b,0,none⟩)
  (hn:ents'.size=c.length)(hm:∀(i:Nat) e,ents'[i]? = some e->∃k v,c[i]? = some (.tup [k,v])/\Rd0 w g.imm e.key k/\Rd0 w g.imm e.val v) :
  u7 X g ⟨st.env,A3 st.σ l (some { r with els:=[.mapc c] })⟩ a (w.putObj b (.map ents' clock')):=by
 refine h.u6 hl hr j hA rfl λhx hp=>.inl ⟨ents',clock',hp,hn,λi e hi=>?_⟩;obtain⟨k,v,k1,k2,m⟩:=hm i e hi;exact⟨k,v,k1,k2.mono hx,m.mono hx⟩
theorem u7.a02(h:u7 X g st a w){l:Nat}{o:Obj}{es:List PV}(ho:dS o=true)(hm:(w.alloc o).heap[w.heap.size]? = some o->lT (w.alloc o) g.imm w.heap.size es)(hl:MB<=l)(hn:st.σ l=none) :
  u7 X ⟨g.imm,A3 g.μ l ⟨some ⟨w.heap.size,0,none⟩,1,1,0⟩⟩ ⟨st.env,A3 st.σ l (some ⟨[.mapc es],0,false,0,false⟩)⟩ a (w.alloc o):=by
 have m:=h.alloc o;have p:∀b o,¬M1 ⟨some ⟨w.heap.size,0,none⟩,1,1,0⟩ ⟨[.mapc es],0,false,0,false⟩ b o:=by
  rintro b o ⟨s,_,k1,k2⟩;simp only[Nat.mul_zero,zbf] at k1 k2;omega
 have hp:∀l',st.p6 l'->St.p6 ⟨st.env,A3 st.σ l (some ⟨[.mapc es],0,false,0,false⟩)⟩ l'/\A3 g.μ l ⟨some ⟨w.heap.size,0,none⟩,1,1,0⟩ l'=g.μ l':=by
  rintro l' ⟨r',B⟩;have c:l'≠l:=λe=>by subst e;rw[hn] at B;cases B
  exact⟨⟨r',by simpa[o0 _ _ c] using B⟩,o0 _ _ c⟩
 have hcase:∀l' r',A3 st.σ l (some ⟨[.mapc es],0,false,0,false⟩) l'=some r'->(l'=l/\r'=⟨[.mapc es],0,false,0,false⟩)\/(l'≠l/\st.σ l'=some r'):=by
  intro l' r' q;by_cases e:l'=l
  .subst e;rw[p7] at q;cases q;exact .inl ⟨rfl,rfl⟩
  .rw[o0 _ _ e] at q;exact .inr ⟨e,q⟩
 have N:(w.alloc o).heap[w.heap.size]? = some o:=World.alloc_heap_new ..;refine⟨m.size,λi=>(m.env i).mono (Ext.refl _ _) hp,λl' r' q=>?_,λl1 C G H c q1 q2 b o ho=>?_,λl' r' b o q ho=>?_,m.immlt,m.immsub,m.immsup,m.below,m.marks,m.obs,m.big,⟨λl' r' u q=>?_,λl1 C G H k1 k2 c q1 q2 q3=>?_⟩⟩
 .rcases hcase l' r' q with ⟨rfl,rfl⟩ | ⟨e,q'⟩
  .simp only[p7];refine⟨rfl,rfl,zC _,zU _,λx hx=>?_,(λq=>Γ),λ_=>⟨_,_,rfl⟩,λi x j y hx hy=>?_,λb o ho=>absurd ho (p b o)⟩;·simp only[zu] at hx;subst hx;exact⟨rfl,rfl⟩
   .have:x = .mapc es:=by
     cases i with
     | zero=>simp at hx;exact hx.symm
     | succ i=>simp at hx
    subst this;cases hy
  .simp only[o0 _ _ e];exact (m.rows l' r' q').mono (Ext.refl _ _) hp λ_ _ _=>⟨rfl,rfl⟩
 .rcases hcase l1 G q1 with ⟨rfl,rfl⟩ | ⟨e1,q1'⟩ <;> rcases hcase C H q2 with ⟨rfl,rfl⟩ | ⟨e2,q2'⟩
  .exact absurd rfl c
  .simp only[p7] at ho;exact absurd ho (p b o)
  .simp only[p7];exact p b o
  .simp only[o0 _ _ e1,o0 _ _ e2] at ho |-;exact m.disj l1 C G H c q1' q2' b o ho
 .rcases hcase l' r' q with ⟨rfl,rfl⟩ | ⟨e,q'⟩;·simp only[p7] at ho;exact absurd ho (p b o)
  .simp only[o0 _ _ e] at ho;exact m.ownimm l' r' b o q' ho
 .rcases hcase l' r' q with ⟨rfl,rfl⟩ | ⟨e,q'⟩
  .simp only[p7];refine⟨w.heap.size,es,rfl,rfl,h.below.size,hm N,λ_ o q=>?_,λq=>Γ⟩;exact absurd (h.immlt _ _ q) (zb0 _)
  .simp only[o0 _ _ e];exact m.maps.at_ l' r' u q'
 .have old:∀l' r',MB<=l'->st.σ l'=some r'->(g.μ l').A≠some ⟨w.heap.size,0,none⟩:=λl' r' u q e=>by
   obtain⟨b,es,_,n2,_,n4,_⟩:=h.maps.at_ l' r' u q;rw[e] at n2;cases n2;obtain⟨_,n5,_⟩:=n4.obj;exact absurd (wp.1 n5).1 (zb0 _)
  rcases hcase l1 G q1 with ⟨rfl,rfl⟩ | ⟨e1,q1'⟩ <;> rcases hcase C H q2 with ⟨rfl,rfl⟩ | ⟨e2,q2'⟩
  .exact absurd rfl c
  .simp only[p7,o0 _ _ e2];exact λq=>old C H k2 q2' q.symm
  .simp only[p7,o0 _ _ e1];exact old l1 G k1 q1'
  .simp only[o0 _ _ e1,o0 _ _ e2];exact m.maps.apart l1 C G H k1 k2 c q1' q2' q3
theorem u7.a16(h:u7 X g st a w){l:Nat}(hl:MB<=l)(hn:st.σ l=none) :
  u7 X ⟨g.imm,A3 g.μ l ⟨some ⟨w.heap.size,0,none⟩,1,1,0⟩⟩ ⟨st.env,A3 st.σ l (some ⟨[.mapc []],0,false,0,false⟩)⟩ a (w.alloc (.map #[] 0)):=by
 exact h.a02 rfl (λhp=>.inl ⟨#[],0,hp,rfl,λi e hi=>by simp at hi⟩) hl hn
theorem HI{s:St}(t l:Nat){es:List PV}{lo z:Nat}{opn:Bool}(ht:s.env t = .mp l)(hr:s.σ l=some ⟨[.mapc es],lo,opn,z,false⟩) :
  Wk s ⟨A3 s.env t (.abs (Y2 es)),A3 s.σ l (some ⟨[.mapc es],lo,opn,z,true⟩)⟩:=λX g a w h=>by
 have hv:=h.env t;rw[ht] at hv;obtain⟨_,hl,b,hA,hb⟩:=hv.Cm;obtain⟨u,es0,m1,m2,m3,m4,m5,m6⟩:=h.maps.at_ l _ hl hr;rw[hA] at m2;cases m2;cases m1;obtain⟨x0,q0,q0m⟩:=m4.obj;have hx:Ext w g.imm w (λp o=>g.imm p o\/p=b):=⟨λ_ _ q=>.inl q,λ_ _ _=>rfl,λ_ _ _ _ q _=>q⟩;have hp:∀l',s.p6 l'->St.p6 ⟨A3 s.env t (.abs (Y2 es)),A3 s.σ l (some ⟨[.mapc es],lo,opn,z,true⟩)⟩ l'/\g.μ l'=g.μ l':=by
  rintro l' ⟨r',hr'⟩;refine⟨?_,rfl⟩;by_cases e:l'=l
  .exact⟨_,ΩL⟩
  .exact⟨r',by rw[show (St.mk (A3 s.env t (.abs (Y2 es))) (A3 s.σ l (some ⟨[.mapc es],lo,opn,z,true⟩))).σ l'=s.σ l' from o0 _ _ e];exact hr'⟩
 have hcase:∀l' r',A3 s.σ l (some ⟨[.mapc es],lo,opn,z,true⟩) l'=some r'->(l'=l/\r'=⟨[.mapc es],lo,opn,z,true⟩)\/(l'≠l/\s.σ l'=some r'):=by
  intro l' r' q;by_cases e:l'=l
  .subst e;rw[p7] at q;cases q;exact .inl ⟨rfl,rfl⟩
  .rw[o0 _ _ e] at q;exact .inr ⟨e,q⟩
 have A:=h.rows l _ hr;have hlt:b<w.heap.size:=(wp.1 q0).1;refine⟨⟨λp o=>g.imm p o\/p=b,g.μ⟩,⟨h.size,λi=>?_,λl' r' q=>?_,λl1 B H r2 m q1 q2 u o' ho=>?_,λl' r' u o' q ho=>?_,λp o q=>?_,λp o q=>?_,λp o q=>.inl (h.immsup p o q),h.below,h.marks,h.obs,h.big,⟨λl' r' hl' q=>?_,λl1 B H r2 h1 h2 m q1 q2 q3=>?_⟩⟩⟩
 .by_cases e:i=t
  .subst e;rw[show (St.mk (A3 s.env i (.abs (Y2 es))) (A3 s.σ l (some ⟨[.mapc es],lo,opn,z,true⟩))).env i = .abs (Y2 es) from p7 _ _ _,hb];exact .cl (Jw ⟨b,rfl,.inr rfl,m4.mono hx λo k1 k2=>k1⟩)
  .rw[show (St.mk (A3 s.env t (.abs (Y2 es))) (A3 s.σ l (some ⟨[.mapc es],lo,opn,z,true⟩))).env i=s.env i from o0 _ _ e];exact (h.env i).mono hx hp
 .rcases hcase l' r' q with ⟨rfl,rfl⟩ | ⟨e,N⟩
  .refine⟨A.n,A.z,A.C,A.lo,A.el,A.nil,A.spot,λi x j y G hy=>?_,λp o2 ho=>A.own p o2 ho⟩;have:x = .mapc es:=by
    cases i with
    | zero=>simp at G;exact G.symm
    | succ i=>simp at G
   subst this;cases hy
  .exact (h.rows l' r' N).mono hx hp λ_ _ _=>⟨rfl,rfl⟩
 .rcases hcase l1 H q1 with ⟨rfl,rfl⟩ | ⟨e1,q1'⟩ <;> rcases hcase B r2 q2 with ⟨rfl,rfl⟩ | ⟨e2,q2'⟩
  .exact absurd rfl m
  .exact λk=>h.disj l1 B _ r2 m hr q2' u o' ho k
  .exact λk=>h.disj l1 B H _ m q1' hr u o' ho k
  .exact h.disj l1 B H r2 m q1' q2' u o' ho
 .have own':∀r0,s.σ l'=some r0->M1 (g.μ l') r0 u o'->¬(g.imm u o'\/u=b):=λr0 q0' ho' k=>by
   rcases k with k | k
   .exact h.ownimm l' r0 u o' q0' ho' k
   .subst k;have:=pb (h.rows l' r0 q0') ho' q0;rw[q0m] at this;cases this
  rcases hcase l' r' q with ⟨rfl,rfl⟩ | ⟨e,N⟩;·exact own' _ hr ho
  .exact own' _ N ho
 .rcases q with q | rfl
  .exact h.immlt p o q
  .exact hlt
 .rcases q with q | rfl
  .exact h.immsub p o q
  .exact .inr m3
 .rcases hcase l' r' q with ⟨rfl,rfl⟩ | ⟨e,N⟩;·exact⟨b,es,rfl,hA,m3,m4.mono hx λo k1 k2=>k1,λq=>Γ,λ_=>.inr rfl⟩
  .obtain⟨p,es2,n1,n2,n3,n4,n5,n6⟩:=h.maps.at_ l' r' hl' N;have m:p≠b:=λe2=>by
    subst e2;exact h.maps.apart l l' _ r' hl hl' (zaz e) hr N rfl (by rw[hA,n2])
   exact⟨p,es2,n1,n2,n3,n4.mono hx λo k1 k2=>k1,λc o k=>k.elim (n5 c o) m,λc=>.inl (n6 c)⟩
 .rcases hcase l1 H q1 with ⟨rfl,rfl⟩ | ⟨e1,q1'⟩;·cases q3
  .rcases hcase B r2 q2 with ⟨rfl,rfl⟩ | ⟨e2,q2'⟩;·exact h.maps.apart l1 B H _ h1 h2 m q1' hr q3
   .exact h.maps.apart l1 B H r2 h1 h2 m q1' q2' q3
end
theorem Rd.FF{w:World}{imm:Nat->Nat->Prop}{μ:Nat->O0}{p6:Nat->Prop}{v:Value}{R:World->(Nat->Nat->Prop)->Value->Prop}(h:Rd w imm μ p6 v (.abs R)):R w imm v:=by
 generalize hd:PV.abs R=d at h;cases h <;> try cases hd
 rename_i h;generalize c:PV.abs R=d' at h;cases h <;> cases c
 rename_i _ h;exact h w imm (Ext.refl _ _)
section
variable{X:Ctx}{ops:Array Oper}{i:Nat}{os:List Oper}{K:Ctx->St->Prop}{env:Nat->PV}{σ:Nat->Option Row}{ty:TypeId}{pos:String}{after:Array Edge}{gd:Option (Nat × Bool)}{t:Tmp}{KT VT:Type}[BEq KT]{EK:KT->PV}{E:VT->PV}
theorem nA{o:Oper}{st:St}(ho:ops[i]? = some o)(hw:C9 ops st.env o=some true)(hnd:∀c,o.op ≠ .defer c)
  (h:∀g a w,u7 X g st a w->∃v w' e st' d,(execOp a.eval o).run X.P w = .ok (.value v) w'/\u7 X e st' a w'/\Rd w' e.imm e.μ st'.p6 v d/\K X ⟨Z7 st'.env o.dst d,st'.σ⟩):TJ X ops i K st:=by
 intro hd n g a w next Qo hs u;unfold wpOpIn;rw[ho];simp only;rw[zb (ax hs hw)];obtain⟨v,w',e,st',d,j,m,p,q⟩:=h g a w hs;exact I0 hnd j (u X _ _ _ _ (m.put (Q5 hd ho) p) ⟨⟨rfl,rfl⟩,rfl⟩ q)
theorem So{o:Oper}{st:St}(ho:ops[i]? = some o)(hw:C9 ops st.env o=some true)(hnd:∀c,o.op ≠ .defer c)(e:o.dst=none)
  (h:∀g a w,u7 X g st a w->∃w' j st',(execOp a.eval o).run X.P w = .ok .skip w'/\u7 X j st' a w'/\K X st'):TJ X ops i K st:=by
 intro hd n g a w next Qo hs u;unfold wpOpIn;rw[ho];simp only;rw[zb (ax hs hw)];obtain⟨w',j,st',m,p,q⟩:=h g a w hs;refine xR hnd m ?_;rw[e];exact u X _ _ _ _ p ⟨⟨rfl,rfl⟩,rfl⟩ q
theorem Fl{T:TypeId}(l:Nat)(hw:C9 ops env ⟨some t,.makeMap T none,ty,pos,after,gd⟩=some true)(hn:σ l=none)(k:Sq X ops (i+1) os K ⟨A3 env t (.mp l),A3 σ l (some ⟨[.mapc (([]:List (KT × VT)).map (dx EK E))],0,false,0,false⟩)⟩)(hl:MB<=l:=by exact zP rfl) :
  Sq X ops i (⟨some t,.makeMap T none,ty,pos,after,gd⟩::os) K ⟨env,σ⟩:=U9 λho=>nA ho hw (λc q=>Γ) λg a w hs=>
 ⟨_,_,_,_,.mp l,N8 (run_makeMap T w),hs.a16 hl hn,.mp l _ ⟨_,p7 _ _ _⟩ hl (zY O0.A (p7 _ _ _)),k⟩
theorem Fi{T kt et:TypeId}{x y:Operand}{ok:Bool}{l lo z:Nat}{opn cl:Bool}{es:List (KT × VT)}{k:KT}{zv:Value}{d z0:PV}(hw:C9 ops env ⟨some t,.lookup T x y ok,ty,pos,after,gd⟩=some true)(hx:B8 env x = .mp l)(hl:σ l=some ⟨[.mapc (es.map (dx EK E))],lo,opn,z,cl⟩)
  (hy:B8 env y=EK k)(hT:wM X.P T=some (kt,et))(B:Dx X.P kt EK)(hz:A6 X.P et=some zv)(A:(PV.fH zv).w1=z0)(hd:(YN E (C4 es k) z0 ok)=d)
  (kk:Sq X ops (i+1) os K ⟨A3 env t d,σ⟩):Sq X ops i (⟨some t,.lookup T x y ok,ty,pos,after,gd⟩::os) K ⟨env,σ⟩:=U9 λho=>nA ho hw (λc q=>Γ) λg a w hs=>by
 have m:=hs.eval x;rw[show B8 (St.env ⟨env,σ⟩) x=_ from hx] at m;obtain⟨_,p,b,hA,e⟩:=m.Cm;have o:=hs.eval y;rw[show B8 (St.env ⟨env,σ⟩) y=_ from hy] at o;obtain⟨b',G,H,C,m3,N,_⟩:=hs.maps.at_ l _ p hl;rw[hA] at C;cases C;cases H;obtain⟨v,h1,j⟩:=CM (P:=X.P) N hT B (o.lM (B.lM k).1) hz ok;refine⟨v,w,g,_,d,N8 ΩG,hs,?_,kk⟩;rw[<-hd,<-A];cases hm:C4 es k with
 | some u=>rw[hm] at j;cases ok <;> exact .cl j
 | none=>
  rw[hm] at j;cases ok;·exact .cl j.w1
  .refine .cl ?_;cases j with
   | tup vs _ hn h=>
    refine .tup vs _ hn λi v c hv hc=>?_;match i with
    | 0=>simp at hc;subst hc;exact (h 0 v _ hv rfl).w1
    | 1=>simp at hc;subst hc;exact h 1 v _ hv rfl
    | _+2=>simp at hc
theorem TC{op:Op}{T kt et:TypeId}{x y u:Operand}{l lo z:Nat}{opn:Bool}{es:List (KT × VT)}{k:KT}{v:VT}(G:op = .mapUpdate T x y u\/op = .insert T x y u)(hw:C9 ops env ⟨none,op,ty,pos,after,gd⟩=some true)(hx:B8 env x = .mp l)
  (hl:σ l=some ⟨[.mapc (es.map (dx EK E))],lo,opn,z,false⟩)(hy:B8 env y=EK k)(hu:∀(w:World) (imm:Nat->Nat->Prop) (μ:Nat->O0) (p6:Nat->Prop) (q:Value),Rd w imm μ p6 q (B8 env u)->Rd w imm μ p6 q (E v))(hE:(E v).lM=true)(hT:wM X.P T=some (kt,et))(hK:Dx X.P kt EK)
  (kk:Sq X ops (i+1) os K ⟨env,A3 σ l (some ⟨[.mapc ((u6 es k v).map (dx EK E))],lo,opn,z,false⟩)⟩):Sq X ops i (⟨none,op,ty,pos,after,gd⟩::os) K ⟨env,σ⟩:=U9 λho=>So ho hw (λc q=>by rcases G with rfl | rfl <;> cases q) rfl λg a w hs=>by
 have hxv:=hs.eval x;rw[show B8 (St.env ⟨env,σ⟩) x=_ from hx] at hxv;obtain⟨_,C,b,hA,e⟩:=hxv.Cm;have hyv:=hs.eval y;rw[show B8 (St.env ⟨env,σ⟩) y=_ from hy] at hyv;have o:=hyv.lM (hK.lM k).1;have huv:=hu _ _ _ _ _ (hs.eval u);have N:=huv.lM hE;obtain⟨b',es0,m1,m2,m3,m4,_⟩:=hs.maps.at_ l _ C hl;rw[hA] at m2;cases m2;cases m1;have H:∃ents' clock',(Instr.mapUpdate T (.map (some b)) (a.eval y) (a.eval u)).run X.P w = .ok () (w.putObj b (.map ents' clock'))/\ents'.size=((u6 es k v).map (dx EK E)).length /\
   ∀(i:Nat) e,ents'[i]? = some e->∃k' v',((u6 es k v).map (dx EK E))[i]? = some (.tup [k',v'])/\Rd0 w g.imm e.key k'/\Rd0 w g.imm e.val v':=by
  obtain⟨ents,clock,h1,h2,h3⟩:=m4.find hK o;obtain⟨ents2,clock2,g1,g2,g3,g4⟩:=m4.keys;rw[h1] at g1;cases g1;unfold Instr.mapUpdate;simp only[zy,zR (JL hT),zm,BQ h1,h2];have m:ents.size=es.length:=Ω g2
  have old:∀(i:Nat) e,ents[i]? = some e->∃p,es[i]? = some p/\Rd0 w g.imm e.key (EK p.1)/\Rd0 w g.imm e.val (E p.2):=λi e hi=>by
   have A:i<es.length:=by rw[<-m];exact (wp.1 hi).1
   have B:ents.toList[i]? = some e:=Ω hi
   exact⟨es[i],zc A,g3.2 i e _ B (by rw[zD,zc A];rfl),g4 i e _ B (zc A)⟩
  rcases h3 with ⟨q1,q2,q3⟩ | ⟨j,e1,p,q1,q2,q3,q4,q5,q6,q7,q8⟩
  .rw[q3,xO,q2];simp only[zm,CR _ h1];refine⟨_,_,rfl,by simp[m],λi e' hi=>?_⟩;rw[Array.getElem?_push] at hi;split at hi
   .rename_i hie;cases hi;refine⟨EK k,E v,?_,o,N⟩;rw[zD,hie,m,zW (zC _),Nat.sub_self];rfl
   .obtain⟨p,k1,k2,k3⟩:=old i e' hi;refine⟨_,_,?_,k2,k3⟩;rw[zD,zX (C6 k1),k1];rfl
  .have hst:=hK.stays o q7 q5;rw[q8,xO,q1];refine⟨ents.modify j λe=>{ e with key:=a.eval y,val:=a.eval u },clock,?_,by simp[m],λi e' hi=>?_⟩;·simp only[zm,q2,rg,un,zy,hst,CR _ h1]
   rw[Array.getElem?_modify] at hi;split at hi
   .rename_i h;subst h;rw[q2] at hi;cases hi;refine⟨EK k,E v,?_,o,N⟩;rw[zD,List.getElem?_set_self (C6 q3)];rfl
   .rename_i h;obtain⟨p,k1,k2,k3⟩:=old i e' hi;refine⟨_,_,?_,k2,k3⟩;rw[zD,List.getElem?_set_ne h,k1];rfl
 obtain⟨ents',clock',h1,h2,h3⟩:=H;refine⟨_,g,_,?_,hs.a17 (clock':=clock') C hl rfl hA h2 h3,kk⟩;rcases G with rfl | rfl
 .exact Nz ΩG
 .exact Nz ΩG
theorem aV{op:Op}{T kt et:TypeId}{x y u:Operand}{l lo z:Nat}{opn:Bool}{es:List (KT × VT)}{k:KT}{v:VT}(c:op = .mapUpdate T x y u\/op = .insert T x y u)(hw:C9 ops env ⟨none,op,ty,pos,after,gd⟩=some true)(hx:B8 env x = .mp l)
  (hl:σ l=some ⟨[.mapc (es.map (dx EK E))],lo,opn,z,false⟩)(hy:B8 env y=EK k)(hu:(B8 env u).w1=E v)(hE:(E v).lM=true)(hT:wM X.P T=some (kt,et))(e:Dx X.P kt EK)
  (kk:Sq X ops (i+1) os K ⟨env,A3 σ l (some ⟨[.mapc ((u6 es k v).map (dx EK E))],lo,opn,z,false⟩)⟩):Sq X ops i (⟨none,op,ty,pos,after,gd⟩::os) K ⟨env,σ⟩:=TC c hw hx hl hy (λ_ _ _ _ _ q=>hu▸q.w1) hE hT e kk
end
section
variable{P:Program}{σ:Nat->Option Row}{ρ:Operand->PV}{dst:Option Tmp}{KT VT:Type}[BEq KT]{EK:KT->PV}{E:VT->PV}
theorem Xt{W:PV->PV}(H:∀ {w:World} {imm:Nat->Nat->Prop} {v:Value} {d:PV},Rd0 w imm v d->Rd0 w imm v (W d)){T kt et:TypeId}{x y:Operand}{ok:Bool}{es:List (KT × VT)}{k:KT}{zv:Value}{d z0:PV}(hx:ρ x = .abs (Y2 (es.map (dx EK E))))(hy:ρ y=EK k)(hT:wM P T=some (kt,et))(G:Dx P kt EK)(hz:A6 P et=some zv)
  (C:W (PV.fH zv)=z0)(hd:(YN E (C4 es k) z0 ok)=d):G4 P σ ρ dst (.lookup T x y ok) d .none:=by
 refine .pureV _ _ (λc q=>Γ) (λT x q=>Γ) λo w imm μ p6 ev ho m=>?_;have p:=m x Ωa;have A:=m y Ωa;rw[hx] at p;rw[hy] at A;have B:=A.lM (G.lM k).1;have:Y2 (es.map (dx EK E)) w imm (ev x):=p.FF;obtain⟨b,e,_,N⟩:=this;obtain⟨v,h1,j⟩:=CM (P:=P) N hT G B hz ok;obtain⟨dst,op,ty,pos,after,guard⟩:=o;simp only at ho;subst ho;refine⟨v,N8 ΩG,?_⟩;rw[<-hd,<-C];cases hm:C4 es k with
 | some u=>rw[hm] at j;cases ok <;> exact .cl j
 | none=>
  rw[hm] at j;cases ok;·exact .cl (H j)
  .refine .cl ?_;cases j with
   | tup vs _ hn h=>
    refine .tup vs _ hn λi v c hv hc=>?_;match i with
    | 0=>simp at hc;subst hc;exact H (h 0 v _ hv rfl)
    | 1=>simp at hc;subst hc;exact h 1 v _ hv rfl
    | _+2=>simp at hc
theorem ER{T kt et:TypeId}{x y:Operand}{ok:Bool}{es:List (KT × VT)}{k:KT}{zv:Value}{d z0:PV}(hx:ρ x = .abs (Y2 (es.map (dx EK E))))(hy:ρ y=EK k)(hT:wM P T=some (kt,et))(e:Dx P kt EK)(hz:A6 P et=some zv)
  (c:(PV.fH zv).w1=z0)(hd:(YN E (C4 es k) z0 ok)=d):G4 P σ ρ dst (.lookup T x y ok) d .none:=Xt (W:=PV.w1) (λq=>q.w1) hx hy hT e hz c hd
end
end Go.Pw
namespace Go.Pw
open Go.RowKit
section
variable{X:Ctx}{g:Gh}{st:St}{a:Act}{w:World}{n:Nat}{K:Act->World->Prop}{Q:Exit->Act->World->Prop}{ρ:Option Nat}{P:Program}
theorem Qq{R0:List (Nat × Row)}:∀ {R:List (Nat × Row)},Ar R0 st R->∀p∈R,qs id R0 st.σ p
 | [],_,_,h=>by cases h
 | _::_,h,p,hp=>by
  rcases zJ.1 hp with rfl | hp
  .exact h.1
  .exact Qq h.2 p hp
theorem Sr(h:u7 X g st a w){L:List (Nat × PV)}{R:List (Nat × Row)}(m:Ar R st R){l:Nat}{r:Row}(hl:(St.of L R).σ l=some r):∃c,st.σ l=some c/\∀b o,M1 (g.μ l) r b o->M1 (g.μ l) c b o:=by
 obtain⟨c,k1,_,k2,e,p,_,y⟩:=Qq m _ (fv hl);refine⟨c,k1,?_⟩;rintro b o ⟨s',hA,u,A⟩;have j:=(h.rows _ _ k1).C;refine⟨s',hA,by simp only at e;rw[e];exact u,?_⟩;have:(if r.opn then (g.μ l).C else (g.μ l).n)*(g.μ l).z<=(if c.opn then (g.μ l).C else (g.μ l).n)*(g.μ l).z:=zp _ (by
  simp only[id] at j;cases q:r.opn;·simp only[zM,pu];split <;> omega
  .rw[p q];exact zC _)
 omega
theorem Zi{o:Oper}{x y:Operand}{T E:TypeId}{ys:List PV}{z by_ l s:Nat}{r:Row}{zv:Value}(L:List (Nat × PV))(R:List (Nat × Row))(h:u7 X g st a w)(hAg:Ag R st L)(hAr:Ar R st R)(hsR:R.lookup s=none)
  (ho:o.op = .call { callee:=.builtin .append,args:=#[x,y],argTypes:=#[T,T] })(hdst:∀t,o.dst=some t->t<X.N)(hlm:l<MB)(hl:R.lookup l=none)
  (hx:B8 st.env x = .sl s)(hsr:st.σ s=some r)(hop:r.opn=true)(hlo0:r.lo=0)(hcl:r.cl=true)(hy:Src st.σ (B8 st.env y) ys true)(hE:B7 X.P T=some E)(hz:u5 X.P E=some z)(hb:J7 X.P E=some by_)(hzv:A6 X.P E=some zv)
  (hzz:zv.cells.size=z)(hel:∀e∈r.els++ys,e.cells.length=z)(hrz:r.z=z)(hfit:(r.els.length+ys.length)*by_<=140737488355328)(h63:r.els.length+ys.length<=9223372036854775807)
  (hK:∀g' a' w',u7 X g' ⟨Z7 (MA L) o.dst (.sl l),A3 (rowsOf R) l (some ⟨r.els++ys,0,true,z,true⟩)⟩ a' w'->K a' w'):o.wpIn (FX ρ) n X.P a w K Q:=by
 have hnd:∀c,o.op ≠ .defer c:=λc=>by rw[ho];simp
 have hv:=h.eval x;have hu:=h.eval y;rw[hx] at hv;obtain⟨hp,e⟩:=hv.fC;have H:=h.rows s r hsr;obtain⟨B,cB,vals,eB,hyel,hlv,hvr,hone,hvc⟩:=Src.reads h hu hy (z:=z) (λy hy=>hel y (t6 _ hy));have hD:u7 X g (St.of L R) a w:=LG L R hAg hAr X g a w h;have hDl:(St.of L R).σ l=none:=hl;have hDs:(St.of L R).σ s=none:=hsR;have hmz:(g.μ s).z=z:=by rw[H.z,hrz]
 rcases zI (g.μ s).C ((g.μ s).n+ys.length) with hbig | hroom
 .-- a new block
  have hm:0<ys.length:=by have:=H.C;omega
  obtain⟨bB,sB,rfl,hBc⟩:=hvc hm;obtain⟨A',cA,olds,eA,hxel,hlo,hor,_,hoc⟩:=Src.reads h hv (.inr ⟨s,r,rfl,hsr,rfl,rfl⟩:Src st.σ (.sl s) r.els r.cl) (z:=z) (λy hy=>hel y (rx _ hy));rw[e] at eA;simp only[Value.slice.injEq] at eA;obtain⟨rfl,hn',rfl⟩:=eA;rw[hn'] at e hbig;obtain⟨C',cs,hr,hC',hcs,rest,hrest⟩:=lE (P:=X.P) (w:=w) (ty:=o.type) (c:=cB) (B:=⟨bB,sB,none⟩) (m:=ys.length) hE hz hb hzv hzz hbig (by rw[<-hn'];exact H.C) H.nil hlo (λq=>hoc q) hlv
   (λj u hj=>ΩC) hfit h63
  have hs:=hD.drew.xY (l:=l) (els:=r.els++ys) (T:=E) (C:=C') (z:=z) (opn:=true) (cl:=true) cs hlm hDl (Ω (hC')) hcs
   (λe he=>⟨(zH.1 he).elim (hxel e) (hyel e),hel e he⟩) (λi x j y u hx hy hu=>by
    have hu':(olds++vals++rest)[i*z+j]? = some u:=by rw[<-hrest];simpa using hu
    have:=BU (R:=λu y=>Rd0 w g.imm u y) hlo (λx hx=>hel x hx) (λi x j y u hx hy hu=>(hor i x j y u hx hy hu).2 hcl) (λi x j y u hx hy hu=>(hvr i x j y u hx hy hu).2 rfl) rest hlv i x j y u hx hy hu';have hx0:Ext w g.imm w.drew g.imm:=⟨λ_ _ q=>q,λ_ _ _=>rfl,λ_ _ _ _ q _=>q⟩;exact⟨.cl (this.mono hx0),λ_=>this.mono hx0⟩)
  refine I0 hnd (aY ho (by rw[e,eB];exact hr)) (hK _ _ _ (hs.put hdst ?_));have:=gO (w':=w.drew.alloc (.cells cs E)) (imm:=g.imm) (μ:=A3 g.μ l ⟨some ⟨w.heap.size,0,none⟩,(r.els++ys).length,C',z⟩)
   (p6:=St.p6 ⟨(St.of L R).env,A3 (St.of L R).σ l (some ⟨r.els++ys,0,true,z,true⟩)⟩) (l:=l) ⟨_,p7 _ _ _⟩ (p7 _ _ _)
  simpa using this
 .-- in place
  have hn:=H.n;have hT:∀b s',(g.μ s).A=some ⟨b,s',none⟩->∀o',s'+(g.μ s).n*z<=o'->o'<s'+(g.μ s).C*z->M1 (g.μ s) r b o':=λb s' hA o' q1 q2=>
   ⟨s',hA,by have:r.lo*(g.μ s).z<=(g.μ s).n*(g.μ s).z:=zp _ H.lo;rw[hmz] at *;omega,Δh⟩
  have hTi:∀b o',(∃s',(g.μ s).A=some ⟨b,s',none⟩/\s'+(g.μ s).n*z<=o'/\o'<s'+(g.μ s).C*z)->¬g.imm b o':=by
   rintro b o' ⟨s',hA,q1,q2⟩ q;exact h.ownimm s r b o' hsr (hT b s' hA o' q1 q2) q
  have hW:∀b s',(g.μ s).A=some ⟨b,s',none⟩->∀o',s'<=o'->o'<s'+(g.μ s).C*z->M1 (g.μ s) r b o':=λb s' hA o' q1 q2=>
   ⟨s',hA,by rw[hlo0,zcu];exact q1,Δh⟩
  have hnew:∀(w':World) (v':Value),(Builtin.append_ #[T,T] o.type #[.slice (g.μ s).A (g.μ s).n (g.μ s).C,a.eval y]).run X.P w = .ok (.slice (g.μ s).A ((g.μ s).n+ys.length) (g.μ s).C) w' ->
    (w'=w/\ys.length=0\/∃b s',(g.μ s).A=some ⟨b,s',none⟩/\w'=w.setCells b (s'+(g.μ s).n*z) vals)->o.wpIn (FX ρ) n X.P a w K Q:=by
   intro w' v' hrun G;have hcell:∀b o',¬(∃s',(g.μ s).A=some ⟨b,s',none⟩/\s'+(g.μ s).n*z<=o'/\o'<s'+(g.μ s).C*z)->w'.cell? ⟨b,o',none⟩=w.cell? ⟨b,o',none⟩/\w'.frozen? ⟨b,o',none⟩=w.frozen? ⟨b,o',none⟩:=by
    intro b o' q;rcases G with ⟨rfl,_⟩ | ⟨p,s',hA,rfl⟩;·exact⟨rfl,rfl⟩
    .refine⟨zam p vals _ w ⟨b,o',none⟩ λq1 _=>?_,zbk p vals _ w _⟩;simp only at q1 |-;subst q1;rcases zI o' (s'+(g.μ s).n*z) with q2 | q2
     .exact .inl q2
     .right;rcases zI o' (s'+(g.μ s).n*z+vals.length) with q3 | q3
      .exfalso;refine q ⟨s',hA,q2,?_⟩;have:((g.μ s).n+ys.length)*z<=(g.μ s).C*z:=zp _ hroom;rw[wt] at this;omega
      .exact q3
   have hxw:Ext w (g.imm) w' (g.imm):=⟨λ_ _ q=>q,λb o' q=>(hcell b o' λq'=>hTi b o' q' q).1,λk _ x _ hx hc=>by
    rcases G with ⟨rfl,_⟩ | ⟨p,s',hA,rfl⟩;·exact hx
    .exact (H8 p vals _ w).same k x hx (R1 hc)⟩
   have hlw:w'.heap.size=w.heap.size:=by
    rcases G with ⟨rfl,_⟩ | ⟨p,s',hA,rfl⟩;·rfl
    .exact jb _ _ _ _
   have hbw:nb X.w0.heap.size X.w0 w':=by
    rcases G with ⟨rfl,_⟩ | ⟨p,s',hA,rfl⟩;·exact h.below
    .rcases zah vals.length with q | q
     .have:vals = []:=ul q;subst this;exact h.below
     .refine fX p ?_ vals _ w h.below;refine (h.fz hsr (hT p s' hA (s'+(g.μ s).n*z) (zC _) ?_)).1;have:((g.μ s).n+ys.length)*z<=(g.μ s).C*z:=zp _ hroom;rw[wt] at this;omega
   have hother:∀l' r' b o',(St.of L R).σ l'=some r'->M1 (g.μ l') r' b o'->¬M1 (g.μ s) r b o':=by
    intro l' r' b o' q ho' k;have hl':l'≠s:=λe=>by rw[e,hDs] at q;cases q
    obtain⟨r1,k1,k2⟩:=Sr h hAr q;exact h.disj l' s r1 r hl' k1 hsr b o' (k2 b o' ho') k
   have hin:∀b o',(∃s',(g.μ s).A=some ⟨b,s',none⟩/\s'+(g.μ s).n*z<=o'/\o'<s'+(g.μ s).C*z)->M1 (g.μ s) r b o':=λb o' ⟨s',hA,q1,q2⟩=>hT b s' hA o' q1 q2;have hM:=hD.move (w':=w') (imm':=g.imm) hxw (λl' r' b o' q ho'=>⟨(hcell b o' λk=>hother l' r' b o' q ho' (hin b o' k)).1,(hcell b o' λk=>hother l' r' b o' q ho' (hin b o' k)).2,hD.ownimm l' r' b o' q ho'⟩)
    (λb o' q=>by rw[hlw];exact hD.immlt b o' q) hD.immsub hbw (λk x hx hc=>by
     rcases G with ⟨rfl,_⟩ | ⟨p,s',hA,rfl⟩;·exact hx
     .exact (H8 p vals _ w).same k x hx hc) (λ_ _ _ q _ _=>q)
   have hown:∀b o',M1 ⟨(g.μ s).A,(g.μ s).n+ys.length,(g.μ s).C,z⟩ ⟨r.els++ys,0,true,z,true⟩ b o'->M1 (g.μ s) r b o':=by
    rintro b o' ⟨s',hA,q1,q2⟩;simp only[ut,zcu,zbf] at q1 q2;exact hW b s' hA o' q1 q2
   have hN:=hM.row (l:=l) (m:=⟨(g.μ s).A,(g.μ s).n+ys.length,(g.μ s).C,z⟩) (r:=⟨r.els++ys,0,true,z,true⟩) hlm hDl
    ⟨by simp[hn],rfl,hroom,zU _,λe he=>⟨(zH.1 he).elim (λq=>(H.el e q).1) (hyel e),hel e he⟩,H.nil,H.spot,λi x j y hx hy=>?_,λb o' q=>?_⟩
    (λl' r' b o' q ho' k=>hother l' r' b o' q ho' (hown b o' k)) (λb o' q k=>h.ownimm s r b o' hsr (hown b o' q) k)
   .refine I0 hnd (aY ho (by rw[e];exact hrun)) (hK _ _ _ (hN.put hdst ?_));exact gO (l:=l) (m:=⟨(g.μ s).A,(g.μ s).n+ys.length,(g.μ s).C,z⟩) ⟨_,p7 _ _ _⟩ (p7 _ _ _)
   .simp only at hx |-;have hi:=C6 hx;simp at hi;have hxz:x.cells.length=z:=hel x (zk hx);have hj:=PV.G5 hy;rcases zI i r.els.length with q | q
    .rw[zX q] at hx;obtain⟨b,s',u,k1,k2,k3,k4,k5⟩:=H.cell i x j y hx hy;rw[hmz] at k2;have hzz':(i+1)*z<=(g.μ s).n*z:=zp _ Δ;rw[wt,zbc] at hzz';refine⟨b,s',u,k1,?_,.cl ((k5 hcl).mono hxw),λq'=>absurd q' (Nat.not_lt_zero _),λ_=>(k5 hcl).mono hxw⟩;rw[(hcell b _ ?_).1];· exact k2
     rintro⟨s2,hA2,q1,q2⟩;rw[k1] at hA2;cases hA2;omega
    .rw[zW q] at hx;have hm:0<ys.length:=by omega
     rcases G with ⟨_,q0⟩ | ⟨p,s',hA,rfl⟩;·omega
     .have e1:(i-r.els.length)*z=i*z-r.els.length*z:=Nat.sub_mul _ _ _;have e2:r.els.length*z<=i*z:=zp _ q;have e3:(i-r.els.length+1)*z<=ys.length*z:=zp _ Δ;rw[wt,zbc] at e3;have hlt:(i-r.els.length)*z+j<vals.length:=by omega
      have hu':=zc hlt;have hrd:=hvr _ x j y _ hx hy hu';have hin2:=zaw p vals (s'+(g.μ s).n*z) w (λj' hj'=>(H.own p _ (hT p s' hA _ Δ (by
       have:((g.μ s).n+ys.length)*z<=(g.μ s).C*z:=zp _ hroom;rw[wt] at this;omega))).2.1) _ hlt
      rw[show s'+(g.μ s).n*z+((i-r.els.length)*z+j)=s'+i*z+j by rw[hn];omega] at hin2;exact⟨p,s',_,hA,hin2,.cl ((hrd.2 rfl).mono hxw),λq'=>absurd q' (Nat.not_lt_zero _),λ_=>(hrd.2 rfl).mono hxw⟩
   .obtain⟨s',hA,q1,q2⟩:=q;simp only[ut,zcu,zbf] at q1 q2;obtain⟨k1,k2,k3⟩:=H.own b o' (hW b s' hA o' q1 q2);refine⟨k1,?_,?_⟩
    .rcases G with ⟨rfl,_⟩ | ⟨p,s2,hA2,rfl⟩;·exact k2
     .rw[hA] at hA2;cases hA2;by_cases q3:s'+(g.μ s).n*z<=o'/\o'<s'+(g.μ s).n*z+vals.length
      .have:=zaw b vals (s'+(g.μ s).n*z) w (λj' hj'=>(H.own b _ (hT b s' hA _ Δ (by
        have:((g.μ s).n+ys.length)*z<=(g.μ s).C*z:=zp _ hroom;rw[wt] at this;omega))).2.1) (o'-(s'+(g.μ s).n*z)) Δ
       rw[show s'+(g.μ s).n*z+(o'-(s'+(g.μ s).n*z))=o' by omega] at this;rw[this];rfl
      .rw[zam b vals _ w ⟨b,o',none⟩ λ_ _=>ΩH];exact k2
    .rcases G with ⟨rfl,_⟩ | ⟨p,s2,hA2,rfl⟩;·exact k3
     .rw[zbk];exact k3
  rcases zah ys.length with hm | hm
  .refine hnew w undef ?_ (.inl ⟨rfl,hm⟩);rw[eB,hm];exact pv hE hz H.C
  .obtain⟨bB,sB,rfl,hBc⟩:=hvc hm;obtain⟨b,s',hA⟩:=H.spot Δ;refine hnew _ undef ?_ (.inr ⟨b,s',hA,rfl⟩);rw[eB,hA];refine nP hE hz hroom hlv (λj u hj=>ΩC) hone λj hj=>(H.own b _ (hT b s' hA _ Δ (by
    have:((g.μ s).n+ys.length)*z<=(g.μ s).C*z:=zp _ hroom;rw[wt] at this;omega))).2
end
section
open Go
variable{P:Program}{F:Fence}{n:Nat}{b:Frame}{a:Act}{k:List Item}{cs:List Frame}{w:World}
theorem dp{c:Code}:step P (lone (b.atR a (.code (.scope c)::k)) cs w) = .next (lone (b.atR a (.code c :: .inScope c::k)) cs w):=
 step_lone_go (by simp[stepG,stepG.exec,Frame.atR])
theorem tJ{c:Code}:step P (lone (b.atR a (.inScope c::k)) cs w) = .next (lone (b.atR a k) cs w):=
 step_lone_go (by simp[stepG,stepG.exec,Frame.atR])
theorem LH{c:Code}{Q:Exit->Act->World->Prop}(y:∀l a w,¬Q (.goto l) a w)(h:c.wpIn F n P Q a w):(Code.scope c).wpIn F n P Q a w:=by
 intro b k cs p hb hr;have h0:(lone (b.atR a (.code (.scope c)::k)) cs w).fenced P F:=zcr hb hr rfl;obtain⟨e,a₁,w₁,m,j⟩:=h b (.inScope c::k) cs p hb hr;cases e with
 | normal=>exact⟨.normal,a₁,w₁,m,.head h0 dp (StepsIn.trans j (.one (zcr hb hr rfl) tJ))⟩
 | exit id=>
  have hx:exitTo id (.inScope c::k)=exitTo id k:=by simp[exitTo]
  exact⟨.exit id,a₁,w₁,m,λk' hk=>.head h0 dp (j.1 k' ΩX),
   λo hk=>let ⟨k₁,q,u⟩:=j.2 o ΩX;⟨k₁,q,.head h0 dp u⟩⟩
 | goto l=>exact absurd m (y l _ _)
 | ret=>exact⟨_,a₁,w₁,m,.of_steps (.one h0 dp) j⟩
 | panic ch=>exact⟨_,a₁,w₁,m,.of_steps (.one h0 dp) j⟩
 | outgrown=>exact⟨_,a₁,w₁,m,.of_steps (.one h0 dp) j⟩
end
def Lv(Q:PX->Ctx->St->Prop):PX->Ctx->St->Prop
 | .goto _,_,_=>False
 | e,X,s=>Q e X s
theorem DT{Q:PX->Ctx->St->Prop}{X:Ctx}{s:St}(h:Q .normal X s):Lv Q .normal X s:=h
theorem Jl{X:Ctx}{Q:PX->Ctx->St->Prop}{st:St}{c:Code}(h:aA X c (Lv Q) st):aA X (.scope c) Q st:=λn g a w hs=>by
 refine zb1 (LH (Q:=lift X (Lv Q)) (λl u w' q=>?_) (h n g a w hs)) λe u w' q=>?_;·obtain⟨_,_,_,_,_,q⟩:=q;exact q
 .cases e <;> simp only[lift] at q |- <;> first | exact q | (obtain⟨X',m,st',o,p,j⟩:=q;exact⟨X',m,st',o,p,j⟩) | (obtain⟨X',m,st',o,p,j⟩:=q;exact absurd j id)
def FvR(e:Option Nat):World->(Nat->Nat->Prop)->Value->Prop:=λ_ _ v=>v=match e with
 | none=>.nilFunc
 | some n=>.func (.func n) #[] #[]
abbrev vq(e:Option Nat):PV:=.abs (FvR e)
def PV.HO:PV->PV
 | .fn (.func n) []=>vq (some n)
 | .nilfn=>vq none
 | d=>d
def PV.Yu:PV->PV
 | .agg cs=>.agg (cs.map PV.HO)
 | d=>d.HO
theorem PV.Yt{d:PV}(h:d.sc=true):d.HO.sc=true:=by
 unfold PV.HO;split <;> first | rfl | exact h
theorem Rd0.HO{w:World}{imm:Nat->Nat->Prop}{v:Value}{d:PV}(h:Rd0 w imm v d):Rd0 w imm v d.HO:=by
 unfold PV.HO;split
 .cases h with
  | fn f vs cap hn _=>
   obtain rfl:vs = #[]:=Array.eq_empty_of_size_eq_zero (Ω hn);exact .abs _ _ rfl λ_ _ _=>rfl
 .cases h;exact .abs _ _ rfl λ_ _ _=>rfl
 .exact h
theorem Rd.HO{w:World}{imm:Nat->Nat->Prop}{μ:Nat->O0}{p6:Nat->Prop}{v:Value}{d:PV}(h:Rd w imm μ p6 v d):Rd w imm μ p6 v d.HO:=by
 unfold PV.HO;split;·exact .cl (h.Z1 rfl).HO
 .exact .cl (h.Z1 rfl).HO
 .exact h
theorem Rd.Yu{w:World}{imm:Nat->Nat->Prop}{μ:Nat->O0}{p6:Nat->Prop}{v:Value}{d:PV}(h:Rd w imm μ p6 v d):Rd w imm μ p6 v d.Yu:=by
 by_cases e:∃cs,d = .agg cs
 .obtain⟨cs,rfl⟩:=e;obtain⟨vs,rfl,hn,hk⟩:=h.iT;have hsc:=h.Kq;refine .agg vs _ (zg.2 λc hc=>?_) (Ω hn) λi v c hv hc=>?_
  .obtain⟨j,h0,rfl⟩:=zn.1 hc;exact PV.Yt (zg.1 hsc j h0)
  .obtain⟨j,k1,rfl⟩:=kl hc;exact (hk i v j hv k1).HO
 .have:d.Yu=d.HO:=by cases d <;> first | rfl | exact absurd ⟨_,rfl⟩ e
  rw[this];exact h.HO
theorem Tv{s:St}(t:Nat){d d':PV}(ht:s.env t=d)(hd:∀w imm μ p6 v,Rd w imm μ p6 v d->Rd w imm μ p6 v d'):Wk s ⟨A3 s.env t d',s.σ⟩:=λX g a w h=>by
 refine⟨g,⟨h.size,λi=>?_,h.rows,h.disj,h.ownimm,h.immlt,h.immsub,h.immsup,h.below,h.marks,h.obs,h.big,h.maps⟩⟩;by_cases q:i=t
 .subst q;rw[show (St.mk (A3 s.env i d') s.σ).env i=d' from p7 _ _ _];exact hd _ _ _ _ _ (by rw[<-ht];exact h.env i)
 .rw[show (St.mk (A3 s.env t d') s.σ).env i=s.env i from o0 _ _ q];exact h.env i
theorem qc{s:St}(t:Nat){d':PV}(h:(s.env t).Yu=d'):Wk s ⟨A3 s.env t d',s.σ⟩:=by
 subst h;exact Tv t rfl λ_ _ _ _ _ q=>q.Yu
theorem XE{s:St}(t:Nat){e:Option Nat}{n:Nat}(ht:s.env t=vq e)(he:e=some n):Wk s ⟨A3 s.env t (.fn (.func n) []),s.σ⟩:=by
 subst he;refine Tv t ht λw imm μ p6 v q=>?_;have:=q.FF;unfold FvR at this;rw[this];exact .cl (.fn _ #[] [] rfl λi v c _ hc=>Ωj)
section
variable{X:Ctx}{ops:Array Oper}{i:Nat}{os:List Oper}{K:Ctx->St->Prop}{env:Nat->PV}{σ:Nat->Option Row}{ty:TypeId}{pos:String}{after:Array Edge}{gd:Option (Nat × Bool)}{t:Tmp}{KT VT:Type}[BEq KT]{EK:KT->PV}{E:VT->PV}
theorem mZ{op:Op}{T kt et:TypeId}{x y u:Operand}{l lo z:Nat}{opn:Bool}{es:List (KT × VT)}{k:KT}{v:VT}(c:op = .mapUpdate T x y u\/op = .insert T x y u)(hw:C9 ops env ⟨none,op,ty,pos,after,gd⟩=some true)(hx:B8 env x = .mp l)
  (hl:σ l=some ⟨[.mapc (es.map (dx EK E))],lo,opn,z,false⟩)(hy:B8 env y=EK k)(hu:(B8 env u).Yu=E v)(hE:(E v).lM=true)(hT:wM X.P T=some (kt,et))(e:Dx X.P kt EK)
  (kk:Sq X ops (i+1) os K ⟨env,A3 σ l (some ⟨[.mapc ((Go.Sh.u6 es k v).map (dx EK E))],lo,opn,z,false⟩)⟩):Sq X ops i (⟨none,op,ty,pos,after,gd⟩::os) K ⟨env,σ⟩:=TC c hw hx hl hy (λ_ _ _ _ _ q=>hu▸q.Yu) hE hT e kk
end
section
variable{P:Program}{σ:Nat->Option Row}{ρ:Operand->PV}{dst:Option Tmp}{KT VT:Type}[BEq KT]{EK:KT->PV}{E:VT->PV}
theorem a1b{T kt et:TypeId}{x y:Operand}{ok:Bool}{es:List (KT × VT)}{k:KT}{zv:Value}{d z0:PV}(hx:ρ x = .abs (Y2 (es.map (dx EK E))))(hy:ρ y=EK k)(hT:wM P T=some (kt,et))(e:Dx P kt EK)(hz:A6 P et=some zv)
  (c:(PV.fH zv).HO=z0)(hd:(YN E (Go.Sh.C4 es k) z0 ok)=d):G4 P σ ρ dst (.lookup T x y ok) d .none:=Xt (W:=PV.HO) (λq=>q.HO) hx hy hT e hz c hd
end
end Go.Pw
namespace Go.Pw
theorem nl{a b:Nat}(h:Nat.ble a b=true:=by rfl):a<=b:=zP h
variable {σ:Nat->Option Row}{r:Row}{P:Program}{ρ:Operand->PV}{dst:Option Tmp}{x:Operand}{T:TypeId}{f i:Nat}
theorem rS{R:List (Nat × Row)}{l:Nat}{r':Row}(h:σ l=some r:=by rfl)(hz:r.z=r'.z:=by rfl)(hl:r.lo=r'.lo:=by rfl)(ho:r'.opn=true->r.opn=true:=by first | exact λ_=>rfl | exact λq=>nomatch q)(hc:r.cl=true\/r.els.all (λx=>x.cells.all PV.Z1)=true:=by first | exact .inl rfl | exact .inr rfl)(he:r.els=r'.els:=by rfl)(c:r'.cl=true:=by rfl)(hm:okM l l r.cl r'.cl=true:=by rfl):qs id R σ (l,r'):=⟨r,h,hm,hz,hl,ho,λ_=>hc,.inl ⟨c,he⟩⟩
theorem rN{π:Nat->Nat}{R:List (Nat × Row)}{l:Nat}{r':Row}(h:σ (π l)=some r:=by rfl)(hz:r.z=r'.z:=by rfl)(hl:r.lo=r'.lo:=by rfl)(ho:r'.opn=true->r.opn=true:=by first | exact λ_=>rfl | exact λq=>nomatch q)(hc:r.cl=true\/r.els.all (λx=>x.cells.all PV.Z1)=true:=by first | exact .inl rfl | exact .inr rfl)(he:r.els=r'.els:=by rfl)(c:r'.cl=true:=by rfl)(hm:okM l (π l) r.cl r'.cl=true:=by rfl):qs π R σ (l,r'):=⟨r,h,hm,hz,hl,ho,λ_=>hc,.inl ⟨c,he⟩⟩
theorem io{p q:Prop}(h:p\/q:=by first | exact .inl rfl | exact .inr rfl):p\/q:=h
theorem J{α:Sort _}{a:α}:a=a:=rfl
abbrev PV.I(x:Int):PV:=.int .i64 x
abbrev _root_.Go.Value.I(x:Int):Value:=.int .i64 x
abbrev D:Int->PV:=PV.int .i64
abbrev PV.L{α:Type}(f:α->PV)(l:List α):PV:=.lst false (List.map f l)
theorem oj{α:Type}{a b:α}(h:some a=some b):a=b:=zK h
theorem om{P:Program}{σ:Nat->Option Row}{ρ:Operand->PV}{dst:Option Tmp}{x:Operand}{d:PV}(h:ρ x=d):G4 P σ ρ dst (.move x) d .none:=Sb h
theorem mI{n:Int}(h:ρ x = .int .i64 n):G4 P σ ρ dst (.move x) (.int .i64 n) .none:=Sb h
theorem kC{f:FuncId}{fn:Func}{c:Code}(h:P.funcs[f]? = some fn)(hb:fn.body=some c)(hn:fn.name ≠ "runtime.NumGoroutine" := by decide):D6 P f:=⟨fn,c,h,hb,hn⟩
theorem tr:True:=trivial
theorem oF{l q off k:Nat}{ft:TypeId}(hx:ρ x = .ptr l i q)(ho:L4 P T f=some (off,ft))(hk:q+off=k):G4 P σ ρ dst (.fieldAddr T x f) (.ptr l i k) .none:=GG hx ho hk
theorem oS{l:Nat}{y d:PV}(hx:ρ x = .ptr l i f)(hl:σ l=some r)(hy:r.els[i]? = some y)(ha:K5 P T=some false)(hd:y.cells[f]? = some d):G4 P σ ρ dst (.load T x) d .none:=AI hx hl hy ha hd
theorem oL{l n:Nat}{y:PV}{cs:List PV}(hx:ρ x = .ptr l i f)(hl:σ l=some r)(hy:r.els[i]? = some y)(ha:K5 P T=some true)(hs:u5 P T=some n)(hf:f+n<=y.cells.length)(hd:(y.cells.drop f).take n=cs):G4 P σ ρ dst (.load T x) (.agg cs) .none:=GH hx hl hy ha hs hf hd
section
variable{X:Ctx}{Q:PX->Ctx->St->Prop}{st:St}
theorem yN{ops:Array Oper}{i:Nat}{K:Ctx->St->Prop}(h:K X st):Sq X ops i [] K st:=a1y h
theorem s1{id:Nat}{l:List Oper}(h:Sq X l.toArray 0 l (Q .normal) st)(hd:jg X.N l.toArray=true:=by kernel_rfl):aA X (.region id l.toArray false) Q st:=sr1 hd h
theorem sR{id:Nat}{l:List Oper}{y:Code}(h:Sq X l.toArray 0 l (λX' s=>aA X' y Q s) st)(hd:jg X.N l.toArray=true:=by kernel_rfl):aA X (.seq (.region id l.toArray false) y) Q st:=sr hd h
end
theorem s7{α β:Type}{x:Option α}{f:α->Option β}{r:β}{C:Prop}(h:x.bind f=some r)(k:∀v,x=some v->f v=some r->C):C:=by
 cases x with
 | none=>cases h
 | some v=>exact k v rfl h
section
variable{X:Ctx}{ops:Array Oper}{i:Nat}{os:List Oper}{K:Ctx->St->Prop}{env:Nat->PV}{σ:Nat->Option Row}{ty:TypeId}{pos:String}{after:Array Edge}{gd:Option (Nat × Bool)}{t:Tmp}
theorem yS{T:TypeId}{x:Operand}{l j f:Nat}{r:Row}{y d:PV}(hw:C9 ops env ⟨some t,.load T x,ty,pos,after,gd⟩=some true)(hx:B8 env x = .ptr l j f)(hl:σ l=some r)(hy:r.els[j]? = some y)(ha:K5 X.P T=some false)(hd:y.cells[f]? = some d)(k:Sq X ops (i+1) os K ⟨A3 env t d,σ⟩):Sq X ops i (⟨some t,.load T x,ty,pos,after,gd⟩::os) K ⟨env,σ⟩:=y0 hw (AI hx hl hy ha hd) k
end
open Go.RowKit
def WX(f:FuncId)(ds:List PV)(w:World)(imm:Nat->Nat->Prop)(v:Value):Prop:=∃c:Array Value,v = .func (.func f) c #[]/\HQ w imm c ds
theorem HQ.mono{w:World}{imm:Nat->Nat->Prop}{w':World}{imm':Nat->Nat->Prop}(he:Ext w imm w' imm'){vs:Array Value}{ds:List PV}(h:HQ w imm vs ds):HQ w' imm' vs ds:=⟨h.1,λi v d hv hd=>(h.2 i v d hv hd).mono he⟩
theorem HQ.append{w:World}{imm:Nat->Nat->Prop}{vs us:Array Value}{ds es:List PV}(h:HQ w imm vs ds)(k:HQ w imm us es):HQ w imm (vs++us) (ds++es):=by
 refine⟨by simp[h.1,k.1],λi v d hv hd=>?_⟩;rcases zI i vs.size with q | q
 .rw[qr q] at hv;rw[zX (by rw[<-h.1];exact q)] at hd;exact h.2 i v d hv hd
 .rw[zaj q] at hv;rw[zW (by rw[<-h.1];exact q),<-h.1] at hd;exact k.2 _ v d hv hd
theorem ZE{w:World}{imm:Nat->Nat->Prop}{v:Value}{f:FuncId}{ds:List PV}(h:WX f ds w imm v):Rd0 w imm v (.abs (WX f ds)):=by
 obtain⟨c,rfl,h⟩:=h;exact .abs _ _ rfl λw' imm' he=>⟨c,rfl,h.mono he⟩
theorem xQ{P:Program}{σ:Nat->Option Row}{ρ:Operand->PV}{dst:Option Tmp}{f:FuncId}{x:Operand}{d:PV}(hx:ρ x=d)(hc:d.lM=true:=by rfl):G4 P σ ρ dst (.makeFunc (.func f) #[x] #[]) (.abs (WX f [d])) .none:=by
 refine .pureV _ _ (λ_=>nofun) (λ_ _=>nofun) λo w imm μ p6 ev ho hr=>?_;have c:=hr x Ωa;rw[hx] at c;refine⟨.func (.func f) #[ev x] #[],by simp[execOp,ho,Instr.makeFunc],.cl (ZE ⟨#[ev x],rfl,rfl,λi v e hv he=>?_⟩)⟩;match i with
 | 0=>
  simp at hv he;subst hv he;exact c.lM hc
 | i+1=>simp at he
section
variable{X:Ctx}{g:Gh}{st:St}{a:Act}{w:World}{n:Nat}{K:Act->World->Prop}{Q:Exit->Act->World->Prop}{ρ:Option Nat}{P:Program}
theorem KG{o:Oper}{x:Operand}{args:Array Operand}{ts:Array TypeId}{f:FuncId}{j:Array Value}(ho:o.op = .call { callee:=.value x,args,argTypes:=ts })(hx:a.eval x = .func (.func f) j #[])
  (hb:∃fn c,P.funcs[f]? = some fn/\fn.body=some c/\fn.name ≠ "runtime.NumGoroutine"):(execOp a.eval o).run P w = .ok (.enter f (j++args.map a.eval)) w:=by
 obtain⟨fn,c,m,p,q⟩:=hb;obtain⟨dst,op,ty,pos,after,guard⟩:=o;simp only at ho;subst ho;have e:(fn.name == "runtime.NumGoroutine")=false:=Ω q
 simp only[execOp,resolve,hx,Deferred.ofValue,zy,zau,zm,invoke,callFunc,program,Sem.run,m,e,p];simp
theorem Sg{o:Oper}{x:Operand}{args:Array Operand}{ts:Array TypeId}{f:FuncId}{G vs:List PV}{d:PV}(h:u7 X g st a w)(ho:o.op = .call { callee:=.value x,args,argTypes:=ts })
  (m:∀t,o.dst=some t->t<X.N)(hf:B8 st.env x = .abs (WX f G))(hb:∃fn c,X.P.funcs[f]? = some fn/\fn.body=some c/\fn.name ≠ "runtime.NumGoroutine")
  (hok:(args.toList.map (B8 st.env)).all (PV.pY st.σ)=true)(hv:(args.toList.map (B8 st.env)).map (PV.vw st.σ)=vs)(A:(args.toList.map (B8 st.env)).flatMap (PV.T9 st.σ) = [])(hc:cd X.P f (G++vs) d)
  (hK:∀g' C w',u7 X g' ⟨Z7 st.env o.dst d,st.σ⟩ C w'->K C w'):o.wpIn (FX ρ) n X.P a w K Q:=by
 subst hv;have hx:=h.eval x;rw[hf] at hx;obtain⟨ws,e,B⟩:=hx.FF;obtain⟨y,p⟩:=Ay h (args:=args) (vs:=#[]) (cap:=[]) rfl (λi v c hv hd=>by simp at hd);simp only[za9,Array.append_empty] at y p;obtain⟨imm2,hF,H,hSh⟩:=h.V1 [];have hargs:=(nY h (I8.refl _) H y p hok (λl hl r hr=>by rw[A] at hl;cases hl)).w2;refine iP (λc=>Ωg) (KG ho e hb) ((hc w imm2 _ hF.immlt h.gt ((B.mono H).append hargs)).mono λev w' hr=>?_);obtain⟨v,rfl,j,u⟩:=hr;refine⟨v,rfl,?_⟩;have hS:=hF.called j (λ_ _=>True);refine hK _ _ _ (hS.put m (.cl (u.mono ⟨λb o q=>?_,λ_ _ _=>rfl,λ_ _ _ _ q _=>q⟩)));rcases q with q | ⟨q1,q2⟩
 .exact .inl q
 .exact .inr ⟨trivial,q1,q2⟩
end
section
variable{X:Ctx}{ops:Array Oper}{i:Nat}{os:List Oper}{K:Ctx->St->Prop}{env:Nat->PV}{σ:Nat->Option Row}{ty:TypeId}{pos:String}{after:Array Edge}{gd:Option (Nat × Bool)}{t:Tmp}
theorem HK{x:Operand}{args:Array Operand}{ts:Array TypeId}{f:FuncId}{e xs vs:List PV}{d:PV}(hw:C9 ops env ⟨some t,.call { callee:=.value x,args,argTypes:=ts },ty,pos,after,gd⟩=some true)(hx:B8 env x = .abs (WX f e))(hk:D6 X.P f)
  (ha:args.toList.map (B8 env)=xs)(h:cd X.P f (e++vs) d)(k:Sq X ops (i+1) os K ⟨A3 env t d,σ⟩)(hok:xs.all (PV.pY σ)=true:=by rfl)(hv:xs.map (PV.vw σ)=vs:=by rfl)(c:xs.flatMap (PV.T9 σ) = []:=by rfl) :
  Sq X ops i (⟨some t,.call { callee:=.value x,args,argTypes:=ts },ty,pos,after,gd⟩::os) K ⟨env,σ⟩:=U9 λho=>by
 subst ha;intro hd n g a w next Qo hs o;unfold wpOpIn;rw[ho];simp only;rw[zb (ax hs hw)];exact Sg hs rfl (Q5 hd ho) hx hk hok hv c h λm j w' h'=>o X m _ j w' h' ⟨⟨rfl,rfl⟩,rfl⟩ k
end
end Go.Pw
namespace Go.Pw
section
variable{F:Fence}{n:Nat}{P:Program}{Q:Exit->Act->World->Prop}{a:Act}{w:World}
def QU(l:Nat)(J:Act->World->Prop)(Q:Exit->Act->World->Prop):Exit->Act->World->Prop
 | .goto l',a,w=>l'=l/\J a w
 | e,a,w=>Q e a w
theorem Dm{l:Nat}{c:Code}(I:Act->World->Prop)(μ:Act->World->Nat)(h₀:I a w)
  (round:∀a w,I a w->c.wpIn F n P (QU l (λp w'=>I p w'/\μ p w'<μ a w) Q) a w):(Code.scope (.seq (.label l) c)).wpIn F n P Q a w:=by
 intro b k cs y hb hr;have A:∀k,gotoIn l (.inScope (.seq (.label l) c)::k)=some (.code (.seq .skip c) :: .inScope (.seq (.label l) c)::k):=λk=>by simp[gotoIn,findLabel]
 have key:∀j a w,μ a w=j->I a w ->
   ∃e p w',Q e p w'/\ArrivesIn (Machine.fenced P F) P (lone (b.atR a (.code c :: .inScope (.seq (.label l) c)::k)) cs w) b k cs e p w':=by
  intro j;induction j using Nat.strongRecOn with
  | _ j ih=>
   intro a w hn h;obtain⟨e,a₁,w₁,o,m⟩:=round a w h b (.inScope (.seq (.label l) c)::k) cs y hb hr;cases e with
   | normal=>exact⟨.normal,a₁,w₁,o,StepsIn.trans m (.one (zcr hb hr rfl) tJ)⟩
   | exit id=>
    have hx:exitTo id (.inScope (.seq (.label l) c)::k)=exitTo id k:=by simp[exitTo]
    exact⟨.exit id,a₁,w₁,o,λk' hk=>m.1 k' ΩX,λu hk=>m.2 u ΩX⟩
   | goto l'=>
    obtain⟨rfl,hI₁,q⟩:=o;obtain⟨e₂,a₂,w₂,hq₂,harr₂⟩:=ih (μ a₁ w₁) (hn▸q) a₁ w₁ rfl hI₁;exact⟨e₂,a₂,w₂,hq₂,.of_steps (StepsIn.trans (m.1 _ (A k)) (.head (zcr hb hr rfl) stepR_seq (.one (zcr hb hr rfl) stepR_skip))) harr₂⟩
   | ret=>exact⟨_,a₁,w₁,o,m⟩
   | panic ch=>exact⟨_,a₁,w₁,o,m⟩
   | outgrown=>exact⟨_,a₁,w₁,o,m⟩
 obtain⟨e,p,w',o,m⟩:=key _ a w rfl h₀;exact⟨e,p,w',o,.of_steps (.head (zcr hb hr rfl) dp (.head (zcr hb hr rfl) stepR_seq (.one (zcr hb hr rfl) stepR_label))) m⟩
end
def IN(l:Nat)(K:Ctx->St->Prop)(Q:PX->Ctx->St->Prop):PX->Ctx->St->Prop
 | .goto l',X,s=>l'=l/\K X s
 | e,X,s=>Q e X s
section
variable{X:Ctx}{Q:PX->Ctx->St->Prop}{st:St}
open Go.Sh
theorem a1i{S E:Type}{f:S->Option (S ⊕ E)}{s0:S}{e:E}{l:Nat}{c:Code}(I:S->Ctx->St->Prop)(h:lp f s0=some e)(h0:∃o,Wk st o/\I s0 X o)(hX:∀s X1 s1,I s X1 s1->X1.P=X.P/\X1.ρ=X.ρ)
  (hr:∀s X1 s1,I s X1 s1->∀x,f s=some x->(∀p,x = .inr p->p=e)->aA X1 c (IN l (λX' s'=>∃s2,x = .inl s2/\∃s'',Wk s' s''/\I s2 X' s'') Q) s1):aA X (.scope (.seq (.label l) c)) Q st:=by
 intro n g a w hs;let J:Nat->Act->World->Prop:=λm a w=>∃s X1 u s1,u7 X1 u s1 a w/\I s X1 s1/\TG f m s=some e
 have least:∀a w,∃k,(∃m,J m a w)->J k a w/\∀m,J m a w->k<=m:=by
  intro a w;by_cases q:∃m,J m a w
  .obtain⟨k,C,H⟩:=vi q;exact⟨k,λ_=>⟨C,H⟩⟩
  .exact⟨0,λh=>absurd h q⟩
 obtain⟨o,hw1,N⟩:=h0;obtain⟨u,hs1⟩:=hw1 X g a w hs;refine Dm (λa w=>∃m,J m a w) (λa w=>Classical.choose (least a w)) ⟨_,s0,X,u,o,hs1,N,by rw[<-MS];exact h⟩ ?_;rintro a w hI;obtain⟨⟨s,X1,u,s1,k1,k2,j⟩,_⟩:=zb6 (least a w) hI;generalize hm:Classical.choose (least a w)=m at j |-;obtain⟨hP,A⟩:=hX s X1 s1 k2;cases m with
 | zero=>rw[IS] at j;cases j
 | succ m=>
  rw[qT] at j;cases hf:f s with
  | none=>rw[hf] at j;cases j
  | some x=>
   have hx:∀p,x = .inr p->p=e:=λp q=>by
    rw[hf,q] at j;exact zK j
   have:=hr s X1 s1 k2 x hf hx n u a w k1;rw[hP,A] at this;refine zb1 this λex B w' q=>?_;rw[vI ⟨hP,A⟩] at q;cases ex <;> simp only[lift,IN,QU] at q |- <;> first | exact q | skip
   obtain⟨X',g',st',C,_,hl,s2,hx2,s'',hw2,H⟩:=q;obtain⟨g2,G⟩:=hw2 X' g' B w' C;have hJ:J m B w':=⟨s2,X',g2,s'',G,H,by rw[hf,hx2] at j;exact j⟩;have y:∃m,J m B w':=⟨m,hJ⟩;exact⟨hl,y,Nat.lt_succ_of_le ((zb6 (least B w') y).2 m hJ)⟩
theorem Zx{S E:Type}{f:S->Option (S ⊕ E)}{s0:S}{e:E}{l:Nat}{c:Code}(F:S->St)(h:lp f s0=some e)(h0:Wk st (F s0))
  (hr:∀s x,f s=some x->(∀j,x = .inr j->j=e)->aA X c (IN l (λX' s'=>X'=X/\∃s2,x = .inl s2/\Wk s' (F s2)) Q) (F s)):aA X (.scope (.seq (.label l) c)) Q st:=
 a1i (λs X1 s1=>X1=X/\s1=F s) h ⟨_,h0,rfl,rfl⟩ (λs X1 s1 q=>by rw[q.1];exact⟨rfl,rfl⟩) (by
  rintro s _ _ ⟨rfl,rfl⟩ x hf hx;refine (hr s x hf hx).mono λex X' s' q=>?_;cases ex <;> simp only[IN] at q |- <;> first | exact q | (
   obtain⟨hl,m,s2,o,p⟩:=q;exact⟨hl,s2,o,_,p,m,rfl⟩))
end
open Go.RowKit Go.Instr
section
variable{P:Program}{w:World}{imm:Nat->Nat->Prop}
end
end Go.Pw
namespace Go.Pw
open Go.RowKit
structure TB where
 f:List ((Nat × Nat) × (Nat × Nat))
 a:List (Nat × Bool)
 s:List (Nat × Nat)
 z:List (Nat × PV)
structure TB.Ok (P:Program) (b:TB):Prop where
 f:b.f.map (λp=>L4 P p.1.1 p.1.2)=b.f.map (λp=>some p.2)
 a:b.a.map (λp=>K5 P p.1)=b.a.map (λp=>some p.2)
 s:b.s.map (λp=>u5 P p.1)=b.s.map (λp=>some p.2)
 z:b.z.map (λp=>(A6 P p.1).map PV.fH)=b.z.map (λp=>some p.2)
def tk{α:Type}(k:Nat):List (Nat × α)->Option α
 | []=>none
 | p::l=>match Nat.beq p.1 k with
  | true=>some p.2
  | false=>tk k l
def XB{α:Type}(k m:Nat):List ((Nat × Nat) × α)->Option α
 | []=>none
 | p::l=>match Nat.beq p.1.1 k with
  | true=>match Nat.beq p.1.2 m with
   | true=>some p.2
   | false=>XB k m l
  | false=>XB k m l
theorem HA{α:Type}{k:Nat}{x:α}:∀ {l:List (Nat × α)},tk k l=some x->(k,x)∈l
 | [],h=>by cases h
 | p::l,h=>by
  unfold tk at h;split at h
  .rename_i q;have:=za4 q;cases h;subst this;exact zh ..
  .exact zw _ (HA h)
theorem Hz{α:Type}{k m:Nat}{x:α}:∀ {l:List ((Nat × Nat) × α)},XB k m l=some x->((k,m),x)∈l
 | [],h=>by cases h
 | p::l,h=>by
  unfold XB at h;split at h
  .rename_i q;have c:=za4 q;split at h
   .rename_i q;have e:=za4 q;cases h;subst c;subst e;exact zh ..
   .exact zw _ (Hz h)
  .exact zw _ (Hz h)
section
variable{P:Program}{b:TB}
theorem TB.Ok.fo(h:b.Ok P){T f:Nat}{p:Nat × Nat}(e:XB T f b.f=some p):L4 P T f=some p:=List.map_inj_left.1 h.f _ (Hz e)
theorem TB.Ok.ag(h:b.Ok P){T:Nat}{p:Bool}(e:tk T b.a=some p):K5 P T=some p:=List.map_inj_left.1 h.a _ (HA e)
theorem TB.Ok.si(h:b.Ok P){T:Nat}{p:Nat}(e:tk T b.s=some p):u5 P T=some p:=List.map_inj_left.1 h.s _ (HA e)
theorem TB.Ok.ze(h:b.Ok P){T:Nat}{p:PV}(e:tk T b.z=some p):(A6 P T).map PV.fH=some p:=List.map_inj_left.1 h.z _ (HA e)
end
def fc1{β:Type}(d:PV)(k:PV->Option β):Option β:=
 match d with
 | .bool b=>k (.bool b)
 | .int i n=>k (.int i n)
 | .str s=>k (.str s)
 | .agg cs=>k (.agg cs)
 | .tup vs=>k (.tup vs)
 | .lst t xs=>k (.lst t xs)
 | .sl l=>k (.sl l)
 | .mp l=>k (.mp l)
 | .mapc es=>k (.mapc es)
 | .ptr l i f=>k (.ptr l i f)
 | .rptr cs=>k (.rptr cs)
 | .fn f cap=>k (.fn f cap)
 | .nilfn=>k .nilfn
 | .abs R=>k (.abs R)
 | .junk=>k .junk
theorem QW{β:Type}(d:PV)(k:PV->Option β):fc1 d k=k d:=by cases d <;> rfl
def fcL{β:Type}:List PV->(List PV->Option β)->Option β
 | [],k=>k []
 | x::xs,k=>fc1 x λx=>fcL xs λxs=>k (x::xs)
theorem QX{β:Type}:∀(xs:List PV) (k:List PV->Option β),fcL xs k=k xs
 | [],k=>rfl
 | x::xs,k=>by
  unfold fcL;rw[QW,QX xs]
def fc{β:Type}(d:PV)(k:PV->Option β):Option β:=
 fc1 d λd=>match d with
 | .agg cs=>fcL cs λcs=>k (.agg cs)
 | d=>k d
theorem BC{β:Type}(d:PV)(k:PV->Option β):fc d k=k d:=by
 unfold fc;rw[QW];cases d <;> first | rfl | exact QX _ _
def fcB{β:Type}(d:Bool)(k:Bool->Option β):Option β:=
 match d with
 | true=>k true
 | false=>k false
theorem KI{β:Type}(d:Bool)(k:Bool->Option β):fcB d k=k d:=by cases d <;> rfl
def tB(b:TB)(env:Nat->PV)(σ:Nat->Option Row):Op->Option PV
 | .move x=>some (B8 env x)
 | .assign x=>some (B8 env x)
 | .fieldAddr T x f=>match B8 env x with
  | .ptr l i q=>match XB T f b.f with
   | some p=>some (.ptr l i (q+p.1))
   | none=>none
  | .rptr cs=>match XB T f b.f with
   | some p=>some (.rptr (cs.drop p.1))
   | none=>none
  | _=>none
 | .field T x f=>match B8 env x with
  | .agg cs=>match XB T f b.f with
   | some p=>match tk p.2 b.a with
    | some false=>cs[p.1]?
    | some true=>match tk p.2 b.s with
     | some n=>match Nat.ble (p.1+n) cs.length with
      | true=>some (.agg ((cs.drop p.1).take n))
      | false=>none
     | none=>none
    | none=>none
   | none=>none
  | _=>none
 | .load T x=>match B8 env x with
  | .ptr l i f=>match σ l with
   | some r=>match r.els[i]? with
    | some y=>match tk T b.a with
     | some false=>y.cells[f]?
     | some true=>match tk T b.s with
      | some n=>match Nat.ble (f+n) y.cells.length with
       | true=>some (.agg ((y.cells.drop f).take n))
       | false=>none
      | none=>none
     | none=>none
    | none=>none
   | none=>none
  | .rptr cs=>match tk T b.a with
   | some false=>cs[0]?
   | some true=>match tk T b.s with
    | some n=>match Nat.ble n cs.length with
     | true=>some (.agg (cs.take n))
     | false=>none
    | none=>none
   | none=>none
  | _=>none
 | .unOp .not _ x=>match B8 env x with
  | .bool v=>some (.bool (!v))
  | _=>none
 | .binOp op _ x y _=>match B8 env x with
  | .int k1 m=>match B8 env y with
   | .int k2 n=>match decide (k1=k2) with
    | true=>match QI op m n with
     | some r=>some (.bool r)
     | none=>match Qr k1 op m n with
      | some r=>some (.int k1 r)
      | none=>none
    | false=>none
   | _=>none
  | _=>none
 | .extract x i=>match B8 env x with
  | .tup ds=>ds[i]?
  | _=>none
 | .makeFunc fn ⟨[]⟩ cap=>some (.fn fn (cap.toList.map (B8 env)))
 | _=>none
theorem qS{P:Program}{b:TB}(hb:b.Ok P){env:Nat->PV}{σ:Nat->Option Row}{dst:Option Tmp}{op:Op}{d:PV}(h:tB b env σ op=some d):G4 P σ (B8 env) dst op d .none:=by
 cases op <;> simp only[tB] at h
 case move x=>cases h;exact .move x
 case assign x=>cases h;exact .assign x
 case load T x=>
  split at h
  .rename_i l i f hx;split at h
   .rename_i r hl;split at h
    .rename_i y hy;split at h
     .rename_i ha;exact .pR T x l i f r y d hx hl hy (hb.ag ha) h
     .rename_i ha;split at h
      .rename_i n hn;split at h
       .rename_i c;cases h;exact .pQ T x l i f r y n hx hl hy (hb.ag ha) (hb.si hn) (zP c)
       .cases h
      .cases h
     .cases h
    .cases h
   .cases h
  .rename_i cs hx;split at h
   .rename_i ha;exact .jO T x cs d hx (hb.ag ha) h
   .rename_i ha;split at h
    .rename_i n hn;split at h
     .rename_i c;cases h;exact .jN T x cs n hx (hb.ag ha) (hb.si hn) (zP c)
     .cases h
    .cases h
   .cases h
  .cases h
 case fieldAddr T x f=>
  split at h
  .rename_i l i q hx;split at h
   .rename_i p hp;cases h;exact .fieldAddrP T x f l i q p.1 p.2 hx (hb.fo hp)
   .cases h
  .rename_i cs hx;split at h
   .rename_i p hp;cases h;exact .fieldAddrR T x f cs p.1 p.2 hx (hb.fo hp)
   .cases h
  .cases h
 case field T x f=>
  split at h
  .rename_i cs hx;split at h
   .rename_i p hp;split at h
    .rename_i ha;exact .fieldS T x f cs p.1 p.2 d hx (hb.fo hp) (hb.ag ha) h
    .rename_i ha;split at h
     .rename_i n hn;split at h
      .rename_i c;cases h;exact .fieldA T x f cs p.1 p.2 n hx (hb.fo hp) (hb.ag ha) (hb.si hn) (zP c)
      .cases h
     .cases h
    .cases h
   .cases h
  .cases h
 case extract x i=>
  split at h
  .rename_i ds hx;exact .extract x i ds d hx h
  .cases h
 case unOp op t x=>
  cases op <;> simp only[tB] at h
  case not=>
   split at h
   .rename_i v hx;cases h;exact .not t x v hx
   .cases h
  all_goals cases h
 case binOp op t x y u=>
  split at h
  .rename_i k1 m hx;split at h
   .rename_i k2 n hy;split at h
    .rename_i hk;have hk:=zbd hk;subst hk;split at h
     .rename_i r hr;cases h;exact .cmp op t u x y k1 m n r hx hy hr
     .split at h
      .rename_i r hr;cases h;exact .ari op t u x y k1 m n r hx hy hr
      .cases h
    .cases h
   .cases h
  .cases h
 case makeFunc fn first cap=>
  obtain⟨l⟩:=first
  cases l <;> simp only[tB] at h
  case nil=>cases h;exact .mkFunc fn cap
  all_goals cases h
 all_goals cases h
def ev1{β:Type}(b:TB)(o:Oper)(env:Nat->PV)(σ:Nat->Option Row)(k:(Nat->PV)->(Nat->Option Row)->Option β):Option β:=
 match o.guard with
 | some _=>none
 | none=>match o.dst with
  | some t=>match o.op with
   | .box T x=>match σ t with
    | some _=>none
    | none=>fc (B8 env x) λd=>match d.el with
     | true=>fcB d.lM λc=>k (A3 env t (.ptr t 0 0)) (A3 σ t (some ⟨[d],0,false,d.cells.length,c⟩))
     | false=>none
   | .alloc T=>match σ t with
    | some _=>none
    | none=>match tk T b.z with
     | some d=>match d.el with
      | true=>k (A3 env t (.ptr t 0 0)) (A3 σ t (some ⟨[d],0,false,d.cells.length,true⟩))
      | false=>none
     | none=>none
   | op=>match tB b env σ op with
    | some d=>fc d λd=>k (A3 env t d) σ
    | none=>none
  | none=>match o.op with
   | .store T x y=>match B8 env x with
    | .ptr l 0 q=>match σ l with
     | some r=>match r.els with
      | [x0]=>match r.lo with
       | 0=>match tk T b.s with
        | some n=>fc (B8 env y).w1 λd=>
         match d.el&&(Nat.ble 1 n&&(Nat.beq d.cells.length n&&(Nat.ble (q+n) x0.cells.length&&d.cells.all PV.sc))) with
         | true=>fc (K8 x0 q d.cells) λx'=>fcB (r.cl&&d.cells.all PV.Z1) λc=>k env (A3 σ l (some ⟨[x'],0,r.opn,r.z,c⟩))
         | false=>none
        | none=>none
       | _+1=>none
      | _=>none
     | none=>none
    | _=>none
   | _=>none
theorem Oz{β:Type}{P:Program}{b:TB}(hb:b.Ok P){ops:Array Oper}{T:List Nat}{c:Nat}{o:Oper}{env:Nat->PV}{σ:Nat->Option Row}{k:(Nat->PV)->(Nat->Option Row)->Option β}{r:β}(h:ev1 b o env σ k=some r) :
  ∃env' σ',TL P ops false T c o ⟨env,σ⟩ ⟨env',σ'⟩/\k env' σ'=some r:=by
 obtain⟨dst,op,ty,pos,after,gd⟩:=o;unfold ev1 at h;simp only at h;cases gd with
 | some g=>cases h
 | none=>
 simp only at h;have hw:∀dst,C9 ops env ⟨dst,op,ty,pos,after,none⟩=some true:=λ_=>rfl;cases dst with
 | some t=>
  simp only at h;have hlook:∀d,tB b env σ op=some d->k (A3 env t d) σ=some r->∃env' σ',TL P ops false T c ⟨some t,op,ty,pos,after,none⟩ ⟨env,σ⟩ ⟨env',σ'⟩/\k env' σ'=some r:=λd hd hk=>
   ⟨A3 env t d,σ,.run d .none (hw _) (qS hb hd) ⟨I8.refl _,H4.refl _⟩ trivial (λq=>nomatch q) (λq=>nomatch q),hk⟩
  split at h
  .rename_i T' x;split at h;·cases h
   .rename_i hf;rw[BC] at h;split at h
    .rename_i hel;rw[KI] at h;exact⟨_,_,.run (.ptr t 0 0) (.new t ⟨[B8 env x],0,false,(B8 env x).cells.length,(B8 env x).lM⟩) (hw _) (.box T' x t rfl hel) ⟨I8.refl _,H4.refl _⟩ hf (λq=>nomatch q) (λq=>nomatch q),h⟩
    .cases h
  .rename_i T';split at h;·cases h
   .rename_i hf;split at h
    .rename_i d hd;split at h
     .rename_i hel;have:=hb.ze hd;cases hz:A6 P T' with
      | none=>rw[hz] at this;cases this
      | some v=>
       rw[hz] at this;simp only[rg,wd] at this;subst this;exact⟨_,_,.run (.ptr t 0 0) (.new t ⟨[PV.fH v],0,false,(PV.fH v).cells.length,true⟩) (hw _) (.alloc T' t v rfl hz hel) ⟨I8.refl _,H4.refl _⟩ hf (λq=>nomatch q) (λq=>nomatch q),h⟩
     .cases h
    .cases h
  .split at h
   .rename_i d hd;rw[BC] at h;exact hlook d hd h
   .cases h
 | none=>
  simp only at h;split at h
  .rename_i T' x y;split at h
   .rename_i l q hx;split at h
    .rename_i rw hl;obtain⟨els,lo,opn,z,cl⟩:=rw;simp only at h;split at h
     .rename_i x0;split at h
      .split at h
       .rename_i n hn;rw[BC] at h;split at h
        .rename_i hc;simp only[zB] at hc;obtain⟨m,p,e,u,A⟩:=hc;have e:=za4 e;rw[BC,KI] at h;have j:G4 P σ (B8 env) none (.store T' x y) (.tup []) (.sto l 0 q (B8 env y).w1.cells):=wc hx (.inr rfl) rfl m (hb.si hn) (zP p) e;refine⟨env,_,?_,h⟩;have:=uN.run (P:=P) (ops:=ops) (dr:=false) (T:=T) (c:=c) (σF:=σ) (o:=⟨none,.store T' x y,ty,pos,after,none⟩) (st:=⟨env,σ⟩) (.tup []) (.sto l 0 q (B8 env y).w1.cells) (hw _) j ⟨I8.refl _,H4.refl _⟩ ⟨_,x0,hl,rfl,zC _,by rw[e];exact zP u,A⟩ (λq=>nomatch q) (λq=>nomatch q);simp only[aj.apply,hl] at this;exact this
        .cases h
       .cases h
      .cases h
     .cases h
    .cases h
   .cases h
  .cases h
def run(b:TB):Nat->List Oper->(Nat->PV)->(Nat->Option Row)->Option (List Oper × (Nat->PV) × (Nat->Option Row))
 | 0,l,env,σ=>some (l,env,σ)
 | _+1,[],_,_=>none
 | n+1,o::l,env,σ=>ev1 b o env σ λenv σ=>run b n l env σ
section
variable{X:Ctx}{ops:Array Oper}{K:Ctx->St->Prop}
theorem ZN{b:TB}(hb:b.Ok X.P):∀(n:Nat) {i:Nat} {l l':List Oper} {env env':Nat->PV} {σ σ':Nat->Option Row},run b n l env σ=some (l',env',σ')->Sq X ops (i+n) l' K ⟨env',σ'⟩->Sq X ops i l K ⟨env,σ⟩
 | 0,i,l,l',env,env',σ,σ',h,k=>by cases h;exact k
 | n+1,i,[],l',env,env',σ,σ',h,k=>by cases h
 | n+1,i,o::l,l',env,env',σ,σ',h,k=>by
  obtain⟨env1,σ1,c,e⟩:=Oz hb h;refine qd c (ZN hb n e ?_);rw[t8,zb8 1 n];exact k
end
end Go.Pw
namespace Go.Pw
open Go.RowKit Go.Sh
section
variable{X:Ctx}{Q:PX->Ctx->St->Prop}{st:St}
variable {x:Code}{R:Type}{r:R}{S E:Type}{s:St}{P:Program}{v:PV}
theorem Y{c:Operand}{y:Code}{α:Type}{b:Bool}{A B:Option α}{r:α}(h:(if b then A else B)=some r)(hx:b=true->A=some r->aA X x Q st)(hy:b=false->B=some r->aA X y Q st)(hc:B8 st.env c = .bool b:=by rfl):aA X (.cond c x y) Q st:=
 J9 b hc (λq=>hx q (Xo h q)) λq=>hy q (Xn h q)
theorem jq{J:Type}{y:Code}{k:J->Option R}{b:(J->Option R)->Option R}(h:jn k b=some r)(F:J->St)(hk:∀j,k j=some r->aA X y Q (F j))
  (hx:∀κ,b κ=some r->aA X x (mB (λX' s=>X'=X/\∃j,κ j=some r/\Wk s (F j)) Q) st):aA X (.seq x y) Q st:=Zt F hk (hx k h)
theorem jqE{J:Type}{k:J->Option R}{b:(J->Option R)->Option R}(h:jn k b=some r)(F:J->St)(hk:∀j,k j=some r->Q .normal X (F j))
  (hx:∀κ,b κ=some r->aA X x (mB (λX' s=>X'=X/\∃j,κ j=some r/\Wk s (F j)) Q) st):aA X x Q st:=Zu F hk (hx k h)
theorem jqR{J:Type}{k:J->Option R}{b:(J->Option R)->Option R}(h:jn k b=some r)(F:J->St)(hk:∀j,k j=some r->Q .normal X (F j)/\Q .ret X (F j))
  (hx:∀κ,b κ=some r->aA X x (Yo (λX' s=>X'=X/\∃j,κ j=some r/\Wk s (F j))) st):aA X x Q st:=Zv F hk (hx k h)
theorem lq{f:S->Option (S ⊕ E)}{s0:S}{k:E->Option R}{c:Code}(h:(lp f s0).bind k=some r)(F:S->St)(h0:Wk st (F s0))
  (hr:∀s x,f s=some x->(∀j,x = .inr j->k j=some r)->aA X c (mB (λX' s'=>X'=X/\∃s2,x = .inl s2/\Wk s' (F s2)) Q) (F s)):aA X (.loop c) Q st:=by
 obtain⟨e,m,o⟩:=pJ h;exact Zw F m h0 λs x hf hx=>hr s x hf λj q=>by rw[hx j q];exact o
theorem lqS{f:S->Option (S ⊕ E)}{s0:S}{k:E->Option R}{l:Nat}{c:Code}(h:(lp f s0).bind k=some r)(F:S->St)(h0:Wk st (F s0))
  (hr:∀s x,f s=some x->(∀j,x = .inr j->k j=some r)->aA X c (IN l (λX' s'=>X'=X/\∃s2,x = .inl s2/\Wk s' (F s2)) Q) (F s)):aA X (.scope (.seq (.label l) c)) Q st:=by
 obtain⟨e,m,o⟩:=pJ h;exact Zx F m h0 λs x hf hx=>hr s x hf λj q=>by rw[hx j q];exact o
theorem eJ{J:Type}{κ:J->Option R}{F:J->St}{j:J}(h:κ j=some r)(w:Wk s (F j)):X=X/\∃j,κ j=some r/\Wk s (F j):=⟨rfl,j,h,w⟩
theorem eL{x:S ⊕ E}{F:S->St}{j:S}(h:some (.inl j)=some x)(w:Wk s (F j)):X=X/\∃s2,x = .inl s2/\Wk s (F s2):=⟨rfl,j,(zK h).symm,w⟩
theorem eS{x:S ⊕ E}{F:S->St}{j:S}{l:Nat}(h:some (.inl j)=some x)(w:Wk s (F j)):l=l/\X=X/\∃s2,x = .inl s2/\Wk s (F s2):=⟨rfl,rfl,j,(zK h).symm,w⟩
theorem xL{x:S ⊕ E}{k:E->Option R}{e:E}(hx:∀c,x = .inr c->k c=some r)(h:some (.inr e)=some x):k e=some r:=hx e (zK h).symm
abbrev PV.nl:PV:=.lst true []
abbrev U(d:PV)(n:Nat):Row:=⟨[d],0,false,n,true⟩
abbrev vS(d:PV)(n:Nat):Row:=⟨[d],0,false,n,false⟩
theorem WE(L:List (Nat × PV))(R:List (Nat × Row))(h:Ag R s L:=by (repeat first | refine⟨J,J,J,?_⟩ | refine⟨ct ΩI,J,J,?_⟩);exact tr)
  (k:Ar R s R:=by (repeat first | refine⟨rS,?_⟩ | refine⟨R2 J J J (λq=>nomatch q) J J J J,?_⟩);exact tr):Wk s (St.of L R):=xa L R h k
theorem uJ(π:Nat->Nat)(L:List (Nat × PV))(R:List (Nat × Row))(h:AgP π R s L:=by (repeat first | refine⟨J,J,J,?_⟩ | refine⟨ct ΩI,J,J,?_⟩);exact tr)
  (k:XH π R s R:=by (repeat first | refine⟨rN,?_⟩ | refine⟨R2 J J J (λq=>nomatch q) J J J J,?_⟩);exact tr)
  (hi:(R.all λp=>R.all λq=>π p.1 != π q.1||p.1==q.1)=true:=by rfl):Wk s (St.of L R):=Tw π L R h k hi
theorem W{L:List (Nat × PV)}{R:List (Nat × Row)}(h:Ag R s L:=by (repeat refine⟨J,J,J,?_⟩);exact tr)
  (k:Ar R s R:=by (repeat first | refine⟨rS,?_⟩ | refine⟨R2 J J J (λq=>nomatch q) J J J J,?_⟩);exact tr):Wk s (St.of L R):=xa L R h k
theorem WP(π:Nat->Nat){L:List (Nat × PV)}{R:List (Nat × Row)}(h:AgP π R s L:=by (repeat refine⟨J,J,J,?_⟩);exact tr)
  (k:XH π R s R:=by (repeat first | refine⟨rN,?_⟩ | refine⟨R2 J J J (λq=>nomatch q) J J J J,?_⟩);exact tr)
  (hi:(R.all λp=>R.all λq=>π p.1 != π q.1||p.1==q.1)=true:=by rfl):Wk s (St.of L R):=Tw π L R h k hi
theorem f1{fn:Func}{d:PV}(h:Dy P st fn.results.toList [v]:=by exact⟨J,tr⟩)(c:(ke [v]).pY st.σ=true:=by rfl)(e:(ke [v]).view st.σ=d\/((ke [v]).view st.σ).w3=d:=by first | exact .inl rfl | exact .inr rfl):X=X/\Fin P fn d st:=⟨rfl,_,h,c,e⟩
theorem f2{fn:Func}{d u:PV}(h:Dy P st fn.results.toList [v,u]:=by exact⟨J,J,tr⟩)(c:(ke [v,u]).pY st.σ=true:=by rfl)(e:(ke [v,u]).view st.σ=d\/((ke [v,u]).view st.σ).w3=d:=by first | exact .inl rfl | exact .inr rfl):X=X/\Fin P fn d st:=⟨rfl,_,h,c,e⟩
theorem f3{fn:Func}{d u w:PV}(h:Dy P st fn.results.toList [v,u,w]:=by exact⟨J,J,J,tr⟩)(c:(ke [v,u,w]).pY st.σ=true:=by rfl)(e:(ke [v,u,w]).view st.σ=d\/((ke [v,u,w]).view st.σ).w3=d:=by first | exact .inl rfl | exact .inr rfl):X=X/\Fin P fn d st:=⟨rfl,_,h,c,e⟩
end
theorem pI{P:Program}{f:FuncId}{fn:Func}{c:Code}{ds:List PV}{d:PV}(hf:P.funcs[f]? = some fn)
  (h:∀(w0:WG P) imm0,aA { P:=P,N:=fn.ntmps,ρ:=none,w0:=w0.1,imm0:=imm0,tab:=w0.2 } c (PC { P:=P,N:=fn.ntmps,ρ:=none,w0:=w0.1,imm0:=imm0,tab:=w0.2 } (Fin P fn d)) ⟨O6 ds,λ_=>none⟩)(hb:fn.body=some c:=by rfl)(hn:ds.length<=fn.ntmps:=by exact nl)(e:fn.ntmps<=1000000:=by exact nl):cd P f ds d:=Sz hf hb rfl hn h e
theorem pIN{P:Program}{f:FuncId}{fn:Func}{c:Code}{ds:List PV}{r:Row}(hf:P.funcs[f]? = some fn)
  (h:∀(w0:WG P) imm0,aA { P:=P,N:=fn.ntmps,ρ:=none,w0:=w0.1,imm0:=imm0,tab:=w0.2 } c (PC { P:=P,N:=fn.ntmps,ρ:=none,w0:=w0.1,imm0:=imm0,tab:=w0.2 } (NM P fn r)) ⟨O6 ds,λ_=>none⟩)(hb:fn.body=some c:=by rfl)(hn:ds.length<=fn.ntmps:=by exact nl)(e:fn.ntmps<=1000000:=by exact nl):og P f ds r:=OX hf hb rfl hn h e
end Go.Pw
namespace Go.Pw
open Go.RowKit Go.Sh
variable {α:Type}{P:Program}{f:FuncId}{ds:List PV}{σ:Nat->Option Row}{ρ:Operand->PV}{dst:Option Tmp}{z:Option α}{v:α}{args:Array Operand}{ts:Array TypeId}{x:Operand}{vs cap:List PV}
def PO(P:Program)(f:FuncId)(ds:List PV)(x:Option α)(d:α->PV):Prop:=D6 P f/\∀r,x=some r->cd P f ds (d r)
def PG(P:Program)(f:FuncId)(ds:List PV)(x:Option α)(d:α->Row):Prop:=D6 P f/\∀r,x=some r->og P f ds (d r)
theorem pO{fn:Func}{c:Code}{x:Option α}{d:α->PV}(hf:P.funcs[f]? = some fn)
  (h:∀r,x=some r->∀(w0:WG P) imm0,aA { P:=P,N:=fn.ntmps,ρ:=none,w0:=w0.1,imm0:=imm0,tab:=w0.2 } c (PC { P:=P,N:=fn.ntmps,ρ:=none,w0:=w0.1,imm0:=imm0,tab:=w0.2 } (Fin P fn (d r))) ⟨O6 ds,λ_=>none⟩)
  (hb:fn.body=some c:=by rfl)(hn:ds.length<=fn.ntmps:=by exact nl)(e:fn.ntmps<=1000000:=by exact nl)(hm:fn.name ≠ "runtime.NumGoroutine" := by decide):PO P f ds x d:=⟨⟨fn,c,hf,hb,hm⟩,λr q=>pI hf (h r q) hb hn e⟩
theorem pON{fn:Func}{c:Code}{x:Option α}{d:α->Row}(hf:P.funcs[f]? = some fn)
  (h:∀r,x=some r->∀(w0:WG P) imm0,aA { P:=P,N:=fn.ntmps,ρ:=none,w0:=w0.1,imm0:=imm0,tab:=w0.2 } c (PC { P:=P,N:=fn.ntmps,ρ:=none,w0:=w0.1,imm0:=imm0,tab:=w0.2 } (NM P fn (d r))) ⟨O6 ds,λ_=>none⟩)
  (hb:fn.body=some c:=by rfl)(hn:ds.length<=fn.ntmps:=by exact nl)(e:fn.ntmps<=1000000:=by exact nl)(hm:fn.name ≠ "runtime.NumGoroutine" := by decide):PG P f ds x d:=⟨⟨fn,c,hf,hb,hm⟩,λr q=>pIN hf (h r q) hb hn e⟩
theorem F2{d:α->PV}(hx:ρ x = .fn (.func f) cap)(o:PO P f vs z d)(ha:args.toList.map ρ++cap=ds)(hz:z=some v)
  (hok:ds.all (PV.pY σ)=true:=by rfl)(hv:ds.map (PV.vw σ)=vs:=by rfl)(hfl:(d v).flat=true:=by rfl):G4 P σ ρ dst (.call { callee:=.value x,args,argTypes:=ts }) (d v) .none:=KR hx o.1 ha (o.2 v hz) hok hv hfl
theorem x4{d:α->PV}{ls:List Nat}(hx:ρ x = .fn (.func f) cap)(o:PO P f vs z d)(ha:args.toList.map ρ++cap=ds)(hz:z=some v)
  (hok:ds.all (PV.pY σ)=true:=by rfl)(hv:ds.map (PV.vw σ)=vs:=by rfl)(hl:ds.flatMap (PV.T9 σ)=ls:=by rfl):G4 P σ ρ dst (.call { callee:=.value x,args,argTypes:=ts }) (d v) (.oe ls):=GD hx o.1 ha (o.2 v hz) hok hv hl
theorem jr{d:α->Row}{ls:List Nat}{l:Tmp}(hx:ρ x = .fn (.func f) cap)(o:PG P f vs z d)(ha:args.toList.map ρ++cap=ds)(hz:z=some v)
  (hd:dst=some l:=by rfl)(hok:ds.all (PV.pY σ)=true:=by rfl)(hv:ds.map (PV.vw σ)=vs:=by rfl)(hcl:(d v).cl=true:=by rfl)(hl:ds.flatMap (PV.T9 σ)=ls:=by rfl) :
  G4 P σ ρ dst (.call { callee:=.value x,args,argTypes:=ts }) (.sl l) (.frzN ls l (d v)):=VP hx o.1 ha (o.2 v hz) hd hok hv hcl hl
section
variable{X:Ctx}{ops:Array Oper}{i:Nat}{os:List Oper}{K:Ctx->St->Prop}{env:Nat->PV}{σ:Nat->Option Row}{ty:TypeId}{pos:String}{after:Array Edge}{gd:Option (Nat × Bool)}{t:Tmp}{α β:Type}{z:Option α}{k:α->Option β}{r:β}
theorem cA{f:FuncId}{args:Array Operand}{ts:Array TypeId}{c:Operand}{ds vs cap:List PV}{d:α->PV}(h:z.bind k=some r)(o:PO X.P f vs z d)(hx:B8 env c = .fn (.func f) cap)(ha:args.toList.map (B8 env)++cap=ds)
  (kk:∀v,z=some v->k v=some r->Sq X ops (i+1) os K ⟨A3 env t (d v),σ⟩)(hw:C9 ops env ⟨some t,.call { callee:=.value c,args,argTypes:=ts },ty,pos,after,gd⟩=some true:=by rfl)(hok:ds.all (PV.pY σ)=true:=by rfl)(hv:ds.map (PV.vw σ)=vs:=by rfl)(hfl:∀v,(d v).flat=true:=by intro _;rfl) :
  Sq X ops i (⟨some t,.call { callee:=.value c,args,argTypes:=ts },ty,pos,after,gd⟩::os) K ⟨env,σ⟩:=by
 obtain⟨v,e,j⟩:=pJ h;exact y0 hw (KR hx o.1 ha (o.2 v e) hok hv (hfl v)) (kk v e j)
theorem cF{f:FuncId}{args:Array Operand}{ts:Array TypeId}{c:Operand}{ds vs cap:List PV}{d:α->PV}(h:z.bind k=some r)(o:PO X.P f vs z d)(hx:B8 env c = .fn (.func f) cap)(ha:args.toList.map (B8 env)++cap=ds)
  (kk:∀v,z=some v->k v=some r->Sq X ops (i+1) os K ⟨A3 env t (d v),σ⟩)(hw:C9 ops env ⟨some t,.call { callee:=.value c,args,argTypes:=ts },ty,pos,after,gd⟩=some true:=by rfl)(hok:ds.all (PV.pY σ)=true:=by rfl)(hv:ds.map (PV.vw σ)=vs:=by rfl)(hl:ds.flatMap (PV.T9 σ) = []:=by rfl) :
  Sq X ops i (⟨some t,.call { callee:=.value c,args,argTypes:=ts },ty,pos,after,gd⟩::os) K ⟨env,σ⟩:=by
 obtain⟨v,e,j⟩:=pJ h;exact yc hw (GD hx o.1 ha (o.2 v e) hok hv hl) (kk v e j)
theorem iL{γ:Type}{f:γ->PV}{xs:List γ}{k:γ->Option β}{n:Int}{T E:TypeId}{x y:Operand}{b:Bool}{kd:IntKind}{m:Nat}(h:(ix xs n).bind k=some r)(hx:B8 env x = .lst b (xs.map f))(hy:B8 env y = .int kd n)
  (hE:B7 X.P T=some E)(hz:u5 X.P E=some m)(kk:∀v,ix xs n=some v->k v=some r->Sq X ops (i+1) os K ⟨A3 env t (.rptr (f v).cells),σ⟩)(hl:∀v,(f v).cells.length=m:=by intro _;rfl)(hw:C9 ops env ⟨some t,.indexAddr T x y,ty,pos,after,gd⟩=some true:=by rfl) :
  Sq X ops i (⟨some t,.indexAddr T x y,ty,pos,after,gd⟩::os) K ⟨env,σ⟩:=by
 obtain⟨v,c,e⟩:=pJ h;exact y0 hw (A0 c hx hy hE hz rfl (hl v)) (kk v c e)
theorem nL{γ:Type}{f:γ->PV}{xs:List γ}{x:Operand}{T E:TypeId}{b:Bool}(hx:B8 env x = .lst b (xs.map f))(hE:B7 X.P T=some E)(kk:Sq X ops (i+1) os K ⟨A3 env t (.int .i64 xs.length),σ⟩)(hw:C9 ops env ⟨some t,.call { callee:=.builtin .len,args:=#[x],argTypes:=#[T] },ty,pos,after,gd⟩=some true:=by rfl) :
  Sq X ops i (⟨some t,.call { callee:=.builtin .len,args:=#[x],argTypes:=#[T] },ty,pos,after,gd⟩::os) K ⟨env,σ⟩:=y0 hw (W3 hx hE) kk
end
theorem d4{P:Program}{ops:Array Oper}{bar:List Nat}{i:Nat}{os:List Oper}{K:St->Prop}{env:Nat->PV}{σ:Nat->Option Row}{ty:TypeId}{pos:String}{after:Array Edge}{gd:Option (Nat × Bool)}{op:Op}{t:Tmp}{d:PV}(hw:C9 ops env ⟨some t,op,ty,pos,after,gd⟩=some true)(h:G4 P σ (B8 env) (some t) op d .none)(hc:cls bar i op=4)(k:Ex P ops bar true (i+1) os ⟨A3 env t d,σ⟩ K) :
  Ex P ops bar true i (⟨some t,op,ty,pos,after,gd⟩::os) ⟨env,σ⟩ K:=x0 hw h (λ_=>by rw[hc];trivial) k
def Rt:Op->Bool
 | .load .. => true
 | _=>false
theorem OM{b:TB}{env:Nat->PV}{σ σ':Nat->Option Row}{op:Op}(h:Rt op=false):tB b env σ op=tB b env σ' op:=by
 cases op <;> first | rfl | cases h | skip
 case unOp o _ _=>cases o <;> rfl
 case makeFunc _ l _=>
  obtain⟨l⟩:=l;cases l <;> rfl
def evD{γ:Type}(b:TB)(bar:List Nat)(i:Nat)(o:Oper)(env:Nat->PV)(σ:Nat->Option Row)(k:(Nat->PV)->(Nat->Option Row)->Option γ):Option γ:=
 match o.guard with
 | some _=>none
 | none=>match o.dst with
  | none=>none
  | some t=>match o.op with
   | .box T x=>match σ t with
    | some _=>none
    | none=>match Nat.beq (cls bar i (.box T x)) 1 with
     | false=>none
     | true=>fc (B8 env x) λd=>match d.el with
      | true=>fcB d.lM λc=>match (kept bar).contains t with
       | true=>none
       | false=>k (A3 env t (.ptr t 0 0)) (A3 σ t (some ⟨[d],0,false,d.cells.length,c⟩))
      | false=>none
   | .alloc T=>match σ t with
    | some _=>none
    | none=>match Nat.beq (cls bar i (.alloc T)) 1 with
     | false=>none
     | true=>match tk T b.z with
      | some d=>match d.el with
       | true=>match (kept bar).contains t with
        | true=>none
        | false=>k (A3 env t (.ptr t 0 0)) (A3 σ t (some ⟨[d],0,false,d.cells.length,true⟩))
       | false=>none
      | none=>none
   | op=>match Rt op with
    | true=>match Nat.beq (cls bar i op) 0 with
     | false=>none
     | true=>match tB b env σ op with
      | some d=>fc d λd=>k (A3 env t d) σ
      | none=>none
    | false=>match Nat.beq (cls bar i op) 7 with
     | false=>none
     | true=>match tB b env σ op with
      | some d=>fc d λd=>k (A3 env t d) σ
      | none=>none
theorem OA{γ:Type}{P:Program}{b:TB}(hb:b.Ok P){ops:Array Oper}{bar:List Nat}{i:Nat}{o:Oper}{os:List Oper}{env:Nat->PV}{σ:Nat->Option Row}{k:(Nat->PV)->(Nat->Option Row)->Option γ}{r:γ}(h:evD b bar i o env σ k=some r) :
  ∃env' σ',k env' σ'=some r/\∀K,Ex P ops bar true (i+1) os ⟨env',σ'⟩ K->Ex P ops bar true i (o::os) ⟨env,σ⟩ K:=by
 obtain⟨dst,op,ty,pos,after,gd⟩:=o;unfold evD at h;simp only at h;cases gd with
 | some g=>cases h
 | none=>
 simp only at h;cases dst with
 | none=>cases h
 | some t=>
 simp only at h;split at h
 .rename_i T' x;split at h;·cases h
  .rename_i hf;split at h;·cases h
   .rename_i hc;have hc:=za4 hc;rw[BC] at h;split at h
    .rename_i hel;rw[KI] at h;split at h;·cases h
     .rename_i hk;exact⟨_,_,h,λK q=>d1 rfl (.box T' x t rfl hel) hf (by simp only[aj.off];rw[hk];rfl) hc q⟩
    .cases h
 .rename_i T';split at h;·cases h
  .rename_i hf;split at h;·cases h
   .rename_i hc;have hc:=za4 hc;split at h
    .rename_i d hd;split at h
     .rename_i hel;split at h;·cases h
      .rename_i hk;have:=hb.ze hd;cases hz:A6 P T' with
       | none=>rw[hz] at this;cases this
       | some v=>
        rw[hz] at this;simp only[rg,wd] at this;subst this;exact⟨_,_,h,λK q=>d1 rfl (.alloc T' t v rfl hz hel) hf (by simp only[aj.off];rw[hk];rfl) hc q⟩
     .cases h
    .cases h
 .split at h
  .rename_i hl;split at h;·cases h
   .rename_i hc;split at h
    .rename_i d hd;rw[BC] at h;exact⟨_,_,h,λK q=>d0 rfl (qS hb hd) (za4 hc) q⟩
    .cases h
  .rename_i hl;split at h;·cases h
   .rename_i hc;split at h
    .rename_i d hd;rw[BC] at h;exact⟨_,_,h,λK q=>d7 rfl (λσ' _=>qS hb ((OM hl).trans hd)) (za4 hc) q⟩
    .cases h
def Wu(b:TB)(bar:List Nat):Nat->Nat->List Oper->(Nat->PV)->(Nat->Option Row)->Option (List Oper × (Nat->PV) × (Nat->Option Row))
 | 0,_,l,env,σ=>some (l,env,σ)
 | _+1,_,[],_,_=>none
 | n+1,i,o::l,env,σ=>evD b bar i o env σ λenv σ=>Wu b bar n (i+1) l env σ
section
variable{P:Program}{ops:Array Oper}{bar:List Nat}{K:St->Prop}
theorem dG{b:TB}(hb:b.Ok P):∀(n:Nat) {i:Nat} {l l':List Oper} {env env':Nat->PV} {σ σ':Nat->Option Row},Wu b bar n i l env σ=some (l',env',σ')->Ex P ops bar true (i+n) l' ⟨env',σ'⟩ K->Ex P ops bar true i l ⟨env,σ⟩ K
 | 0,i,l,l',env,env',σ,σ',h,k=>by cases h;exact k
 | n+1,i,[],l',env,env',σ,σ',h,k=>by cases h
 | n+1,i,o::l,l',env,env',σ,σ',h,k=>by
  obtain⟨env1,σ1,c,e⟩:=OA (P:=P) (ops:=ops) (os:=l) hb h;refine e _ (dG hb n c ?_);rw[t8,zb8 1 n];exact k
end
end Go.Pw
namespace Go.Pw
open Go.RowKit Go.Sh
variable {α:Type}{s:St}{R:List (Nat × Row)}
theorem x8{P:Program}{f:FuncId}{fn:Func}{c:Code}{ds:List PV}{x:Option α}{d:α->PV}(hf:P.funcs[f]? = some fn)(hb:fn.body=some c)
  (h:∀r,x=some r->∀ {w0:WG P} {imm0},aA { P:=P,N:=fn.ntmps,ρ:=none,w0:=w0.1,imm0:=imm0,tab:=w0.2 } c (PC { P:=P,N:=fn.ntmps,ρ:=none,w0:=w0.1,imm0:=imm0,tab:=w0.2 } (Fin P fn (d r))) ⟨O6 ds,λ_=>none⟩)
  (hn:ds.length<=fn.ntmps:=by exact nl)(e:fn.ntmps<=1000000:=by exact nl)(hm:fn.name ≠ "runtime.NumGoroutine" := by decide):PO P f ds x d:=pO hf (λr q w i=>@h r q w i) hb hn e hm
theorem Jd{P:Program}{f:FuncId}{fn:Func}{c:Code}{ds:List PV}{x:Option α}{d:α->Row}(hf:P.funcs[f]? = some fn)(hb:fn.body=some c)
  (h:∀r,x=some r->∀ {w0:WG P} {imm0},aA { P:=P,N:=fn.ntmps,ρ:=none,w0:=w0.1,imm0:=imm0,tab:=w0.2 } c (PC { P:=P,N:=fn.ntmps,ρ:=none,w0:=w0.1,imm0:=imm0,tab:=w0.2 } (NM P fn (d r))) ⟨O6 ds,λ_=>none⟩)
  (hn:ds.length<=fn.ntmps:=by exact nl)(e:fn.ntmps<=1000000:=by exact nl)(hm:fn.name ≠ "runtime.NumGoroutine" := by decide):PG P f ds x d:=pON hf (λr q w i=>@h r q w i) hb hn e hm
abbrev M4(a b:Nat):Nat->Nat:=λl=>if l=a then b else l
abbrev w7(f:α->PV)(xs:List α)(z:Nat):Row:=⟨List.map f xs,(List.map f xs).length,true,z,true⟩
theorem E2(ls:List Nat){L:List (Nat × PV)}(h:Ag R ⟨s.env,V1 s.σ ls⟩ L:=by (repeat refine⟨J,J,J,?_⟩);exact tr)
  (k:Ar R ⟨s.env,V1 s.σ ls⟩ R:=by (repeat first | refine⟨rS,?_⟩ | refine⟨R2 J J J (λq=>nomatch q) J J J J,?_⟩);exact tr):Wk s (St.of L R):=Wk.trans (HH s ls) (W h k)
theorem y8(ls:List Nat)(π:Nat->Nat){L:List (Nat × PV)}(h:AgP π R ⟨s.env,V1 s.σ ls⟩ L:=by (repeat refine⟨J,J,J,?_⟩);exact tr)
  (k:XH π R ⟨s.env,V1 s.σ ls⟩ R:=by (repeat first | refine⟨rN,?_⟩ | refine⟨R2 J J J (λq=>nomatch q) J J J J,?_⟩);exact tr)
  (hi:(R.all λp=>R.all λq=>π p.1 != π q.1||p.1==q.1)=true:=by rfl):Wk s (St.of L R):=Wk.trans (HH s ls) (WP π h k hi)
theorem bP(t l z a:Nat){L:List (Nat × PV)}(ht:s.env t = .lst true []:=by rfl)(hl:s.σ l=none:=by rfl)
  (h:AgP (M4 a l) R ⟨A3 s.env t (.sl l),A3 s.σ l (some ⟨[],0,true,z,true⟩)⟩ L:=by (repeat refine⟨J,J,J,?_⟩);exact tr)
  (k:XH (M4 a l) R ⟨A3 s.env t (.sl l),A3 s.σ l (some ⟨[],0,true,z,true⟩)⟩ R:=by (repeat first | refine⟨rN,?_⟩ | refine⟨R2 J J J (λq=>nomatch q) J J J J,?_⟩);exact tr)
  (hi:(R.all λp=>R.all λq=>M4 a l p.1 != M4 a l q.1||p.1==q.1)=true:=by rfl)(c:l<MB:=by exact zP rfl):Wk s (St.of L R):=Wk.trans (iO ht hl c) (WP (M4 a l) h k hi)
end Go.Pw
namespace Go.Sh
structure TI where
 t:Nat
 xs:List Int
def JX(e:TI)(A k:Nat):Int:=if e.t=A then e.xs.getD k 0 else 0
end Go.Sh
namespace Go.Pw
open Go.RowKit Go.Sh
def YF(n:Nat->Nat)(e:TI):Value:=.iface e.t (.agg ((List.range (n e.t)).map λk=>Value.int .i64 (e.xs.getD k 0)).toArray)
def ifE(n:Nat->Nat)(e:TI):PV:=.abs λ_ _ v=>v=YF n e
def ud(P:Program)(T:TypeId):Bool:=match P.underlying T with | some (.interface _)=>false | some _=>true | none=>false
theorem IQ{P:Program}{T:TypeId}(h:ud P T=true):∃u,P.underlying T=some u/\∀m,u ≠ .interface m:=by
 unfold ud at h;cases hu:P.underlying T with
 | none=>rw[hu] at h;cases h
 | some u=>
  rw[hu] at h;refine⟨u,rfl,λm e=>?_⟩;subst e;cases h
theorem a1m{w:World}{imm:Nat->Nat->Prop}{n:Nat->Nat}{e:TI}:Rd0 w imm (YF n e) (ifE n e):=.abs _ _ rfl λ_ _ _=>rfl
theorem Nr{w:World}{imm:Nat->Nat->Prop}{v:Value}{xs:List Int}(h:Rd0 w imm v (.agg (xs.map (PV.int .i64)))):v = .agg (xs.map (Value.int .i64)).toArray:=by
 cases h with
 | agg vs cs hsc hn h=>
  congr 1;apply Array.ext;·simpa using hn
  .intro i c e;have hx:i<xs.length:=by simpa using e
   have:=h i vs[i] (.int .i64 xs[i]) (zq c) (by simp[hx]);generalize hv:vs[i]=v at this;cases this;rw[List.getElem_toArray,zx]
theorem KO(xs:List Int)(n:Nat)(h:xs.length=n):(List.range n).map (λk=>xs.getD k 0)=xs:=by
 subst h;apply zb2 Ψ;intro i e c;simp[c]
theorem ZF{w:World}{imm:Nat->Nat->Prop}{m:Nat}{f:Nat->Int}{b:Bool}:Rd0 w imm (.tuple #[.agg ((List.range m).map λk=>Value.int .i64 (f k)).toArray,.bool b]) (.tup [.agg ((List.range m).map λk=>.int .i64 (f k)),.bool b]):=by
 refine .tup _ _ rfl λi v c hv hc=>?_;match i with
 | 0=>
  simp at hv hc;subst hv hc;refine .agg _ _ (by simp[PV.sc]) Ψ λi v c hv hc=>?_;have hi:i<m:=by
   have:=C6 hc;simpa using this
  simp[hi] at hv hc;subst hv hc;exact .int _ _
 | 1=>
  simp at hv hc;subst hv hc;exact .bool _
 | _+2=>simp at hc
theorem KS{P:Program}{σ:Nat->Option Row}{ρ:Operand->PV}{dst:Option Tmp}{n:Nat->Nat}{T:TypeId}{x:Operand}{xs:List Int}(hx:ρ x = .agg (xs.map (PV.int .i64)))(hT:ud P T=true)(hn:xs.length=n T)(hc:(PV.agg (xs.map (PV.int .i64))).lM=true:=by rfl) :
  G4 P σ ρ dst (.makeInterface T x) (ifE n ⟨T,xs⟩) .none:=by
 refine .pureV _ _ (λ_=>nofun) (λ_ _=>nofun) λo w imm μ p6 ev ho hr=>?_;have c:=hr x Ωa;rw[hx] at c;have j:=Nr (c.lM hc);have e:YF n ⟨T,xs⟩ = .iface T (ev x):=by
  rw[j];show Value.iface T (.agg ((List.range (n T)).map λk=>Value.int .i64 (xs.getD k 0)).toArray)=_;rw[show (List.range (n T)).map (λk=>Value.int .i64 (xs.getD k 0))=((List.range (n T)).map λk=>xs.getD k 0).map (Value.int .i64) by rw[za5];rfl,KO xs _ hn]
 refine⟨YF n ⟨T,xs⟩,?_,.cl a1m⟩;rw[e];obtain⟨u,hu,hi⟩:=IQ hT;simp only[execOp,ho,Instr.makeInterface,zy,zR hu,zm];rfl
theorem GI{P:Program}{σ:Nat->Option Row}{ρ:Operand->PV}{dst:Option Tmp}{n:Nat->Nat}{xT A:TypeId}{x:Operand}{e:TI}{zv:Value}{m:Nat}{d:PV}(hx:ρ x=ifE n e)(hA:ud P A=true)(hz:A6 P A=some zv)
  (hzv:zv = .agg (List.replicate m (.int .i64 0)).toArray)(hm:n A=m)(hd:PV.tup [.agg ((List.range m).map λk=>.int .i64 (JX e A k)),.bool (decide (e.t=A))]=d):G4 P σ ρ dst (.typeAssert x xT A true) d .none:=by
 subst hd;refine .pureV _ _ (λ_=>nofun) (λ_ _=>nofun) λo w imm μ p6 ev ho hr=>?_;have c:=hr x Ωa;rw[hx] at c;have j:ev x=YF n e:=by
  have:=c.lM rfl;generalize ev x=v at this;unfold ifE at this;cases this with
  | abs R v ho h=>exact h w imm (.refl _ _)
 obtain⟨u,hu,hi⟩:=IQ hA;refine⟨.tuple #[.agg ((List.range m).map λk=>Value.int .i64 (JX e A k)).toArray,.bool (decide (e.t=A))],?_,.cl ZF⟩;by_cases q:e.t=A
 .have p:((List.range (n A)).map λk=>Value.int .i64 (e.xs.getD k 0))=(List.range m).map λk=>Value.int .i64 (JX e A k):=by
   rw[hm];refine zt λk _=>?_;unfold JX;rw[zb q]
  simp only[execOp,ho,Instr.typeAssert,zy,zR hu,zm,j,YF,q,ut,q9,p];rfl
 .have p:List.replicate m (Value.int .i64 0)=(List.range m).map λk=>Value.int .i64 (JX e A k):=by
   apply zb2 Ψ;intro i c j;simp[JX,q]
  simp only[execOp,ho,Instr.typeAssert,zy,zR hu,zm,j,YF,q,pu,ut,zc1,nQ hz,hzv,p];rfl
section
variable{X:Ctx}{g:Gh}{st:St}{a:Act}{w:World}{n:Nat}{K:Act->World->Prop}{Q:Exit->Act->World->Prop}{ρ:Option Nat}{P:Program}
theorem Wa{o:Oper}{T:TypeId}{x y:Operand}{l i f:Nat}(h:u7 X g st a w)(ho:o.op = .store T x y)(e:∀t,o.dst=some t->t<X.N)(hx:B8 st.env x = .ptr l i f)(hy:B8 st.env y = .agg [])(hs:u5 X.P T=some 0)
  (C:∀B p w',u7 X B ⟨Z7 st.env o.dst (.tup []),st.σ⟩ p w'->K p w'):o.wpIn (FX ρ) n X.P a w K Q:=by
 have m:=h.eval x;have q:=h.eval y;rw[hx] at m;rw[hy] at q;have A:a.eval y = .agg #[]:=Nr (xs:=[]) (q.lM rfl);have j:∃b,a.eval x = .pointer (some b):=by
  generalize a.eval x=u at m;cases m with
  | ptr l i f b s hp hA=>exact⟨_,rfl⟩
  | cl h=>cases h
 obtain⟨b,j⟩:=j;refine xR (w':=w) (λc=>Ωg) ?_ (C g _ _ (h.put e (.cl (.tup #[] [] rfl λi v c _ hc=>Ωj))));have hr:(Instr.storeAt T (a.eval x) (a.eval y)).run X.P w = .ok () w:=by
  rw[j,A];simp only[Instr.storeAt,Instr.sureAddr,zy,zau,zm,storeVar,J0 hs,Value.cells];rfl
 obtain⟨dst,op,ty,pos,after,guard⟩:=o;simp only at ho;subst ho;exact Nz hr
end
section
variable{X:Ctx}{ops:Array Oper}{i:Nat}{os:List Oper}{K:Ctx->St->Prop}{env:Nat->PV}{σ:Nat->Option Row}{ty:TypeId}{pos:String}{after:Array Edge}{gd:Option (Nat × Bool)}
theorem a0g{x y:Operand}{T:TypeId}{l j f:Nat}(hw:C9 ops env ⟨none,.store T x y,ty,pos,after,gd⟩=some true)(hx:B8 env x = .ptr l j f)(hy:B8 env y = .agg [])(hs:u5 X.P T=some 0)
  (k:Sq X ops (i+1) os K ⟨env,σ⟩):Sq X ops i (⟨none,.store T x y,ty,pos,after,gd⟩::os) K ⟨env,σ⟩:=U9 λho=>by
 intro hd n g a w next Qo c m;unfold wpOpIn;rw[ho];simp only;rw[zb (ax c hw)];exact Wa (ρ:=X.ρ) c rfl (Q5 hd ho) hx hy hs λp o w' e=>m X _ _ _ _ e ⟨⟨rfl,rfl⟩,rfl⟩ k
end
end Go.Pw
namespace Go.Pw
open Go.RowKit Go.Sh
section
variable{P:Program}{ops:Array Oper}{bar:List Nat}{i:Nat}{os:List Oper}{K:St->Prop}{env:Nat->PV}{σ:Nat->Option Row}{ty:TypeId}{pos:String}{after:Array Edge}{gd:Option (Nat × Bool)}
theorem Il{α:Type}{f:α->PV}{xs:List α}{e v:α}{m:Int}{x y:Operand}{T:TypeId}{l q n:Nat}{d:PV}{cs:List PV}{opn:Bool}{z:Nat}(h:ix xs m=some e)(hw:C9 ops env ⟨none,.store T x y,ty,pos,after,gd⟩=some true)(hx:B8 env x = .ptr l m.toNat q)(hy:B8 env y=d\/(B8 env y).w1=d)(hs:u5 P T=some n)(k:Ex P ops bar true (i+1) os ⟨env,A3 σ l (some ⟨(xs.set m.toNat v).map f,0,opn,z,true⟩)⟩ K)(hl:σ l=some ⟨xs.map f,0,opn,z,true⟩:=by rfl)
  (hc:d.cells=cs:=by rfl)(he:d.el=true:=by rfl)(hp:0<n:=by exact zP rfl)(hn:cs.length=n:=by rfl)(hf:q+n<=(f e).cells.length:=by exact zP rfl)(hsc:cs.all PV.sc=true:=by rfl)(c:K8 (f e) q cs=f v:=by rfl)(hcl:cs.all PV.Z1=true:=by rfl)
  (ht:(kept bar).contains l=false:=by rfl)(o:cls bar i (.store T x y)=4:=by rfl) :
  Ex P ops bar true i (⟨none,.store T x y,ty,pos,after,gd⟩::os) ⟨env,σ⟩ K:=by
 have j:=(xB f h).2;refine XF hw (wc hx hy hc he hs hp hn) hl j (zU _) (by rw[hn];exact hf) hsc (cl:=true) (by rw[hcl];rfl) c rfl (λ_=>?_) (λ_=>by rw[o];trivial) ?_;·simp only[aj.off,ht];rfl
 .rw[<-zca];exact k
end
end Go.Pw
namespace Go.Pw
open Go.RowKit Go.Sh
theorem Hq{P:Program}(w:World)(t tn ty e:TypeId)(i:TypeInfo)(z:Value)(k kn:IntKind)(A:Option Addr)(ht:P.underlying t=some (.slice e))(u:P.underlying tn=some (.int kn))(hi:P.info? e=some i)(hz:i.zero=some z)
  (n:Nat)(h0:0<n)(hs:0<i.size)(h63:(n:Int)<=9223372036854775807)(y:n*i.bytes<=281474976710656) :
  (Builtin.append_ #[t,tn] ty #[.slice A 0 0,.int k n]).run P w =
   .ok (.slice (some ⟨w.heap.size,0,none⟩) n (grownCap w n 0 e)) (w.drew.alloc (.cells (Builtin.zeroCells z.cells n++Builtin.zeroCells z.cells (grownCap w n 0 e-n)) e)):=by
 cases A with
 | none=>exact Lib.run_append_nil_zeros w t tn ty e i z k kn ht u hi hz n h0 hs h63 y
 | some a=>
  have hn:n≠0:=Δ
  have hw:IntKind.i64.wrap (n:Int)=n:=by rw[IntKind.wrap_i64];omega
  have o:¬(9223372036854775807<(n:Int)):=Δ
  have c:¬(281474976710656<Builtin.nextslicecap n 0*i.bytes):=by rw[nextslicecap_zero h0];omega
  have m:¬(281474976710656<(n:Int)*(i.bytes:Int)):=by
   rw[<-Int.natCast_mul];omega
  have p:¬((n:Int)<0):=Δ
  have B:¬(n*i.size=0):=Nat.mul_ne_zero hn Δ;have h:∀w',(Builtin.firstCells i.size 0 (.slice (some a) 0 0)).run P w' = .ok #[] w':=λw'=>run_firstCells_some (w:=w') i.size 0 a 0 0 [] Ψ (λj v q=>by simp at q);simp[Builtin.append_,zR ht,zR u,sizeOf,typeInfo,zeroValue,hi,hz,asInt,asIntOf,hw,hn,p,B,o,c,m,Question.forced,h,newRow,grownCap]
theorem OS{w:World}{imm:Nat->Nat->Prop}{v:Value}(hel:((PV.fH v).w1).el=true):v.cells.size=((PV.fH v).w1).cells.length/\∀(j:Nat) u y,v.cells[j]? = some u->((PV.fH v).w1).cells[j]? = some y->Rd0 w imm u y:=by
 have h:Rd w imm (λ_=>⟨none,0,0,0⟩) (λ_=>False) v (PV.fH v).w1:=.cl (ux w imm v).w1;obtain⟨hs,q⟩:=h.cells hel;have o:∀f cap,(PV.fH v).w1 ≠ .fn f cap:=λf cap e=>by
  have:PV.fH v = .fn f cap:=by cases hd:PV.fH v <;> rw[hd] at e <;> first | exact e | cases e
  unfold PV.fH at this;split at this;·split at this <;> cases this
  .split at this <;> cases this
  .unfold PV.DJ at this;split at this <;> cases this
 have m:((PV.fH v).w1).lM=true:=by
  have p:=GJ v;cases hd:PV.fH v <;> rw[hd] at p <;> first | exact p | skip
  simp only[PV.w1,PV.lM,zg,zn] at p |-;rintro y ⟨c,hc,rfl⟩;have:=p c hc;cases c <;> first | rfl | exact this
 refine⟨hs,λj u y hu hy=>(q j u y hu hy).Z1 (by
  have hm:=zk hy;revert o m hel hm
  generalize (PV.fH v).w1=d;intro hel o m hm;cases d;case agg cs=>exact zg.1 (show cs.all PV.Z1=true from m) y hm
  case fn f cap=>exact absurd rfl (o _ _)
  case tup cs=>cases hel
  case junk=>cases hel
  all_goals first | (obtain rfl:=zu.1 hm;first | exact m | rfl) | exact absurd hm zct)⟩
section
variable{X:Ctx}{ops:Array Oper}{i:Nat}{os:List Oper}{K:Ctx->St->Prop}{env:Nat->PV}{σ:Nat->Option Row}{ty:TypeId}{pos:String}{after:Array Edge}{gd:Option (Nat × Bool)}{t:Tmp}
theorem NK{x:Operand}{T E:TypeId}{xs:List PV}(hw:C9 ops env ⟨some t,.call { callee:=.builtin .cap,args:=#[x],argTypes:=#[T] },ty,pos,after,gd⟩=some true)(hx:B8 env x = .lst true xs)(hE:B7 X.P T=some E)
  (k:Sq X ops (i+1) os K ⟨A3 env t (.int .i64 xs.length),σ⟩):Sq X ops i (⟨some t,.call { callee:=.builtin .cap,args:=#[x],argTypes:=#[T] },ty,pos,after,gd⟩::os) K ⟨env,σ⟩:=U9 λho=>nA ho hw (λc q=>Γ) λg a w hs=>by
 have hv:=hs.eval x;rw[show B8 (St.env ⟨env,σ⟩) x=_ from hx] at hv;obtain⟨A,c,p,u,e,m,j,_⟩:=hv.gp;have hc:=j rfl;subst hc;obtain⟨cs,hc⟩:=bp (a:=a) (o:=⟨some t,.call { callee:=.builtin .cap,args:=#[x],argTypes:=#[T] },ty,pos,after,gd⟩) rfl;refine⟨.int .i64 xs.length,w,g,_,_,?_,hs,.cl (.int _ _),k⟩;rw[hc];refine N8 ?_;simp[Builtin.cap_,e,zR (P5 hE),goInt]
theorem XG{α:Type}{f:α->PV}{zs:List α}{z0:α}{x y:Operand}{T Tn E:TypeId}{b z:Nat}{kn k':IntKind}{n:Int}{v:Value}(hw:C9 ops env ⟨some t,.call { callee:=.builtin .append,args:=#[x,y],argTypes:=#[T,Tn] },ty,pos,after,gd⟩=some true)
  (h:mk b n z0=some zs)(hl:σ t=none)(H:t<MB)(hx:B8 env x = .lst true [])(hy:B8 env y = .int k' n)(hE:B7 X.P T=some E)(G:X.P.underlying Tn=some (.int kn))(hz:u5 X.P E=some z)(hz0:0<z)
  (hv:A6 X.P E=some v)(hb:J7 X.P E=some b)(hdv:(PV.fH v).w1=f z0)(hel:(PV.fH v).w1.el=true)(hvz:(PV.fH v).w1.cells.length=z)
  (k:Sq X ops (i+1) os K ⟨A3 env t (.sl t),A3 σ t (some ⟨zs.map f,0,true,z,true⟩)⟩):Sq X ops i (⟨some t,.call { callee:=.builtin .append,args:=#[x,y],argTypes:=#[T,Tn] },ty,pos,after,gd⟩::os) K ⟨env,σ⟩:=U9 λho=>nA ho hw (λc q=>Γ) λg a w hs=>by
 obtain⟨h0,h48,h63,rfl⟩:=Na h;rw[zcj,<-hdv] at k;obtain⟨ti,hi,rfl,rfl,hiz⟩:=Gp hz hb hv;have hxv:=hs.eval x;rw[show B8 (St.env ⟨env,σ⟩) x=_ from hx] at hxv;obtain⟨A,c,z',u,e,h1,h2,h3,h4,h5,h6⟩:=hxv.gp;have hc:=h2 rfl;subst hc;have e2:a.eval y = .int k' n:=by have:=hs.eval y;rw[show B8 (St.env ⟨env,σ⟩) y=_ from hy] at this;exact this.U3
 obtain⟨m,rfl⟩:∃m:Nat,n=m:=⟨n.toNat,Δ⟩;have hbb:m*ti.bytes<=281474976710656:=by rw[<-Int.natCast_mul] at h48;rw[Nat.mul_comm];omega
 rw[zN] at k;rcases zah m with hm | hm
 .subst hm;have hr:(Builtin.append_ #[T,Tn] ty #[.slice A 0 0,.int k' ((0:Nat):Int)]).run X.P w = .ok (.slice A 0 0) w:=by
   have hw0:IntKind.i64.wrap 0=0:=by rw[IntKind.wrap_i64];omega
   cases A <;> simp[Builtin.append_,zR (P5 hE),zR G,sizeOf,typeInfo,hi,asInt,asIntOf,hw0,storeCells]
  have o:=hs.wH (l:=t) (A:=A) (xs:=[]) (z:=ti.size) H hl (λ_=>rfl) (λx hx=>by cases hx) (λq=>absurd q Ψ) true;refine⟨.slice A 0 0,w,_,_,.sl t,?_,o,?_,k⟩;·exact aY rfl (by rw[e,e2];exact hr)
  .have:=Rd.sl (w:=w) (imm:=g.imm) (μ:=A3 g.μ t ⟨A,0,0,ti.size⟩) (p6:=St.p6 ⟨env,A3 σ t (some ⟨[],0,true,ti.size,true⟩)⟩) t ⟨_,p7 _ _ _⟩;rw[p7] at this;exact this
 .have hr:=Hq (P:=X.P) w T Tn ty E ti v k' kn A (P5 hE) G hi hiz m hm hz0 Δ hbb;obtain⟨hsz0,p⟩:=OS (w:=w) (imm:=g.imm) hel;have B:v.cells.size=ti.size:=by rw[hsz0,hvz]
  have hC:=jj w m 0 E;have o:=hs.drew.xY (l:=t) (els:=List.replicate m ((PV.fH v).w1)) (T:=E) (C:=grownCap w m 0 E) (z:=ti.size) (opn:=true) (cl:=true) (Builtin.zeroCells v.cells m++Builtin.zeroCells v.cells (grownCap w m 0 E-m)) H hl (Ω hC)
   (by
    simp only[zbt,size_zeroCells,B];rw[<-wt];congr 1;omega)
   (λx hx=>by rw[zbi] at hx;rw[hx.2];exact⟨hel,hvz⟩) (λi' x j y u hx hy hu=>by
    have hx':=zk hx;rw[zbi] at hx';obtain⟨_,rfl⟩:=hx';have hj:=PV.G5 hy;rw[hvz] at hj;have N:i'*ti.size+j<m*ti.size:=by
     have:=C6 hx;simp at this;have:(i'+1)*ti.size<=m*ti.size:=zp _ Δ;rw[wt,zbc] at this;omega
    have hu2:v.cells[j]? = some u:=by
     rw[qr (by rw[size_zeroCells,B];exact N)] at hu;simp only[Builtin.zeroCells,zch,Array.getElem?_range,B,N,ut,rg,wd,(QO (i:=i') hj).2] at hu;rw[<-hu,getElem!_pos v.cells j Δ];exact zq Δ
    have hx0:Ext w g.imm w.drew g.imm:=⟨λ_ _ q=>q,λ_ _ _=>rfl,λ_ _ _ _ q _=>q⟩;exact⟨.cl ((p j u y hu2 hy).mono hx0),λ_=>(p j u y hu2 hy).mono hx0⟩)
  refine⟨_,_,_,_,.sl t,aY rfl (by rw[e,e2];exact hr),o,?_,k⟩;have:=Rd.sl (w:=w.drew.alloc (.cells (Builtin.zeroCells v.cells m++Builtin.zeroCells v.cells (grownCap w m 0 E-m)) E)) (imm:=g.imm) (μ:=A3 g.μ t ⟨some ⟨w.heap.size,0,none⟩,(List.replicate m ((PV.fH v).w1)).length,grownCap w m 0 E,ti.size⟩)
   (p6:=St.p6 ⟨env,A3 σ t (some ⟨List.replicate m ((PV.fH v).w1),0,true,ti.size,true⟩)⟩) t ⟨_,p7 _ _ _⟩
  rw[p7] at this;simpa using this
theorem Tz{x hi:Operand}{T E:TypeId}{s z:Nat}{k':IntKind}{els:List PV}(L:List (Nat × PV))(R:List (Nat × Row))(hw:C9 ops env ⟨some t,.slice T x none (some hi) none,ty,pos,after,gd⟩=some true)
  (H:Ag R ⟨env,σ⟩ L)(h:Ar R ⟨env,σ⟩ R)(hsR:R.lookup s=none)(hl:R.lookup t=none)(hlm:t<MB)
  (hx:B8 env x = .sl s)(u:σ s=some ⟨els,0,true,z,true⟩)(hh:B8 env hi = .int k' 0)(hE:B7 X.P T=some E)(hz:u5 X.P E=some z)
  (k:Sq X ops (i+1) os K ⟨A3 (MA L) t (.sl t),A3 (rowsOf R) t (some ⟨[],0,true,z,true⟩)⟩) :
  Sq X ops i (⟨some t,.slice T x none (some hi) none,ty,pos,after,gd⟩::os) K ⟨env,σ⟩:=U9 λho=>nA ho hw (λc q=>Γ) λg a w hs=>by
 have hv:=hs.eval x;rw[show B8 (St.env ⟨env,σ⟩) x=_ from hx] at hv;obtain⟨hp,e⟩:=hv.fC;have B:=hs.rows s _ u;have hD:u7 X g (St.of L R) a w:=LG L R H h X g a w hs;have hmz:(g.μ s).z=z:=B.z;have hr:=px (P:=X.P) hs (A:=(g.μ s).A) (lo:=none) (hi:=some hi) (mx:=none) (len:=(g.μ s).n) (cap:=(g.μ s).C) (i:=0) (j:=0) (k:=(g.μ s).C) hE hz rfl ⟨k',hh⟩ rfl (λq=>Γ) (zC _) (zU _) (zC _);have G:(if (g.μ s).C=0 then (g.μ s).A else (g.μ s).A.map (·.add (0*z)))=(g.μ s).A:=by
  split;·rfl
  .cases (g.μ s).A with
   | none=>rfl
   | some b=>simp[Addr.add]
 rw[G] at hr;have hother:∀l' r' b o',(St.of L R).σ l'=some r'->M1 (g.μ l') r' b o'->¬M1 (g.μ s) ⟨els,0,true,z,true⟩ b o':=by
  intro l' r' b o' q p kk;have N:l'≠s:=λe=>by rw[e] at q;have:(St.of L R).σ s=none:=hsR;rw[this] at q;cases q
  obtain⟨r1,k1,k2⟩:=Sr hs h q;exact hs.disj l' s r1 _ N k1 u b o' (k2 b o' p) kk
 have o:∀b o',M1 ⟨(g.μ s).A,0,(g.μ s).C,z⟩ ⟨[],0,true,z,true⟩ b o'->M1 (g.μ s) ⟨els,0,true,z,true⟩ b o':=by
  rintro b o' ⟨s',hA,q1,q2⟩;simp only[ut,zcu,zbf] at q1 q2;exact⟨s',hA,Ω q1,by simp only[ut];rw[hmz];exact q2⟩
 have hN:=hD.row (l:=t) (m:=⟨(g.μ s).A,0,(g.μ s).C,z⟩) (r:=⟨[],0,true,z,true⟩) hlm hl
  ⟨rfl,rfl,zU _,zC _,λe he=>(by cases he),B.nil,B.spot,λi x j y hx hy=>(by simp at hx),λb o' q=>B.own b o' (o b o' q)⟩
  (λl' r' b o' q p kk=>hother l' r' b o' q p (o b o' kk)) (λb o' q kk=>hs.ownimm s _ b o' u (o b o' q) kk)
 refine⟨.slice (g.μ s).A (0-0) ((g.μ s).C-0),w,_,_,.sl t,?_,hN,?_,k⟩
 .simp only[execOp,e];exact N8 hr
 .exact gO (l:=t) (m:=⟨(g.μ s).A,0,(g.μ s).C,z⟩) ⟨_,p7 _ _ _⟩ (p7 _ _ _)
end
theorem Tx{α:Type}{f:α->PV}{s:St}{t l z:Nat}{xs:List α}(ht:s.env t = .lst true (xs.map f))(hl:s.σ l=none)(hz:∀v,(f v).cells.length=z)(o:l<MB:=by exact zP rfl) :
  Wk s ⟨A3 s.env t (.sl l),A3 s.σ l (some ⟨xs.map f,(xs.map f).length,true,z,true⟩)⟩:=λX g a w h=>by
 have hv:=h.env t;rw[ht] at hv;obtain⟨A,c,z',u,e,h1,C,G,p,H,N⟩:=hv.gp;have hc:=C rfl;subst hc;have hs:=h.wH (l:=l) (A:=A) (xs:=xs.map f) (z:=z) o hl G (λx hx=>⟨(p x hx).1,by obtain⟨v,_,rfl⟩:=zn.1 hx;exact hz v⟩) (λh0=>by
  obtain⟨b,s',hA,B⟩:=H h0;refine⟨b,s',hA,λi x j y hx hy=>?_⟩;have hmx:=zk hx;have hzz:z'=z:=by
   rw[<-(p x hmx).2];obtain⟨v,_,rfl⟩:=zn.1 hmx;exact hz v
  subst hzz;exact⟨_,(B i x j y hx hy).1,(B i x j y hx hy).2,N i x j y hx hy⟩) true
 refine⟨_,⟨hs.size,λi=>?_,hs.rows,hs.disj,hs.ownimm,hs.immlt,hs.immsub,hs.immsup,hs.below,hs.marks,hs.obs,hs.big,hs.maps⟩⟩;by_cases q:i=t
 .subst q;rw[show (St.mk (A3 s.env i (.sl l)) (A3 s.σ l (some ⟨xs.map f,(xs.map f).length,true,z,true⟩))).env i = .sl l from p7 _ _ _,e];exact gO (m:=⟨A,(xs.map f).length,(xs.map f).length,z⟩) ⟨_,p7 _ _ _⟩ (p7 _ _ _)
 .rw[show (St.mk (A3 s.env t (.sl l)) (A3 s.σ l (some ⟨xs.map f,(xs.map f).length,true,z,true⟩))).env i=s.env i from o0 _ _ q];exact hs.env i
end Go.Pw
