/-
 Several texts of one kind, one behind the other.
-/
import Derived.Test.YtppgkaeodaaidaaGreatDoorU3tPwB
import Derived.Laws.StructEq
import Derived.RangeFuncIn
import Derived.RangeFuncRecord
import Derived.MapKept
import Derived.Carry
import Derived.Lib.AppendZeros
set_option linter.unusedVariables false
set_option linter.unusedSimpArgs false
set_option linter.unusedSectionVars false
namespace Go.Pw
open Go.RowKit
def a4a(top env:Nat→PV):Nat→PV:=λi=>if i<1000000 then top i else env (i-1000000)
def a14(env:Nat→PV):Nat→PV:=λi=>env (i+1000000)
def a0U(ds:List Deferred):List (Nat × Obj):=ds.filterMap λd=>match d.target with
 | .collected r=>some (r,.deferred (some []))
 | _=>none
theorem a0V(rs:List Nat):a0U (rs.map λr=>{ target:=.collected r,args:=#[] })=rs.map λr=>(r,Obj.deferred (some [])):=by
 induction rs with
 | nil=>rfl
 | cons r rs ih=>
  unfold a0U at ih ⊢;rw[List.map_cons,List.filterMap_cons];simp only[ih,List.map_cons]
def Ctx.over(X:Ctx)(a:Act)(N:Nat)(ρ:Option Nat):Ctx:={ X with N:=N,ρ:=ρ,ext:=λi=>X.val a (i-1000000),obs:=a0U a.defers++X.obs,calm:=true }
section
variable{X:Ctx}{g:Gh}{st:St}{a:Act}{w:World}
theorem r7.push(h:r7 X g st a w){N:Nat}(ρ:Option Nat){tmps:Array Value}{top:Nat→PV}(hN:N≤1000000)(hs:tmps.size=N)(ht:∀i,i<1000000→Rd w g.imm g.μ st.j2 (tmps.getD i undef) (top i)) :
  r7 (X.over a N ρ) g ⟨a4a top st.env,st.σ⟩ { tmps:=tmps,defers:=[] } w:=by
 refine⟨hs,λi=>?_,h.rows,h.disj,h.ownimm,h.immlt,h.immsub,h.immsup,h.below,⟨[],List.nodup_nil,rfl,λr hr=>by cases hr⟩,λp hp=>?_,⟨hN,λ_=>rfl⟩,h.maps⟩
 ·by_cases q:i<1000000
  ·have e1:(X.over a N ρ).val { tmps:=tmps,defers:=[] } i=tmps.getD i undef:=if_pos q;have e2:a4a top st.env i=top i:=if_pos q;show Rd w g.imm g.μ st.j2 _ (a4a top st.env i);rw[e1,e2];exact ht i q
  ·have e1:(X.over a N ρ).val { tmps:=tmps,defers:=[] } i=X.val a (i-1000000):=by
    unfold Ctx.over;rw[Ctx.val,if_neg q]
   have e2:a4a top st.env i=st.env (i-1000000):=if_neg q;show Rd w g.imm g.μ st.j2 _ (a4a top st.env i);rw[e1,e2];exact h.env _
 ·rcases List.mem_append.1 hp with hp | hp
  ·obtain⟨rs,_,h2,h3⟩:=h.marks;rw[h2,a0V] at hp;obtain⟨r,hr,rfl⟩:=List.mem_map.1 hp;exact⟨(h3 r hr).1,rfl,rfl⟩
  ·exact h.obs p hp
theorem r7.pop{N:Nat}{ρ:Option Nat}{st':St}{a':Act}{w0:World}(h0:r7 X g st a w0){g':Gh}(h:r7 (X.over a N ρ) g' st' a' w):r7 X g' ⟨a14 st'.env,st'.σ⟩ a w:=by
 refine⟨h0.size,λi=>?_,h.rows,h.disj,h.ownimm,h.immlt,h.immsub,h.immsup,h.below,?_,λp hp=>h.obs p (List.mem_append_right _ hp),h0.big,h.maps⟩
 ·have:=h.env (i+1000000);have e1:(X.over a N ρ).val a' (i+1000000)=X.val a i:=by
   have q:¬i+1000000<1000000:=by omega
   unfold Ctx.over;rw[Ctx.val,if_neg q];simp only[Nat.add_sub_cancel]
  rw[e1] at this;exact this
 ·obtain⟨rs,h1,h2,h3⟩:=h0.marks;refine⟨rs,h1,h2,λr hr=>⟨?_,(h3 r hr).2⟩⟩;refine (h.obs (r,.deferred (some [])) (List.mem_append_left _ ?_)).1;rw[h2,a0V];exact List.mem_map.2 ⟨r,hr,rfl⟩
theorem r7.b4A(h:r7 X g st a w){l:Nat}{o o':Obj}(hl:w.heap[l]? = some o)(hc:o.isCells=false)(hm:O3 o=false)(hc':o'.isCells=false)(hb:X.w0.heap.size≤l)(hmk:o ≠ .deferred (some [])){obs:List (Nat × Obj)}
  (hobs:∀p∈obs,(p=(l,o'))∨(p.1≠l∧p∈X.obs))(hmo:O3 o'=false:=by rfl):r7 { X with obs:=obs } g st a (w.putObj l o'):=by
 have hlt:l<w.heap.size:=(Array.getElem?_eq_some_iff.1 hl).1;have hcell:∀b i,(w.putObj l o').cell? ⟨b,i,none⟩=w.cell? ⟨b,i,none⟩:=by
  intro b i;by_cases e:b=l
  ·subst e;have none_of:∀(W:World) (o:Obj),W.heap[b]? = some o→o.isCells=false→W.cell? ⟨b,i,none⟩=none:=by
    intro W o hW ho;cases hq:W.cell? ⟨b,i,none⟩ with
    | none=>rfl
    | some u=>
     obtain⟨o2,k1,k2⟩:=cells_of_cell hq;rw[show W.heap[b]? = some o2 from k1] at hW;cases hW;rw[k2] at ho;cases ho
   rw[none_of _ _ (World.putObj_heap_same hlt) hc',none_of _ _ hl hc]
  ·exact World.cell?_of_block (by rw[World.putObj_heap_other e])
 have hfro:∀b i,(w.putObj l o').frozen? ⟨b,i,none⟩=w.frozen? ⟨b,i,none⟩∨b=l:=by
  intro b i;by_cases e:b=l
  ·exact .inr e
  ·left;unfold World.frozen?;simp only;rw[World.putObj_heap_other e]
 have hx:Ext w g.imm (w.putObj l o') g.imm:=⟨λ_ _ q=>q,λb i _=>hcell b i,λb i x _ hx hmx=>by
  by_cases e:b=l
  ·subst e;rw[hl] at hx;cases hx;rw[hm] at hmx;cases hmx
  ·rw[World.putObj_heap_other e];exact hx⟩
 refine⟨h.size,λi=>(h.env i).mono hx λ_ q=>⟨q,rfl⟩,λl' r q=>(h.rows l' r q).mono hx (λ_ k=>⟨k,rfl⟩) λb i ho=>⟨hcell b i,?_⟩,h.disj,h.ownimm,λb i q=>?_,h.immsub,h.immsup,?_,?_,λp hp=>?_,h.big,h.maps.move hx (λ_ _ _ q _ _=>q) λk x q1 q2=>?_⟩
 ·rcases hfro b i with e | e
  ·exact e
  ·subst e;obtain⟨_,h2,_⟩:=(h.rows l' r q).own b i ho;obtain⟨u,hu⟩:=Option.isSome_iff_exists.1 h2;obtain⟨o2,k1,k2⟩:=cells_of_cell hu;simp only at k1;rw[hl] at k1;cases k1;rw[hc] at k2;cases k2
 ·have:=h.immlt b i q;simpa[World.putObj] using this
 ·exact h.below.trans ⟨⟨rfl,rfl,rfl,by simp[World.putObj],λk hk=>World.putObj_heap_other (by omega)⟩,Nat.le_refl _⟩
 ·obtain⟨rs,h1,h2,h3⟩:=h.marks;refine⟨rs,h1,h2,λr hr=>⟨?_,(h3 r hr).2⟩⟩;rw[World.putObj_heap_other (λe=>by subst e;have h4:=(h3 _ hr).1;rw[hl] at h4;exact hmk (Option.some.inj h4))];exact (h3 r hr).1
 ·rcases hobs p hp with rfl | ⟨k1,k2⟩
  ·exact⟨World.putObj_heap_same hlt,hc',hmo⟩
  ·rw[World.putObj_heap_other k1];exact h.obs p k2
 ·by_cases e:k=l
  ·subst e;rw[hl] at q1;cases q1;rw[hm] at q2;cases q2
  ·rw[World.putObj_heap_other e];exact q1
theorem r7.mark(h:r7 X g st a w){D:Nat}(hD:w.heap[D]? = some (.deferred (some [])))(hb:X.w0.heap.size≤D)(hn:∀d∈a.defers,d.target ≠ .collected D)(hc:X.calm=false) :
  r7 X g st { a with defers:={ target:=.collected D,args:=#[] }::a.defers } w:=by
 obtain⟨rs,h1,h2,h3⟩:=h.marks;refine⟨h.size,h.env,h.rows,h.disj,h.ownimm,h.immlt,h.immsub,h.immsup,h.below,⟨D::rs,?_,by rw[h2];rfl,λr hr=>?_⟩,h.obs,⟨h.big.1,λq=>(by rw[hc] at q;cases q)⟩,h.maps⟩
 ·refine List.nodup_cons.2 ⟨λhr=>?_,h1⟩;exact hn { target:=.collected D,args:=#[] } (by rw[h2];exact List.mem_map.2 ⟨D,hr,rfl⟩) rfl
 ·rcases List.mem_cons.1 hr with rfl | hr
  ·exact⟨hD,hb⟩
  ·exact h3 r hr
theorem r7.b2N(h:r7 X g st a w):∀d∈a.defers,∀r,d.target = .collected r→r<w.heap.size:=by
 obtain⟨rs,_,h2,h3⟩:=h.marks;intro d hd r hr;rw[h2] at hd;obtain⟨k,hk,rfl⟩:=List.mem_map.1 hd;cases hr;exact (Array.getElem?_eq_some_iff.1 (h3 _ hk).1).1
theorem r7.watch(h:r7 X g st a w){l:Nat}{o:Obj}(hl:w.heap[l]? = some o)(hc:o.isCells=false)(hm:O3 o=false:=by rfl):r7 { X with obs:=(l,o)::X.obs } g st a w:=
 ⟨h.size,h.env,h.rows,h.disj,h.ownimm,h.immlt,h.immsub,h.immsup,h.below,h.marks,λp hp=>by
  rcases List.mem_cons.1 hp with rfl | hp
  ·exact⟨hl,hc,hm⟩
  ·exact h.obs p hp,h.big,h.maps⟩
end
end Go.Pw
namespace Go.Pw
open Go.RowKit Go.Sh
section
variable{X:Ctx}{Q:PX→Ctx→St→Prop}{st:St}{ops:Array Oper}{i:Nat}{os:List Oper}{K:Ctx→St→Prop}{env:Nat→PV}{σ:Nat→Option Row}{ty:TypeId}{pos:String}{after:Array Edge}{gd:Option (Nat × Bool)}{op:Op}{t:Tmp}{d:PV}
theorem y0(hw:s9 ops env ⟨some t,op,ty,pos,after,gd⟩=some true)(h:u6 X.P σ (p6 env) (some t) op d .none)(k:Sq X ops (i+1) os K ⟨o0 env t d,σ⟩):Sq X ops i (⟨some t,op,ty,pos,after,gd⟩::os) K ⟨env,σ⟩:=
 a2D (.run d .none hw h ⟨y6.refl _,w9.refl _⟩ trivial (λ_=>rfl) (λq=>nomatch q)) k
theorem y1{r:Row}(hw:s9 ops env ⟨some t,op,ty,pos,after,gd⟩=some true)(h:u6 X.P σ (p6 env) (some t) op d (.new t r))(hf:σ t=none)(k:Sq X ops (i+1) os K ⟨o0 env t d,o0 σ t (some r)⟩):Sq X ops i (⟨some t,op,ty,pos,after,gd⟩::os) K ⟨env,σ⟩:=
 a2D (.run d (.new t r) hw h ⟨y6.refl _,w9.refl _⟩ hf (λq=>nomatch q) (λq=>nomatch q)) k
theorem R1(hw:s9 ops env ⟨some t,op,ty,pos,after,gd⟩=some false)(k:Sq X ops (i+1) os K ⟨o0 env t (.tup []),σ⟩):Sq X ops i (⟨some t,op,ty,pos,after,gd⟩::os) K ⟨env,σ⟩:=a2D (.skip hw) k
theorem Stp.ex{P:Program}{bar:List Nat}{o:Oper}{s:St}{K:St→Prop}(h:Stp P ops true (kept bar) (cls bar i o.op) o st s)(k:Ex P ops bar true (i+1) os s K):Ex P ops bar true i (o::os) st K:=⟨s,h,k⟩
theorem k9{g:Bool}(hw:s9 ops env ⟨some t,op,ty,pos,after,gd⟩=some g)(h:g=true→u6 X.P σ (p6 env) (some t) op d .none)(k:Sq X ops (i+1) os K ⟨o0 env t (cond g d (.tup [])),σ⟩):Sq X ops i (⟨some t,op,ty,pos,after,gd⟩::os) K ⟨env,σ⟩:=by
 cases g;·exact R1 hw k
 ·exact y0 hw (h rfl) k
theorem b3e{ops:Array Oper}{env:Nat→PV}{o:Oper}{j u:Nat}{want g b:Bool}(hg:o.guard=some (j,want))(hd:(ops[j]?).bind (·.dst)=some u)(h:p6 env (.tmp u)=cond g (.bool b) (.tup [])):s9 ops env o=some (g&&(b==want)):=by
 unfold s9;rw[hg];simp only[hd,h];cases g <;> rfl
theorem a3u{x y:Operand}{T:TypeId}{l q n:Nat}{x0 x' d:PV}{cs:List PV}{opn:Bool}{z:Nat}{cl cl':Bool}(hw:s9 ops env ⟨none,.store T x y,ty,pos,after,gd⟩=some true)(hx:p6 env x = .ptr l 0 q)(hy:p6 env y=d∨(p6 env y).w1=d)(hs:l5 X.P T=some n)(k:Sq X ops (i+1) os K ⟨env,o0 σ l (some ⟨[x'],0,opn,z,cl'⟩)⟩)(hl:σ l=some ⟨[x0],0,opn,z,cl⟩:=by rfl)
  (hc:d.cells=cs:=by rfl)(he:d.el=true:=by rfl)(hp:0<n:=by exact Nat.le_of_ble_eq_true rfl)(hn:cs.length=n:=by rfl)(hf:q+n≤x0.cells.length:=by exact Nat.le_of_ble_eq_true rfl)(hsc:cs.all PV.sc=true:=by rfl)(hset:R7 x0 q cs=x':=by rfl)(hcl:(cl&&cs.all PV.K1)=cl':=by rfl) :
  Sq X ops i (⟨none,.store T x y,ty,pos,after,gd⟩::os) K ⟨env,σ⟩:=by
 subst hset;subst hcl;have h:u6 X.P σ (p6 env) none (.store T x y) (.tup []) (.sto l 0 q cs):=a3D hx hy hc he hs hp hn;have:=a2D (X:=X) (K:=K) (os:=os) (i:=i) (ops:=ops) (st:=⟨env,σ⟩) (.run (.tup []) (.sto l 0 q cs) hw h ⟨y6.refl _,w9.refl _⟩ ⟨_,x0,hl,rfl,Nat.le_refl _,by rw[hn];exact hf,hsc⟩ (λq=>nomatch q) (λq=>nomatch q));refine this ?_;simp only[G8.apply,hl];exact k
theorem a4h{α:Type}{f:α→PV}{xs:List α}{e v:α}{m:Int}{x y:Operand}{T:TypeId}{l q n:Nat}{d:PV}{cs:List PV}{opn:Bool}{z:Nat}(h:ix xs m=some e)(hw:s9 ops env ⟨none,.store T x y,ty,pos,after,gd⟩=some true)(hx:p6 env x = .ptr l m.toNat q)(hy:p6 env y=d∨(p6 env y).w1=d)(hs:l5 X.P T=some n)(k:Sq X ops (i+1) os K ⟨env,o0 σ l (some ⟨(xs.set m.toNat v).map f,0,opn,z,true⟩)⟩)(hl:σ l=some ⟨xs.map f,0,opn,z,true⟩:=by rfl)
  (hc:d.cells=cs:=by rfl)(he:d.el=true:=by rfl)(hp:0<n:=by exact Nat.le_of_ble_eq_true rfl)(hn:cs.length=n:=by rfl)(hf:q+n≤(f e).cells.length:=by exact Nat.le_of_ble_eq_true rfl)(hsc:cs.all PV.sc=true:=by rfl)(hset:R7 (f e) q cs=f v:=by rfl)(hcl:cs.all PV.K1=true:=by rfl) :
  Sq X ops i (⟨none,.store T x y,ty,pos,after,gd⟩::os) K ⟨env,σ⟩:=by
 have h0:u6 X.P σ (p6 env) none (.store T x y) (.tup []) (.sto l m.toNat q cs):=a3D hx hy hc he hs hp hn;have hx0:=(a1c f h).2;have:=a2D (X:=X) (K:=K) (os:=os) (i:=i) (ops:=ops) (st:=⟨env,σ⟩) (.run (.tup []) (.sto l m.toNat q cs) hw h0 ⟨y6.refl _,w9.refl _⟩ ⟨_,f e,hl,hx0,Nat.zero_le _,by rw[hn];exact hf,hsc⟩ (λq=>nomatch q) (λq=>nomatch q));refine this ?_;simp only[G8.apply,hl,hx0,hset,hcl,Bool.true_and];rw[←List.map_set];exact k
theorem N9{s:Nat}{r q:Row}(hw:s9 ops env ⟨some t,op,ty,pos,after,gd⟩=some true)(h:u6 X.P σ (p6 env) (some t) op d (.app s t r))(hf:σ t=none)(hq:σ s=some q)(ho:q.opn=true)
  (k:Sq X ops (i+1) os K ⟨o0 env t d,o0 (o0 σ s (some ⟨q.els,q.els.length,false,q.z,q.cl⟩)) t (some r)⟩):Sq X ops i (⟨some t,op,ty,pos,after,gd⟩::os) K ⟨env,σ⟩:=by
 have:=a2D (X:=X) (K:=K) (os:=os) (i:=i) (ops:=ops) (st:=⟨env,σ⟩) (.run d (.app s t r) hw h ⟨y6.refl _,w9.refl _⟩ ⟨hf,q,hq,ho⟩ (λq=>nomatch q) (λq=>nomatch q));refine this ?_;simp only[G8.apply,hq];exact k
theorem yc(hw:s9 ops env ⟨some t,op,ty,pos,after,gd⟩=some true)(h:u6 X.P σ (p6 env) (some t) op d (.frz []))(k:Sq X ops (i+1) os K ⟨o0 env t d,σ⟩):Sq X ops i (⟨some t,op,ty,pos,after,gd⟩::os) K ⟨env,σ⟩:=
 a2D (.run d (.frz []) hw h ⟨y6.refl _,w9.refl _⟩ trivial (λq=>nomatch q) (λq=>nomatch q)) k
theorem ycL{ls:List Nat}{σ':Nat→Option Row}(hw:s9 ops env ⟨some t,op,ty,pos,after,gd⟩=some true)(h:u6 X.P σ (p6 env) (some t) op d (.frz ls))(hs:F6 σ ls=σ')(k:Sq X ops (i+1) os K ⟨o0 env t d,σ'⟩):Sq X ops i (⟨some t,op,ty,pos,after,gd⟩::os) K ⟨env,σ⟩:=by
 subst hs;exact a2D (.run d (.frz ls) hw h ⟨y6.refl _,w9.refl _⟩ trivial (λq=>nomatch q) (λq=>nomatch q)) k
theorem ycN{ls:List Nat}{σ':Nat→Option Row}{r:Row}(hw:s9 ops env ⟨some t,op,ty,pos,after,gd⟩=some true)(h:u6 X.P σ (p6 env) (some t) op d (.frzN ls t r))(hf:σ t=none)(hs:F6 σ ls=σ')(k:Sq X ops (i+1) os K ⟨o0 env t d,o0 σ' t (some r)⟩):Sq X ops i (⟨some t,op,ty,pos,after,gd⟩::os) K ⟨env,σ⟩:=by
 subst hs;exact a2D (.run d (.frzN ls t r) hw h ⟨y6.refl _,w9.refl _⟩ hf (λq=>nomatch q) (λq=>nomatch q)) k
theorem b6I{l:Nat}{ys es:List PV}{q:Row}(hw:s9 ops env ⟨some t,op,ty,pos,after,gd⟩=some true)(h:u6 X.P σ (p6 env) (some t) op d (.cpy l ys))(hl:σ l=some q)(hlo:q.lo=0)(hn:ys.length≤q.els.length)(he:ys++q.els.drop ys.length=es)
  (k:Sq X ops (i+1) os K ⟨o0 env t d,o0 σ l (some ⟨es,q.lo,q.opn,q.z,q.cl⟩)⟩):Sq X ops i (⟨some t,op,ty,pos,after,gd⟩::os) K ⟨env,σ⟩:=by
 have:=a2D (X:=X) (K:=K) (os:=os) (i:=i) (ops:=ops) (st:=⟨env,σ⟩) (.run d (.cpy l ys) hw h ⟨y6.refl _,w9.refl _⟩ ⟨q,hl,hlo,hn⟩ (λq=>nomatch q) (λq=>nomatch q));refine this ?_;subst he;simp only[G8.apply,hl];exact k
end
section
variable{P:Program}{ops:Array Oper}{bar:List Nat}{i:Nat}{os:List Oper}{K:St→Prop}{env:Nat→PV}{σ:Nat→Option Row}{ty:TypeId}{pos:String}{after:Array Edge}{gd:Option (Nat × Bool)}{op:Op}{t:Tmp}{d:PV}
theorem R3(h:K ⟨env,σ⟩):Ex P ops bar true i [] ⟨env,σ⟩ K:=h
theorem d7(hw:s9 ops env ⟨some t,op,ty,pos,after,gd⟩=some true)(h:∀σ',w9 (kept bar) σ σ'→u6 P σ' (p6 env) (some t) op d .none)(h7:cls bar i op=7)(k:Ex P ops bar true (i+1) os ⟨o0 env t d,σ⟩ K) :
  Ex P ops bar true i (⟨some t,op,ty,pos,after,gd⟩::os) ⟨env,σ⟩ K:=x7 hw h h7 k
theorem d0(hw:s9 ops env ⟨some t,op,ty,pos,after,gd⟩=some true)(h:u6 P σ (p6 env) (some t) op d .none)(hc:cls bar i op=0)(k:Ex P ops bar true (i+1) os ⟨o0 env t d,σ⟩ K) :
  Ex P ops bar true i (⟨some t,op,ty,pos,after,gd⟩::os) ⟨env,σ⟩ K:=x0 hw h (λ_=>by rw[hc];rfl) k
theorem d2(hw:s9 ops env ⟨some t,op,ty,pos,after,gd⟩=some true)(h:u6 P σ (p6 env) (some t) op d .none)(hc:cls bar i op=2)(k:Ex P ops bar true (i+1) os ⟨o0 env t d,σ⟩ K) :
  Ex P ops bar true i (⟨some t,op,ty,pos,after,gd⟩::os) ⟨env,σ⟩ K:=x0 hw h (λ_=>by rw[hc];exact .inl rfl) k
theorem d2f(hw:s9 ops env ⟨some t,op,ty,pos,after,gd⟩=some true)(h:u6 P σ (p6 env) (some t) op d (.frz []))(hc:cls bar i op=2)(k:Ex P ops bar true (i+1) os ⟨o0 env t d,σ⟩ K) :
  Ex P ops bar true i (⟨some t,op,ty,pos,after,gd⟩::os) ⟨env,σ⟩ K:=b6H hw h (λ_=>by rw[hc];exact .inr (.inl rfl)) k
theorem d5f{ls:List Nat}{σ':Nat→Option Row}(hw:s9 ops env ⟨some t,op,ty,pos,after,gd⟩=some true)(h:u6 P σ (p6 env) (some t) op d (.frz ls))(hs:F6 σ ls=σ')(hc:cls bar i op=5)(k:Ex P ops bar true (i+1) os ⟨o0 env t d,σ'⟩ K) :
  Ex P ops bar true i (⟨some t,op,ty,pos,after,gd⟩::os) ⟨env,σ⟩ K:=by
 subst hs;exact⟨_,.run d (.frz ls) hw h ⟨y6.refl _,w9.refl _⟩ trivial (λ_=>rfl) (λ_=>by rw[hc];exact .inr (.inl ⟨_,rfl⟩)),k⟩
theorem d1{r:Row}(hw:s9 ops env ⟨some t,op,ty,pos,after,gd⟩=some true)(h:u6 P σ (p6 env) (some t) op d (.new t r))(hf:σ t=none)(ht:(G8.new t r).off (kept bar)=true)(hc:cls bar i op=1)(k:Ex P ops bar true (i+1) os ⟨o0 env t d,o0 σ t (some r)⟩ K) :
  Ex P ops bar true i (⟨some t,op,ty,pos,after,gd⟩::os) ⟨env,σ⟩ K:=x1 hw h hf (λ_=>ht) (λ_=>by rw[hc];exact .inr ⟨_,_,rfl⟩) k
theorem d1n(hw:s9 ops env ⟨some t,op,ty,pos,after,gd⟩=some true)(h:u6 P σ (p6 env) (some t) op d .none)(hc:cls bar i op=1)(k:Ex P ops bar true (i+1) os ⟨o0 env t d,σ⟩ K) :
  Ex P ops bar true i (⟨some t,op,ty,pos,after,gd⟩::os) ⟨env,σ⟩ K:=x0 hw h (λ_=>by rw[hc];exact .inl rfl) k
theorem d3{r:Row}(hw:s9 ops env ⟨some t,op,ty,pos,after,gd⟩=some true)(h:u6 P σ (p6 env) (some t) op d (.new t r))(hf:σ t=none)(ht:(G8.new t r).off (kept bar)=true)(hc:cls bar i op=3)(k:Ex P ops bar true (i+1) os ⟨o0 env t d,o0 σ t (some r)⟩ K) :
  Ex P ops bar true i (⟨some t,op,ty,pos,after,gd⟩::os) ⟨env,σ⟩ K:=x1 hw h hf (λ_=>ht) (λ_=>by rw[hc];exact .inl ⟨_,_,rfl⟩) k
theorem d3a{s:Nat}{r q:Row}(hw:s9 ops env ⟨some t,op,ty,pos,after,gd⟩=some true)(h:u6 P σ (p6 env) (some t) op d (.app s t r))(hf:σ t=none)(hq:σ s=some q)(ho:q.opn=true)(ht:(G8.app s t r).off (kept bar)=true)(hc:cls bar i op=3)
  (k:Ex P ops bar true (i+1) os ⟨o0 env t d,o0 (o0 σ s (some ⟨q.els,q.els.length,false,q.z,q.cl⟩)) t (some r)⟩ K) :
  Ex P ops bar true i (⟨some t,op,ty,pos,after,gd⟩::os) ⟨env,σ⟩ K:=b6G hw h hf hq ho (λ_=>ht) (λ_=>by rw[hc];exact .inr ⟨_,_,_,rfl⟩) k
theorem a4V{g:Bool}(hw:s9 ops env ⟨some t,op,ty,pos,after,gd⟩=some g)(h:g=true→∀σ',w9 (kept bar) σ σ'→u6 P σ' (p6 env) (some t) op d .none)(hc:cls bar i op=7)(k:Ex P ops bar true (i+1) os ⟨o0 env t (cond g d (.tup [])),σ⟩ K) :
  Ex P ops bar true i (⟨some t,op,ty,pos,after,gd⟩::os) ⟨env,σ⟩ K:=by
 cases g;·exact b3h hw k
 ·exact x7 hw (h rfl) hc k
theorem a8s{g:Bool}(hw:s9 ops env ⟨some t,op,ty,pos,after,gd⟩=some g)(h:g=true→u6 P σ (p6 env) (some t) op d .none)(hc:cls bar i op=0)(k:Ex P ops bar true (i+1) os ⟨o0 env t (cond g d (.tup [])),σ⟩ K) :
  Ex P ops bar true i (⟨some t,op,ty,pos,after,gd⟩::os) ⟨env,σ⟩ K:=by
 cases g;·exact b3h hw k
 ·exact d0 hw (h rfl) hc k
theorem x4{x y:Operand}{T:TypeId}{l q n:Nat}{x0 x' d:PV}{cs:List PV}{opn:Bool}{z:Nat}{cl cl':Bool}(hw:s9 ops env ⟨none,.store T x y,ty,pos,after,gd⟩=some true)(hx:p6 env x = .ptr l 0 q)(hy:p6 env y=d∨(p6 env y).w1=d)(hs:l5 P T=some n)(k:Ex P ops bar true (i+1) os ⟨env,o0 σ l (some ⟨[x'],0,opn,z,cl'⟩)⟩ K)(hl:σ l=some ⟨[x0],0,opn,z,cl⟩:=by rfl)
  (hc:d.cells=cs:=by rfl)(he:d.el=true:=by rfl)(hp:0<n:=by exact Nat.le_of_ble_eq_true rfl)(hn:cs.length=n:=by rfl)(hf:q+n≤x0.cells.length:=by exact Nat.le_of_ble_eq_true rfl)(hsc:cs.all PV.sc=true:=by rfl)(hset:R7 x0 q cs=x':=by rfl)(hcl:(cl&&cs.all PV.K1)=cl':=by rfl)(ht:(G8.sto l 0 q cs).off (kept bar)=true:=by rfl)(h4:cls bar i (.store T x y)=4:=by rfl):Ex P ops bar true i (⟨none,.store T x y,ty,pos,after,gd⟩::os) ⟨env,σ⟩ K:=
 b44 hw (a3D hx hy hc he hs hp hn) hl rfl (Nat.le_refl _) (by rw[hn];exact hf) hsc hcl hset rfl (λ_=>ht) (λ_=>by rw[h4];trivial) k
end
section
variable{X:Ctx}{Q:PX→Ctx→St→Prop}{st:St}
theorem b5S{J R:Type}{x y:Code}{κ:J→Option R}{r:R}(F:J→St)(hk:∀j,κ j=some r→J1 X y Q (F j))(hx:J1 X x (a0Y (λX' s=>X'=X∧∃j,κ j=some r∧Wk s (F j)) Q) st):J1 X (.seq x y) Q st:=
 c5 (hx.mono λe X' s q=>by
  cases e <;> simp only[a0Y] at q ⊢ <;> first | exact q | (
   obtain⟨rfl,j,h1,h2⟩:=q;exact R6 h2 (hk j h1)))
theorem b6B{S E:Type}{f:S→Option (S ⊕ E)}{s0:S}{e:E}{c:Code}(I:S→Ctx→St→Prop)(h:lp f s0=some e)(h0:∃st1,Wk st st1∧I s0 X st1)(hX:∀s X1 s1,I s X1 s1→X1.P=X.P∧X1.ρ=X.ρ)
  (hr:∀s X1 s1,I s X1 s1→∀x,f s=some x→(∀e',x = .inr e'→e'=e)→J1 X1 c (a0Y (λX' s'=>∃s2,x = .inl s2∧∃s'',Wk s' s''∧I s2 X' s'') Q) s1):J1 X (.loop c) Q st:=by
 intro n g a w hs;let J:Nat→Act→World→Prop:=λm a w=>∃s X1 g1 s1,r7 X1 g1 s1 a w∧I s X1 s1∧lpN f m s=some e
 have least:∀a w,∃k,(∃m,J m a w)→J k a w∧∀m,J m a w→k≤m:=by
  intro a w;by_cases q:∃m,J m a w
  ·obtain⟨k,h1,h2⟩:=exists_least q;exact⟨k,λ_=>⟨h1,h2⟩⟩
  ·exact⟨0,λh=>absurd h q⟩
 obtain⟨st1,hw1,hi1⟩:=h0;obtain⟨g1,hs1⟩:=hw1 X g a w hs;refine wpIn_loop (λa w=>∃m,J m a w) (λa w=>Classical.choose (least a w)) ⟨_,s0,X,g1,st1,hs1,hi1,by rw[←b4S];exact h⟩ ?_;rintro a w hI;obtain⟨⟨s,X1,g1,s1,k1,k2,k3⟩,_⟩:=Classical.choose_spec (least a w) hI;generalize hm:Classical.choose (least a w)=m at k3 ⊢;obtain⟨hP,hρ⟩:=hX s X1 s1 k2;cases m with
 | zero=>rw[b0b] at k3;cases k3
 | succ m=>
  rw[b0a] at k3;cases hf:f s with
  | none=>rw[hf] at k3;cases k3
  | some x=>
   have hx:∀e',x = .inr e'→e'=e:=λe' q=>by
    rw[hf,q] at k3;exact Option.some.inj k3
   have:=hr s X1 s1 k2 x hf hx n g1 a w k1;rw[hP,hρ] at this;refine wpIn_mono this λex a' w' q=>?_;rw[a5d ⟨hP,hρ⟩] at q;cases ex <;> simp only[lift,a0Y,Exit.then] at q ⊢ <;> first | exact q | skip
   obtain⟨X',g',st',h1,_,s2,hx2,s'',hw2,h2⟩:=q;obtain⟨g2,h1'⟩:=hw2 X' g' a' w' h1;have hJ:J m a' w':=⟨s2,X',g2,s'',h1',h2,by rw[hf,hx2] at k3;exact k3⟩;have hI':∃m,J m a' w':=⟨m,hJ⟩;exact⟨hI',Nat.lt_succ_of_le ((Classical.choose_spec (least a' w') hI').2 m hJ)⟩
theorem b5V{S E:Type}{f:S→Option (S ⊕ E)}{s0:S}{e:E}{c:Code}(F:S→St)(h:lp f s0=some e)(h0:Wk st (F s0))
  (hr:∀s x,f s=some x→(∀e',x = .inr e'→e'=e)→J1 X c (a0Y (λX' s'=>X'=X∧∃s2,x = .inl s2∧Wk s' (F s2)) Q) (F s)):J1 X (.loop c) Q st:=
 b6B (λs X1 s1=>X1=X∧s1=F s) h ⟨_,h0,rfl,rfl⟩ (λs X1 s1 q=>by rw[q.1];exact⟨rfl,rfl⟩) (by
  rintro s _ _ ⟨rfl,rfl⟩ x hf hx;refine (hr s x hf hx).mono λex X' s' q=>?_;cases ex <;> simp only[a0Y] at q ⊢ <;> first | exact q | (
   obtain⟨h1,s2,h2,h3⟩:=q;exact⟨s2,h2,_,h3,h1,rfl⟩))
end
end Go.Pw
namespace Go.Pw
open Go.RowKit Go.Sh
abbrev Ls{α:Type}(f:α→PV)(l:List α):PV:=.lst false (l.map f)
abbrev _root_.Go.Sh.A4.Pc(x:A4):List PV:=[.int .i64 x.a,.int .i64 x.b,.int .i64 x.c,.int .i64 x.d]
abbrev _root_.Go.Sh.A4.Pv(x:A4):PV:=.agg x.Pc
theorem A4.get{x:A4}{i v:Int}(h:A4.ix x i=some v):x.Pc[0+i.toNat*1]? = some (.int .i64 v):=by
 have:=(a1c (PV.int .i64) h).2;rw[Nat.zero_add,Nat.mul_one];exact this
section
variable{P:Program}{σ:Nat→Option Row}{ρ:Operand→PV}{dst:Option Tmp}
theorem b5Q{c a b:Operand}{x:Bool}(hc:ρ c = .bool x)(ha:ρ a = .bool true)(hg:(x==false)=false):u6 P σ ρ dst (.pick c a b) (.bool true) .none:=by
 have:=u6.pick (P:=P) (σ:=σ) (dst:=dst) c a b x hc;rw[ha] at this;cases x;·cases hg
 ·exact this
theorem a3E{c a b:Operand}{x:Bool}(hc:ρ c = .bool x)(hb:ρ b = .bool false)(hg:(x==true)=false):u6 P σ ρ dst (.pick c a b) (.bool false) .none:=by
 have:=u6.pick (P:=P) (σ:=σ) (dst:=dst) c a b x hc;rw[hb] at this;cases x;·exact this
 ·cases hg
theorem a13{c a b:Operand}{x y:Bool}(hc:ρ c = .bool x)(ha:ρ a = .bool y)(hg:(x==true)=true):u6 P σ ρ dst (.pick c a b) (.bool y) .none:=by
 have:=u6.pick (P:=P) (σ:=σ) (dst:=dst) c a b x hc;rw[ha] at this;cases x;·cases hg
 ·exact this
theorem b5R{c a b:Operand}{x y:Bool}(hc:ρ c = .bool x)(hb:ρ b = .bool y)(hg:(x==false)=true):u6 P σ ρ dst (.pick c a b) (.bool y) .none:=by
 have:=u6.pick (P:=P) (σ:=σ) (dst:=dst) c a b x hc;rw[hb] at this;cases x;·exact this
 ·cases hg
theorem b4V{x:A4}{i v:Int}{a b:Operand}{T E:TypeId}{l:Nat}{k:IntKind}(h:A4.ix x i=some v)(hx:ρ a = .ptr l 0 0)(hy:ρ b = .int k i)(hE:a9x P T=some (4,E))(hz:l5 P E=some 1) :
  u6 P σ ρ dst (.indexAddr T a b) (.ptr l 0 (0+i.toNat*1)) .none:=by
 obtain⟨h0,h1⟩:=a7q h;have hlt:=(List.getElem?_eq_some_iff.1 h1).1;simp only[A4.l,List.length_cons,List.length_nil] at hlt;exact .idxA T a b l 0 0 k i 4 E 1 hx hy h0 (by omega) hE hz
def a8w(P:Program)(t:TypeId):Option Nat:=match P.underlying t with
 | some .bool=>some 0
 | some (.int _)=>some 1
 | some .string=>some 2
 | _=>none
def a7g(P:Program):Nat→List Field→Option (List Nat)
 | _,[]=>some []
 | i,f::fs=>if f.name ≠ "_" ∧ f.offset=i∧B8 P f.type=some false then match a8w P f.type,a7g P (i+1) fs with
  | some k,some ks=>some (k::ks)
  | _,_=>none
  else none
def a5B(P:Program)(t:TypeId):Option (List Nat):=
 if P.eqGuardType P.depth t=true then none else match P.underlying t with
  | some (.struct fs)=>if P.stoodInHeld t=true then none else a7g P 0 fs.toList
  | some (.array n e)=>if n=4∧B8 P e=some false∧l5 P e=some 1 then (a8w P e).map λk=>[k,k,k,k] else none
  | _=>none
def eqC:Nat→PV→PV→Option Bool
 | 0,.bool a,.bool b=>some (a==b)
 | 1,.int k a,.int k' b=>if k=k' then some (a==b) else none
 | 2,.str a,.str b=>some (a.toList==b.toList)
 | _,_,_=>none
def a73:List Nat→List PV→List PV→Option Bool
 | [],[],[]=>some true
 | k::ks,x::xs,y::ys=>match eqC k x y,a73 ks xs ys with
  | some a,some b=>some (a&&b)
  | _,_=>none
 | _,_,_=>none
section
variable{w:World}{imm:Nat→Nat→Prop}{μ:Nat→A6}{j2:Nat→Prop}
theorem a5k{t:TypeId}{d k:Nat}{v u:Value}{x y:PV}{r:Bool}(ht:a8w P t=some k)(hv:Rd w imm μ j2 v x)(hu:Rd w imm μ j2 u y)(h:eqC k x y=some r):(Op.equalIn (d+1) t v u).run P w = .ok r w:=by
 unfold a8w at ht;unfold eqC at h;split at h
 ·cases h;rw[hv.P0,hu.P0];refine run_equalIn_bool' w d t _ _ ?_;split at ht <;> first | assumption | (cases ht;done)
 ·split at h
  ·rename_i q;cases h;subst q;rw[hv.A9,hu.A9];split at ht <;> first | (exact run_equalIn_int w d t _ _ _ _ (by assumption)) | (cases ht;done)
  ·cases h
 ·cases h;rw[hv.V1,hu.V1];refine run_equalIn_string w d t _ _ ?_;split at ht <;> first | assumption | (cases ht;done)
 ·cases h
theorem a5l{d:Nat}{vs us:Array Value}:∀(fs:List Field) (i:Nat) (ks:List Nat) (xs ys:List PV) (r:Bool),a7g P i fs=some ks→a73 ks xs ys=some r →
  (∀(j:Nat) x,xs[j]? = some x→∃v,vs[i+j]? = some v∧Rd w imm μ j2 v x)→(∀(j:Nat) y,ys[j]? = some y→∃v,us[i+j]? = some v∧Rd w imm μ j2 v y) →
  (Op.eqFields (d+1) vs us fs).run P w = .ok r w
 | [],i,ks,xs,ys,r,hk,h,hx,hy=>by
  cases hk;cases xs <;> cases ys <;> simp only[a73] at h <;> first | (cases h;done) | skip
  cases h;rfl
 | f::fs,i,ks,xs,ys,r,hk,h,hx,hy=>by
  simp only[a7g] at hk;split at hk;rotate_left
  ·cases hk
  rename_i q;obtain⟨q1,q2,q3⟩:=q;cases h1:a8w P f.type with
  | none=>rw[h1] at hk;cases hk
  | some k=>
   cases h2:a7g P (i+1) fs with
   | none=>rw[h1,h2] at hk;cases hk
   | some ks'=>
    rw[h1,h2] at hk;cases hk;cases xs <;> cases ys <;> simp only[a73] at h <;> first | (cases h;done) | skip
    rename_i x xs y ys;cases ha:eqC k x y with
    | none=>rw[ha] at h;cases h
    | some a=>
     cases hb:a73 ks' xs ys with
     | none=>rw[ha,hb] at h;cases h
     | some b=>
      rw[ha,hb] at h;cases h;obtain⟨v,hv1,hv2⟩:=hx 0 x rfl;obtain⟨u,hu1,hu2⟩:=hy 0 y rfl;rw[Nat.add_zero,←q2] at hv1 hu1;have hr:=a5k (d:=d) h1 hv2 hu2 ha;have ih:=a5l (d:=d) fs (i+1) ks' xs ys b h2 hb (λj x' q=>by have:=hx (j+1) x' (by simpa using q);rwa [show i+(j+1)=i+1+j by omega] at this)
       (λj x' q=>by have:=hy (j+1) x' (by simpa using q);rwa [show i+(j+1)=i+1+j by omega] at this)
      simp only[Op.eqFields,if_pos q1,Sem.run_bind,a3G q3 hv1,a3G q3 hu1,Result.andThen_ok,hr];cases a;·rfl
      ·simp only[Bool.not_true,Bool.false_eq_true,if_false,Bool.true_and];exact ih
end
theorem a9R:∀(ks:List Nat) (xs ys:List PV) (r:Bool),a73 ks xs ys=some r→xs.length=ks.length∧ys.length=ks.length
 | [],[],[],_,_=>⟨rfl,rfl⟩
 | k::ks,x::xs,y::ys,r,h=>by
  simp only[a73] at h;split at h
  ·rename_i a b q1 q2;have:=a9R ks xs ys b q2;simp[this.1,this.2]
  ·cases h
 | [],_::_,_,_,h=>by cases h
 | [],[],_::_,_,h=>by cases h
 | _::_,[],_,_,h=>by cases h
 | _::_,_::_,[],_,h=>by cases h
theorem four{α:Type}{xs:List α}(h:xs.length=4):∃a b c d,xs = [a,b,c,d]:=by
 rcases xs with _ | ⟨a,_ | ⟨b,_ | ⟨c,_ | ⟨d,_ | ⟨e,l⟩⟩⟩⟩⟩ <;> simp at h
 exact⟨a,b,c,d,rfl⟩
theorem a9O{w:World}{imm:Nat→Nat→Prop}{μ:Nat→A6}{j2:Nat→Prop}{vs:Array Value}{xs:List PV}(hn:vs.size=xs.length)(h:∀(i:Nat) v c,vs[i]? = some v→xs[i]? = some c→Rd w imm μ j2 v c) :
  ∀(j:Nat) x,xs[j]? = some x→∃v,vs[j]? = some v∧Rd w imm μ j2 v x:=λj x hx=>by
 have hlt:j<vs.size:=by rw[hn];exact r6 hx
 exact⟨_,Array.getElem?_eq_getElem hlt,h j _ x (Array.getElem?_eq_getElem hlt) hx⟩
theorem b17{w:World}{imm:Nat→Nat→Prop}{μ:Nat→A6}{j2:Nat→Prop}{t:TypeId}{ks:List Nat}{v u:Value}{xs ys:List PV}{r:Bool}{d:Nat}(ht:a5B P t=some ks)(h:a73 ks xs ys=some r)(hv:Rd w imm μ j2 v (.agg xs))(hu:Rd w imm μ j2 u (.agg ys)) :
  ∃vs us,v = .agg vs∧u = .agg us∧(Op.equalIn (d+2) t (.agg vs) (.agg us)).run P w = .ok r w:=by
 obtain⟨vs,rfl,hn,hc⟩:=hv.T4;obtain⟨us,rfl,hn',hc'⟩:=hu.T4;have hx:=a9O hn hc;have hy:=a9O hn' hc';refine⟨vs,us,rfl,rfl,?_⟩;unfold a5B at ht;split at ht;·cases ht
 split at ht
 ·rename_i fs hfs;split at ht;·cases ht
  rename_i hst;have hfo:P.fieldsOf t=fs:=by unfold Program.fieldsOf;rw[hfs]
  rw[run_equalIn_struct w (d+1) t vs us (by rw[hfo];exact hfs) (by simpa using hst),hfo];exact a5l fs.toList 0 ks xs ys r ht h (λj x q=>by rw[Nat.zero_add];exact hx j x q) (λj x q=>by rw[Nat.zero_add];exact hy j x q)
 ·rename_i n e hfs;split at ht;rotate_left
  ·cases ht
  rename_i q;obtain⟨rfl,q2,q3⟩:=q;cases hk:a8w P e with
  | none=>rw[hk] at ht;cases ht
  | some k=>
   rw[hk] at ht;simp only[Option.map_some,Option.some.injEq] at ht;subst ht;obtain⟨l1,l2⟩:=a9R _ _ _ _ h;obtain⟨x0,x1,x2,x3,rfl⟩:=four l1;obtain⟨y0,y1,y2,y3,rfl⟩:=four l2
   ·simp only[a73] at h;cases e0:eqC k x0 y0 with
    | none=>rw[e0] at h;cases h
    | some b0=>
    cases e1:eqC k x1 y1 with
    | none=>rw[e0,e1] at h;cases h
    | some b1=>
    cases e2:eqC k x2 y2 with
    | none=>rw[e0,e1,e2] at h;cases h
    | some b2=>
    cases e3:eqC k x3 y3 with
    | none=>rw[e0,e1,e2,e3] at h;cases h
    | some b3=>
    rw[e0,e1,e2,e3] at h;cases h;obtain⟨v0,hv0,rv0⟩:=hx 0 x0 rfl;obtain⟨v1,hv1,rv1⟩:=hx 1 x1 rfl;obtain⟨v2,hv2,rv2⟩:=hx 2 x2 rfl;obtain⟨v3,hv3,rv3⟩:=hx 3 x3 rfl;obtain⟨u0,hu0,ru0⟩:=hy 0 y0 rfl;obtain⟨u1,hu1,ru1⟩:=hy 1 y1 rfl;obtain⟨u2,hu2,ru2⟩:=hy 2 y2 rfl;obtain⟨u3,hu3,ru3⟩:=hy 3 y3 rfl;have r0:=a5k (d:=d) hk rv0 ru0 e0;have r1:=a5k (d:=d) hk rv1 ru1 e1;have r2:=a5k (d:=d) hk rv2 ru2 e2;have r3:=a5k (d:=d) hk rv3 ru3 e3;have p:∀(cs:Array Value) (i:Nat) (v:Value),cs[i]? = some v→(part e cs i).run P w = .ok v w:=λcs i v q=>a3G q2 q;rw[Op.equalIn];simp only[Sem.run_bind,run_underlying hfs,Result.andThen_ok,w4 q3];simp only[Std.Legacy.Range.forIn_eq_forIn_range',Std.Legacy.Range.size,Nat.sub_zero,Nat.add_sub_cancel,Nat.div_one,List.range',List.forIn_cons,List.forIn_nil,Sem.run_bind,Nat.mul_one,Nat.zero_add,Nat.reduceAdd,p _ _ _ hv0,p _ _ _ hv1,p _ _ _ hv2,p _ _ _ hv3,p _ _ _ hu0,p _ _ _ hu1,p _ _ _ hu2,p _ _ _ hu3,Result.andThen_ok,r0,r1,r2,r3];cases b0 <;> cases b1 <;> cases b2 <;> cases b3 <;> simp[r1,r2,r3,p _ _ _ hv1,p _ _ _ hv2,p _ _ _ hv3,p _ _ _ hu1,p _ _ _ hu2,p _ _ _ hu3]
 ·cases ht
theorem b0K{t:TypeId}{ks:List Nat}(ht:a5B P t=some ks):P.eqGuardType P.depth t=false:=by
 unfold a5B at ht;split at ht;·cases ht
 ·rename_i q;simpa using q
theorem b6u{t u:TypeId}{ks:List Nat}{x y:Operand}{xs ys:List PV}{r:Bool}(ht:a5B P t=some ks)(hx:ρ x = .agg xs)(hy:ρ y = .agg ys)(h:a73 ks xs ys=some r):u6 P σ ρ dst (.binOp .eql t x y u) (.bool r) .none:=by
 refine .pureV _ _ (λc q=>by cases q) (λT x q=>by cases q) λo w imm μ j2 ev ho hr=>?_;have h1:=hr x (by simp[Op.operands]);have h2:=hr y (by simp[Op.operands]);rw[hx] at h1;rw[hy] at h2;obtain⟨dst,op,ty,pos,after,guard⟩:=o;simp only at ho;subst ho;obtain⟨vs,us,e1,e2,hrun⟩:=b17 (d:=9998) ht h h1 h2;refine⟨.bool r,?_,.cl (.bool _)⟩;simp only[execOp,e1,e2];refine y5 ?_;rw[Sem.run_bind,run_eqGuard_agg w .eql t x y vs us (b0K ht),Result.andThen_ok,run_eql_struct,hrun];rfl
end
section
variable{X:Ctx}{ops:Array Oper}{i:Nat}{os:List Oper}{K:Ctx→St→Prop}{env:Nat→PV}{σ:Nat→Option Row}{ty:TypeId}{pos:String}{after:Array Edge}{gd:Option (Nat × Bool)}{t:Tmp}
theorem b4y{x:A4}{i v:Int}{w:Int}(h:A4.ix x i=some w):R7 x.Pv (0+i.toNat*1) [.int .i64 v]=(A4.st x i v).Pv:=by
 obtain⟨h0,h1⟩:=a7q h;have hlt:=(List.getElem?_eq_some_iff.1 h1).1;simp only[A4.l,List.length_cons,List.length_nil] at hlt;rw[Nat.zero_add,Nat.mul_one];obtain⟨k,hk⟩:∃k,i.toNat=k:=⟨_,rfl⟩;unfold A4.st;rw[hk] at hlt ⊢;match k,hlt with
 | 0,_=>rfl
 | 1,_=>rfl
 | 2,_=>rfl
 | 3,_=>rfl
theorem b6L{x0:A4}{m v v0:Int}{x y:Operand}{T:TypeId}{l:Nat}{opn:Bool}{z:Nat}{cl:Bool}(h:A4.ix x0 m=some v0)(hw:s9 ops env ⟨none,.store T x y,ty,pos,after,gd⟩=some true)(hx:p6 env x = .ptr l 0 (0+m.toNat*1))(hy:p6 env y = .int .i64 v∨(p6 env y).w1 = .int .i64 v)(hl:σ l=some ⟨[x0.Pv],0,opn,z,cl⟩)
  (hs:l5 X.P T=some 1)(k:Sq X ops (i+1) os K ⟨env,o0 σ l (some ⟨[(A4.st x0 m v).Pv],0,opn,z,cl⟩)⟩):Sq X ops i (⟨none,.store T x y,ty,pos,after,gd⟩::os) K ⟨env,σ⟩:=by
 obtain⟨h0,h1⟩:=a7q h;have hlt:=(List.getElem?_eq_some_iff.1 h1).1;simp only[A4.l,List.length_cons,List.length_nil] at hlt;have hle:(0+m.toNat*1)+1≤x0.Pv.cells.length:=by
  show 0+m.toNat*1+1≤4;omega
 exact a3u hw hx hy hs k hl rfl rfl (Nat.le_of_ble_eq_true rfl) rfl hle rfl (b4y h) (by cases cl <;> rfl)
theorem b58{α:Type}{f:α→PV}{xs ys zs:List α}{x y:Operand}{T U E:TypeId}{l z:Nat}{opn:Bool}(h:cpy xs ys=some zs)(hw:s9 ops env ⟨some t,.call { callee:=.builtin .copy,args:=#[x,y],argTypes:=#[T,U] },ty,pos,after,gd⟩=some true)
  (hx:p6 env x = .sl l)(hl:σ l=some ⟨xs.map f,0,opn,z,true⟩)(hy:Src σ (p6 env y) (ys.map f) true)(hE:r5 X.P T=some E)(hz:l5 X.P E=some z)(hel:∀e,(f e).cells.length=z)(hzp:0<z)
  (k:Sq X ops (i+1) os K ⟨o0 env t (.int .i64 ys.length),o0 σ l (some ⟨zs.map f,0,opn,z,true⟩)⟩):Sq X ops i (⟨some t,.call { callee:=.builtin .copy,args:=#[x,y],argTypes:=#[T,U] },ty,pos,after,gd⟩::os) K ⟨env,σ⟩:=by
 obtain⟨h1,rfl⟩:=b2B h;have e1:((ys.map f).length:Int)=ys.length:=by simp
 refine b6I (l:=l) (q:=⟨xs.map f,0,opn,z,true⟩) (ys:=ys.map f) (es:=(ys++xs.drop ys.length).map f) hw (b5F (n:=ys.length) hx hl rfl hy hE hz rfl (λe he=>by obtain⟨a,_,rfl⟩:=List.mem_map.1 he;exact hel a) (by simpa using h1) hzp e1) hl rfl (by simpa using h1) (by simp[List.map_drop]) k
end
theorem a9G{X:Ctx}{ops:Array Oper}{i:Nat}{os:List Oper}{K:Ctx→St→Prop}{env:Nat→PV}{σ:Nat→Option Row}{ty ty' T E:TypeId}{pos:String}{after:Array Edge}{t:Tmp}{x:Operand}{xs:List PV}{q:Bool}
  (hx:p6 env x = .lst q xs)(hE:r5 X.P T=some E)(k:∀b:Bool,(b=true→xs = [])→Sq X ops (i+1) os K ⟨o0 env t (.bool b),σ⟩) :
  Sq X ops i (⟨some t,.binOp .eql T x (.const (.slice none 0 0)) ty',ty,pos,after,none⟩::os) K ⟨env,σ⟩:=λhd hi n g a w Qo hs hq=>by
 have ho:ops[i]? = some ⟨some t,.binOp .eql T x (.const (.slice none 0 0)) ty',ty,pos,after,none⟩:=by have:=hi 0;simpa using this.symm
 have e:List.range' i ((⟨some t,.binOp .eql T x (.const (.slice none 0 0)) ty',ty,pos,after,none⟩:Oper)::os).length=i::List.range' (i+1) os.length:=rfl;have hv:=hs.eval x;rw[hx] at hv;obtain⟨A,c,z,u,e1,h1,_,h3,_⟩:=hv.W8;rw[e,wpOpsIn_cons];unfold wpOpIn;rw[ho];simp only;rw[if_pos (by rfl)];have hu:=C0 hE;have hrun:(binOp .eql T (a.eval x) (.slice none 0 0)).run X.P w = .ok (.bool A.isNone) w:=by
  rw[e1];have e2:(binOp .eql T (.slice A xs.length c) (.slice none 0 0):Sem Value)=(do pure (.bool (←Op.equal T (.slice A xs.length c) (.slice none 0 0)))):=rfl;rw[e2,Sem.run_bind];have e3:(Op.equal T (.slice A xs.length c) (.slice none 0 0)).run X.P w = .ok A.isNone w:=by
   have:Op.maxDepth=9999+1:=rfl;unfold Op.equal;rw[this,Op.equalIn,Sem.run_bind,run_underlying hu];cases A <;> rfl
  rw[e3];rfl
 refine w5 (λc q=>by cases q) (v:=.bool A.isNone) (w':=w) ?_ ?_
 ·simp only[execOp];have e4:a.eval (.const (.slice none 0 0)) = .slice none 0 0:=rfl;rw[e4];refine y5 ?_;have hg:(eqGuard .eql T x (.const (.slice none 0 0)) (a.eval x) (.slice none 0 0)).run X.P w = .ok () w:=by
   rw[e1];exact a8K (v:=.slice A xs.length c) ⟨λcs q=>(by cases q),λq=>(by cases q)⟩
  rw[Sem.run_bind,hg,Result.andThen_ok,hrun]
 ·refine k A.isNone (λq=>?_) hd (λj=>by have:=hi (j+1);simpa[Nat.add_assoc,Nat.add_comm 1 j] using this) n g _ w Qo (hs.put (y8 hd ho) (.cl (.bool _))) hq;cases A with
  | none=>have:=h3 rfl;exact List.eq_nil_of_length_eq_zero (by omega)
  | some _=>cases q
theorem b43{s:St}(t:Nat)(ok:(s.env t).vok s.σ=true):Wk s ⟨o0 s.env t ((s.env t).vw s.σ),F6 s.σ ((s.env t).D0 s.σ)⟩:=λX g a w h=>by
 obtain⟨imm',h1,h2,h3⟩:=h.F6 ((s.env t).D0 s.σ);have hv:=h.view h2 (h.env t) ok h3;refine⟨⟨imm',g.μ⟩,⟨h1.size,λi=>?_,h1.rows,h1.disj,h1.ownimm,h1.immlt,h1.immsub,h1.immsup,h1.below,h1.marks,h1.obs,h1.big,h1.maps⟩⟩;by_cases q:i=t
 ·subst q;rw[show (St.mk (o0 s.env i ((s.env i).vw s.σ)) (F6 s.σ ((s.env i).D0 s.σ))).env i=(s.env i).vw s.σ from j4 _ _ _];exact .cl hv.w2
 ·rw[show (St.mk (o0 s.env t ((s.env t).vw s.σ)) (F6 s.σ ((s.env t).D0 s.σ))).env i=s.env i from e6 _ _ q];exact h1.env i
end Go.Pw
namespace Go.Pw
open Go.RowKit Go.Sh
def a3h(fn:FuncId)(tmps:Array Value)(ps:Array Tmp)(assign body:Code)(D:Nat):Loop:=
 { state:=.ready,pending:=none,fn:=fn,tmps:=tmps,params:=ps,assign:=assign,body:=body,defers:=D }
structure Ran (X:Ctx) (N0:Nat) (ps:Array Tmp) (assign body:Code) (l:Nat):Prop where
 is:∃(tm:Array Value) (fn:FuncId) (D:Nat) (os:List (Nat × Obj)),X.obs=(l,.loop (a3h fn tm ps assign body D))::os∧(∀p∈os,p.1≠l)∧tm.size=N0∧∀i,i<1000000→X.ext (i+1000000)=tm.getD i undef
 lo:X.w0.heap.size≤l
def b4L(c:Code):List (Nat × Obj)→List (Nat × Obj)
 | (l,.loop r)::os=>(l,.loop { r with state:=.done,pending:=some c })::os
 | os=>os
def Ctx.done(X:Ctx)(c:Code):Ctx:={ X with obs:=b4L c X.obs }
def a98(Q:PX→Ctx→St→Prop):Code→Ctx→St→Prop
 | .ret,X,s=>Q .ret X s
 | .exit id,X,s=>Q (.exit id) X s
 | _,_,_=>False
def b4P(X Y:Ctx)(Q:PX→Ctx→St→Prop):PX→Ctx→St→Prop
 | .normal,X',s | .ret,X',s=>(X'=Y∧Q .normal X ⟨a14 s.env,s.σ⟩)∨∃c,X'=Y.done c∧a98 Q c X ⟨a14 s.env,s.σ⟩
 | _,_,_=>False
theorem a4e{P:Program}{f:FuncId}{fn:Func}{c:Code}(h1:P.funcs[f]? = some fn)(h2:fn.body=some c)(h3:fn.name ≠ "runtime.NumGoroutine")(args:Array Value)(w:World) :
  (callFunc f args).run P w = .ok (.enter f args) w:=by
 have hne:(fn.name == "runtime.NumGoroutine")=false:=by simpa using h3
 simp only[callFunc,program,Sem.run,Sem.run_bind,Result.andThen_ok,h1,hne,h2];simp
theorem a5T{P:Program}{a:Act}{g:Operand}{gf:FuncId}{lb:Array Value}(hg:a.eval g = .func (.func gf) #[] lb)(l:Nat)(w:World) :
  (resolve a.eval (rangeCall g l) 0).run P w = .ok { target:=.fn (.func gf) lb,args:=#[.func (.yield l) #[] #[]] } w:=by
 simp only[resolve,hg];simp[go_sem]
section
variable{X:Ctx}{Q:PX→Ctx→St→Prop}{st:St}
theorem b1z{w:World}{imm:Nat→Nat→Prop}{μ:Nat→A6}{j2:Nat→Prop}{vs:Array Value}{ds:List PV}(hn:vs.size=ds.length)(h:∀(i:Nat) v d,vs[i]? = some v→ds[i]? = some d→Rd w imm μ j2 v d)(k:Nat)(i:Nat) :
  Rd w imm μ j2 ((vs++Array.replicate k undef).getD i undef) (D3 ds i):=by
 unfold D3;rw[Array.getD_eq_getD_getElem?,List.getD_eq_getElem?_getD];rcases Nat.lt_or_ge i vs.size with q | q
 ·rw[Array.getElem?_append_left q,Array.getElem?_eq_getElem q,List.getElem?_eq_getElem (by rw[←hn];exact q)];exact h i _ _ (Array.getElem?_eq_getElem q) (List.getElem?_eq_getElem (by rw[←hn];exact q))
 ·rw[Array.getElem?_append_right q,List.getElem?_eq_none (by rw[←hn];exact q),Array.getElem?_replicate];split;·exact .cl (.tup #[] [] rfl λi v c _ hc=>by simp at hc)
  ·exact .cl (.tup #[] [] rfl λi v c _ hc=>by simp at hc)
theorem results_none{fn:Func}(h:fn.results = #[])(tmps:Array Value)(P:Program)(w:World):(results fn tmps).run P w = .ok (.tuple #[]) w:=by
 rw[a0y,h,Array.mapM_eq_mapM_toList];simp only[List.mapM_nil,←bind_pure_comp];rfl
theorem U4{g:Operand}{ps:Array Tmp}{assign body:Code}{gf:FuncId}{fn:Func}{c:Code}{cap:List PV}{N1:Nat}(hg:p6 st.env g = .fn (.func gf) cap)(hf:X.P.funcs[gf]? = some fn)(hb:fn.body=some c)(hN:fn.ntmps=N1)(hn:1+cap.length≤N1)
  (hres:fn.results = #[])(hname':o7 X.P gf)(hρ:X.ρ=none)(hcalm:X.calm=false)
  (h:∀l e1 o1,Ran { P:=X.P,N:=N1,ρ:=none,w0:=X.w0,imm0:=X.imm0,ext:=e1,obs:=o1,calm:=true,tab:=X.tab } X.N ps assign body l →
   J1 { P:=X.P,N:=N1,ρ:=none,w0:=X.w0,imm0:=X.imm0,ext:=e1,obs:=o1,calm:=true,tab:=X.tab } c (b4P X { P:=X.P,N:=N1,ρ:=none,w0:=X.w0,imm0:=X.imm0,ext:=e1,obs:=o1,calm:=true,tab:=X.tab } Q) ⟨a4a (D3 (.fn (.yield l) []::cap)) st.env,st.σ⟩)
  (h6:N1≤1000000:=by exact Nat.le_of_ble_eq_true rfl):J1 X (.rangeFunc g ps assign body) Q st:=by
 intro n g' a w hs;obtain⟨fn2,c2,hf2,_,hname⟩:=hname';rw[hf] at hf2;cases hf2;refine wpIn_rangeFunc λfid _=>?_;have hv:=hs.eval g;rw[hg] at hv;obtain⟨vs,e,hnv,hcap⟩:=a0r hv;generalize hrec:a3h fid a.tmps ps assign body w.heap.size=rec;have hrun1:(Instr.enterLoop fid a.tmps ps assign body (FX X.ρ).round).run X.P w = .ok (w.heap.size+1,[{ target:=.collected w.heap.size,args:=#[] }]) ((w.alloc (.deferred (some []))).alloc (.loop rec)):=by
  rw[hρ,←hrec];exact run_enterLoop_outer fid a.tmps ps assign body
 have hinv:∀W:World,(invoke (.fn (.func gf) vs) #[.func (.yield (w.heap.size+1)) #[] #[]]).run X.P W = .ok (.enter gf (#[.func (.yield (w.heap.size+1)) #[] #[]]++vs)) W:=λW=>by
  simp only[invoke];exact a4e hf hb hname _ _
 refine⟨w.heap.size+1,_,_,_,_,gf,#[.func (.yield (w.heap.size+1)) #[] #[]]++vs,_,hrun1,a5T e _ _,λ_ _=>trivial,hinv _,λq=>by simp[FX] at q,?_⟩;generalize hl:w.heap.size+1=l;have s1:=hs.alloc (.deferred (some []));have s2:=s1.alloc (.loop rec);have hz1:(w.alloc (.deferred (some []))).heap.size=w.heap.size+1:=World.size_alloc ..;have hD:((w.alloc (.deferred (some []))).alloc (.loop rec)).heap[w.heap.size]? = some (.deferred (some [])):=by
  rw[Below.heap_alloc _ _ _ (by rw[hz1];exact Nat.lt_succ_self _)];exact World.alloc_heap_new ..
 have hL:((w.alloc (.deferred (some []))).alloc (.loop rec)).heap[l]? = some (.loop rec):=by
  have:=World.alloc_heap_new (w.alloc (.deferred (some []))) (.loop rec);rw[hz1,hl] at this;exact this
 generalize hw2:(w.alloc (.deferred (some []))).alloc (.loop rec)=w2 at s2 hD hL ⊢;have s3:=s2.mark hD hs.below.size (λd hd q=>absurd (hs.b2N d hd _ q) (Nat.lt_irrefl _)) hcalm;generalize ha':({ a with defers:={ target:=.collected w.heap.size,args:=#[] }::a.defers }:Act)=a' at s3;have ha2:({ a with defers:=[{ target:=.collected w.heap.size,args:=#[] }]++a.defers }:Act)=a':=ha';rw[ha2];have htm:a'.tmps=a.tmps:=by rw[←ha']
 refine callsIn_of_wp_marks hf hb trivial ?_ hρ;have hyv:Rd w2 g'.imm g'.μ st.j2 (.func (.yield l) #[] #[]) (.fn (.yield l) []):=.cl (.fn (.yield l) #[] [] rfl λi v c _ hc=>by simp at hc);have hx2:Ext w g'.imm w2 g'.imm:=by
  rw[←hw2];exact (Ext.alloc hs.immlt _).trans (Ext.alloc s1.immlt _)
 obtain⟨av,hav⟩:∃av:Array Value,av=(#[Value.func (.yield l) #[] #[]]++vs):=⟨_,rfl⟩;have hz:av.size=(PV.fn (.yield l) []::cap).length:=by rw[hav];simp[hnv];omega
 have hav0:av[0]? = some (Value.func (.yield l) #[] #[]):=by rw[hav,Array.getElem?_append_left (by simp)];rfl
 have hav1:∀i,av[i+1]? = vs[i]? := λi=>by rw[hav,Array.getElem?_append_right (by simp)];simp
 have hrd:∀(i:Nat) v d,av[i]? = some v→(PV.fn (.yield l) []::cap)[i]? = some d→Rd w2 g'.imm g'.μ st.j2 v d:=λi v d hv hd=>by
  cases i with
  | zero=>
   rw[hav0] at hv;cases hv;cases hd;exact hyv
  | succ i=>
   rw[hav1] at hv;exact (hcap i v d hv (by simpa using hd)).mono hx2 λ_ q=>⟨q,rfl⟩
 rw[←hav];have s4:=s3.push (N:=N1) none (tmps:=av++Array.replicate (fn.ntmps-av.size) undef) (top:=D3 (.fn (.yield l) []::cap)) h6 (by
   simp only[Array.size_append,Array.size_replicate];simp only[List.length_cons] at hz;omega) (λi _=>b1z hz hrd _ i)
 have s5:=s4.watch hL rfl;generalize hY:({ X.over a' N1 none with obs:=(l,.loop rec)::(X.over a' N1 none).obs }:Ctx)=Y at s5;have hYe:Y={ P:=X.P,N:=N1,ρ:=none,w0:=X.w0,imm0:=X.imm0,ext:=Y.ext,obs:=Y.obs,calm:=true,tab:=X.tab }:=by
  rw[←hY];simp only[Ctx.over]
 have hYx:∀i,Y.ext i=X.val a' (i-1000000):=λi=>by rw[←hY];simp only[Ctx.over]
 have hYo:Y.obs=(l,.loop rec)::(a0U a'.defers++X.obs):=by rw[←hY];simp only[Ctx.over]
 have hos:∀p∈a0U a'.defers++X.obs,p.1≠l:=by
  intro p hp q;have hlt:p.1<w.heap.size+1:=by
   rcases List.mem_append.1 hp with hp | hp
   ·rw[←ha'] at hp;obtain⟨rs,_,r2,r3⟩:=hs.marks;have e2:({ target:=.collected w.heap.size,args:=#[] }::a.defers:List Deferred)=(w.heap.size::rs).map λr=>{ target:=.collected r,args:=#[] }:=by rw[r2];rfl
    simp only[e2,a0V] at hp;obtain⟨r,hr,rfl⟩:=List.mem_map.1 hp;rcases List.mem_cons.1 hr with rfl | hr
    ·exact Nat.lt_succ_self _
    ·exact Nat.lt_succ_of_lt (Array.getElem?_eq_some_iff.1 (r3 r hr).1).1
   ·exact Nat.lt_succ_of_lt (Array.getElem?_eq_some_iff.1 (hs.obs p hp).1).1
  omega
 have hran:Ran Y X.N ps assign body l:=⟨⟨a.tmps,fid,w.heap.size,_,by rw[hYo,←hrec],hos,hs.size,λi hi=>by
   rw[hYx,Nat.add_sub_cancel,Ctx.val,if_pos hi,htm]⟩,by
   rw[←hY];have:=hs.below.size;show X.w0.heap.size≤l;omega⟩
 have hp:=h l Y.ext Y.obs (hYe▸hran);rw[←hYe] at hp;have hp2:=hp (n-1) _ _ _ s5;have hYρ:Y.ρ=none:=by rw[hYe]
 have hYP:Y.P=X.P:=by rw[hYe]
 rw[hYρ,hYP] at hp2;rw[hρ];have hYu:{ Y with obs:=(X.over a' N1 none).obs }=X.over a' N1 none:=by rw[←hY]
 refine wpIn_mono hp2 λex a1 w1 q=>?_;have key:∀X' g1 st1,r7 X' g1 st1 a1 w1→((X'=Y∧Q .normal X ⟨a14 st1.env,st1.σ⟩)∨∃c,X'=Y.done c∧a98 Q c X ⟨a14 st1.env,st1.σ⟩)→LeavesInM (FX none) (n-1) X.P fn a1.tmps (rangePost (FX none) n X.P l (lift X Q) a') a1.defers .returning w1:=by
  intro X' g1 st1 hs1 hq;have hcal:X'.calm=true:=by
   rcases hq with ⟨rfl,_⟩ | ⟨c',rfl,_⟩;·rw[hYe]
   ·rw[hYe];rfl
  rw[hs1.big.2 hcal];refine⟨_,results_none hres _ _ _,?_⟩;rcases hq with ⟨rfl,hq⟩ | ⟨c',rfl,hq⟩
  ·have hh:=(hs1.obs (l,.loop rec) (by rw[hYo];exact List.mem_cons_self ..)).1;refine⟨rec.pending,_,run_endLoop hh (by rw[←hrec];simp[a3h]),?_⟩;have t1:=hs1.b4A (o':=.loop { rec with state:=.exhausted }) hh rfl rfl rfl hran.lo (λq=>by cases q) (obs:=(X.over a' N1 none).obs) (λp hp=>.inr ⟨hos p hp,by rw[hYo];exact List.mem_cons_of_mem _ hp⟩);rw[hYu] at t1;have t2:=s3.pop t1;have hpend:rec.pending=none:=by rw[←hrec];rfl
   simp only[hpend] at t2 ⊢;exact⟨X,_,_,t2,⟨rfl,rfl⟩,hq⟩
  ·have hdo:(Y.done c').obs=(l,.loop { rec with state:=.done,pending:=some c' })::(a0U a'.defers++X.obs):=by
    show b4L c' Y.obs=_;rw[hYo];rfl
   have hh:=(hs1.obs (l,.loop { rec with state:=.done,pending:=some c' }) (by rw[hdo];exact List.mem_cons_self ..)).1;refine⟨some c',_,run_endLoop hh (by simp),?_⟩;have t1:=hs1.b4A (o':=.loop { rec with state:=.exhausted,pending:=some c' }) hh rfl rfl rfl hran.lo (λq=>by cases q) (obs:=(X.over a' N1 none).obs) (λp hp=>.inr ⟨hos p hp,by rw[hdo];exact List.mem_cons_of_mem _ hp⟩);have hYu2:{ Y.done c' with obs:=(X.over a' N1 none).obs }=X.over a' N1 none:=by rw[←hYu];rfl
   rw[hYu2] at t1;have t2:=s3.pop t1;simp only;cases c' <;> simp only[a98] at hq <;> first | (exact hq.elim) | skip
   ·exact wpIn_exit ⟨X,_,_,t2,⟨rfl,rfl⟩,hq⟩
   ·exact wpIn_ret ⟨X,_,_,t2,⟨rfl,rfl⟩,hq⟩
 cases ex <;> simp only[lift,b4P,bodyPostM] at q ⊢ <;> first
  | (obtain⟨X',g1,st1,h1,_,h2⟩:=q;exact key X' g1 st1 h1 h2)
  | (obtain⟨X',g1,st1,h1,_,h2⟩:=q;exact h2.elim)
  | exact q.elim
end
end Go.Pw
namespace Go.Pw
open Go.RowKit Go.Sh
def b0h:List Tmp→List PV→(Nat→PV)→Nat→PV
 | p::ps,d::ds,f=>b0h ps ds (o0 f p d)
 | _,_,f=>f
def b5s(X2 X3:Ctx)(body:Code)(Qb:PX→Ctx→St→Prop):PX→Ctx→St→Prop
 | .normal,X',s=>X'=X2∧J1 X3 body Qb s
 | _,_,_=>False
def b5Z(X3:Ctx)(kT:St→Prop)(kF:Code→St→Prop):PX→Ctx→St→Prop
 | .normal,X',s=>X'=X3∧kT s
 | .ret,X',s=>X'=X3∧kF .ret s
 | .exit id,X',s=>X'=X3∧kF (.exit id) s
 | .goto _,_,_=>False
def b5z(P:Program)(Y:Ctx)(fn:Func)(k:PV→St→Prop):PX→Ctx→St→Prop
 | .normal,X',s | .ret,X',s=>X'=Y∧∃rs,a7W P s fn.results.toList rs∧k (a0b rs) s
 | _,_,_=>False
section
variable{X:Ctx}{Q:PX→Ctx→St→Prop}{st:St}{g:Gh}{a:Act}{w:World}
theorem r7.b67{N:Nat}{ρ:Option Nat}{st':St}{a':Act}{w0:World}{o1 o2:List (Nat × Obj)}(h0:r7 X g st a w0){g':Gh}(h:r7 { X.over a N ρ with obs:=o1 } g' st' a' w)(ho:∀p∈a0U a.defers++o2,p∈o1):r7 { X with obs:=o2 } g' ⟨a14 st'.env,st'.σ⟩ a w:=by
 refine⟨h0.size,λi=>?_,h.rows,h.disj,h.ownimm,h.immlt,h.immsub,h.immsup,h.below,?_,λp hp=>h.obs p (ho p (List.mem_append_right _ hp)),h0.big,h.maps⟩
 ·have:=h.env (i+1000000);have e1:Ctx.val { X.over a N ρ with obs:=o1 } a' (i+1000000)=Ctx.val { X with obs:=o2 } a i:=by
   have q:¬i+1000000<1000000:=by omega
   unfold Ctx.over;rw[Ctx.val,if_neg q];simp only[Nat.add_sub_cancel];rfl
  rw[e1] at this;exact this
 ·obtain⟨rs,h1,h2,h3⟩:=h0.marks;refine⟨rs,h1,h2,λr hr=>⟨?_,(h3 r hr).2⟩⟩;refine (h.obs (r,.deferred (some [])) (ho _ (List.mem_append_left _ ?_))).1;rw[h2,a0V];exact List.mem_map.2 ⟨r,hr,rfl⟩
theorem a6f:∀(l:List (Tmp × Value)) (tm:Array Value),(l.foldl (λtmps (t,a)=>tmps.setIfInBounds t a) tm).size=tm.size
 | [],tm=>rfl
 | p::l,tm=>by
  rw[List.foldl_cons,a6f l];simp
theorem a8x{w:World}{imm:Nat→Nat→Prop}{μ:Nat→A6}{j2:Nat→Prop}:∀(ps:List Tmp) (vs:List Value) (ds:List PV) (tm:Array Value) (f:Nat→PV),vs.length=ds.length→(∀(i:Nat) v d,vs[i]? = some v→ds[i]? = some d→Rd w imm μ j2 v d) →
  (∀p∈ps,p<tm.size)→(∀i,i<1000000→Rd w imm μ j2 (tm.getD i undef) (f i))→∀i,i<1000000→Rd w imm μ j2 (((ps.zip vs).foldl (λtmps (t,a)=>tmps.setIfInBounds t a) tm).getD i undef) (b0h ps ds f i)
 | [],_,ds,tm,f,_,_,_,h=>by
  cases ds <;> exact h
 | p::ps,[],[],tm,f,_,_,_,h=>h
 | p::ps,[],_::_,tm,f,hn,_,_,h=>by cases hn
 | p::ps,_::_,[],tm,f,hn,_,_,h=>by cases hn
 | p::ps,v::vs,d::ds,tm,f,hn,hv,hp,h=>by
  have ih:=a8x ps vs ds (tm.setIfInBounds p v) (o0 f p d) (by simpa using hn) (λi v' d' h1 h2=>hv (i+1) v' d' (by simpa using h1) (by simpa using h2)) (λq hq=>by
   simp only[Array.size_setIfInBounds];exact hp q (List.mem_cons_of_mem _ hq)) (λi hi=>by
   unfold o0;by_cases e:i=p
   ·subst e;have:=hp i (List.mem_cons_self ..);rw[if_pos rfl];simp only[Array.getD_eq_getD_getElem?,Array.getElem?_setIfInBounds,if_true,this];exact hv 0 v d rfl rfl
   ·rw[if_neg e];simp only[Array.getD_eq_getD_getElem?,Array.getElem?_setIfInBounds,if_neg (Ne.symm e)];rw[←Array.getD_eq_getD_getElem?];exact h i hi)
  exact ih
theorem b0M{P:Program}{o:Oper}{x:Operand}{args:Array Operand}{ts:Array TypeId}{l:Nat}{r:Loop}(ho:o.op = .call { callee:=.value x,args,argTypes:=ts })(hx:a.eval x = .func (.yield l) #[] #[])(h:w.heap[l]? = some (.loop r))(hs:args.size=r.params.size) :
  (execOp a.eval o).run P w = .ok (.round l r.fn ((r.params.zip (args.map a.eval)).foldl (λtmps (t,a)=>tmps.setIfInBounds t a) r.tmps) r.assign r.body) w:=by
 obtain⟨dst,op,ty,pos,after,guard⟩:=o;simp only at ho;subst ho;simp only[execOp,resolve,hx,Deferred.ofValue,Sem.run_bind,Sem.run_pure,Result.andThen_ok,invoke];have:=run_yield (P:=P) (args:=args.map a.eval) h (by simpa using hs);simpa using this
end
section
variable{X:Ctx}{ops:Array Oper}{i:Nat}{os:List Oper}{K:Ctx→St→Prop}{env:Nat→PV}{σ:Nat→Option Row}{ty:TypeId}{pos:String}{after:Array Edge}{gd:Option (Nat × Bool)}{t:Tmp}
def Opq(X:Ctx)(ops:Array Oper)(i:Nat)(K:Ctx→St→Prop)(st:St):Prop:=
 X5 X.N ops=true→∀(n:Nat) (g:Gh) (a:Act) (w:World) (next:Act→World→Prop) (Qo:Exit→Act→World→Prop),r7 X g st a w →
  (∀X' g' s' a' w',r7 X' g' s' a' w'→(X'.P=X.P∧X'.ρ=X.ρ)∧X'.N=X.N→K X' s'→next a' w')→wpOpIn (FX X.ρ) n X.P ops Qo i next a w
theorem b2a{o:Oper}{st:St}(h:Opq X ops i (λX' s=>Sq X' ops (i+1) os K s) st):Sq X ops i (o::os) K st:=λhd hi n g a w Qo hs hq=>by
 have e:List.range' i (o::os).length=i::List.range' (i+1) os.length:=rfl;rw[e,wpOpsIn_cons];refine h hd n g a w _ Qo hs λX' g' s' a' w' hs' hX k=>?_;have:=k (by rw[hX.2];exact hd) (λj=>by have:=hi (j+1);simpa[Nat.add_assoc,Nat.add_comm 1 j] using this) n g' a' w' Qo hs' λX2 g2 s2 a2 w2 h2 hX2=>hq X2 g2 s2 a2 w2 h2 ⟨hX2.1.trans hX.1.1,hX2.2.trans hX.1.2⟩;rw[hX.1.1,hX.1.2] at this;exact this
theorem B7{o:Oper}{st:St}(h:ops[i]? = some o→Opq X ops i (λX' s=>Sq X' ops (i+1) os K s) st):Sq X ops i (o::os) K st:=λhd hi=>by
 have ho:=hi 0;simp only[List.getElem?_cons_zero,Nat.add_zero] at ho;exact b2a (h ho.symm) hd hi
theorem a7U{N0:Nat}{ps:Array Tmp}{assign body:Code}{l:Nat}{args:Array Operand}{ts:Array TypeId}{x:Operand}{ds:List PV}(ho:ops[i]? = some ⟨some t,.call { callee:=.value x,args,argTypes:=ts },ty,pos,after,gd⟩)(hR:Ran X N0 ps assign body l)(hw:s9 ops env ⟨some t,.call { callee:=.value x,args,argTypes:=ts },ty,pos,after,gd⟩=some true)
  (hf:p6 env x = .fn (.yield l) [])(ha:args.toList.map (p6 env)=ds)(hps:args.size=ps.size)(hpn:(ps.toList.all λp=>decide (p<N0))=true)(hcalm:X.calm=true)
  (h:∀e2 o2 o3,J1 { P:=X.P,N:=N0,ρ:=some l,w0:=X.w0,imm0:=X.imm0,ext:=e2,obs:=o2,calm:=true,tab:=X.tab } assign
   (b5s { P:=X.P,N:=N0,ρ:=some l,w0:=X.w0,imm0:=X.imm0,ext:=e2,obs:=o2,calm:=true,tab:=X.tab } { P:=X.P,N:=N0,ρ:=some l,w0:=X.w0,imm0:=X.imm0,ext:=e2,obs:=o3,calm:=true,tab:=X.tab } body
    (b5Z { P:=X.P,N:=N0,ρ:=some l,w0:=X.w0,imm0:=X.imm0,ext:=e2,obs:=o3,calm:=true,tab:=X.tab } (λs=>K X ⟨o0 (a14 s.env) t (.bool true),s.σ⟩) (λc s=>K (X.done c) ⟨o0 (a14 s.env) t (.bool false),s.σ⟩)))
   ⟨a4a (b0h ps.toList ds (a14 env)) env,σ⟩)(hN:N0≤1000000:=by exact Nat.le_of_ble_eq_true rfl) :
  Opq X ops i K ⟨env,σ⟩:=by
 intro hd n g a w next Qo hs hq;unfold wpOpIn;rw[ho];simp only;rw[if_pos (F9 hs hw)];obtain⟨⟨tm,fid,D,os',hobs,hne,htz,hext⟩,hlo⟩:=hR;have hdef:a.defers = []:=hs.big.2 hcalm;have hL:=(hs.obs (l,.loop (a3h fid tm ps assign body D)) (by rw[hobs];exact List.mem_cons_self ..)).1;have hxv:=hs.eval x;rw[show p6 (St.env ⟨env,σ⟩) x = .fn (.yield l) [] from hf] at hxv;obtain⟨vs0,e0,hn0,_⟩:=a0r hxv;have:vs0 = #[]:=by
  have:vs0.size=0:=by simpa using hn0
  exact Array.size_eq_zero_iff.1 this
 subst this;refine⟨λ_ _=>trivial,?_⟩;rw[Oper.semAt_eq _ _ _ (λc q=>by cases q),b0M rfl e0 hL hps];refine⟨λq=>by simp[FX] at q,?_⟩;refine roundIn_of_wpIn (F:=FX X.ρ) trivial ?_;show assign.wpIn (FX (some l)) (n-1) X.P _ _ w;have hrd:∀(j:Nat) v d,(args.toList.map a.eval)[j]? = some v→ds[j]? = some d→Rd w g.imm g.μ (St.j2 ⟨env,σ⟩) v d:=by
  intro j v d hv hd';subst ha;rw[List.getElem?_map] at hv hd';cases hx:args.toList[j]? with
  | none=>rw[hx] at hv;cases hv
  | some y=>
   rw[hx] at hv hd';cases hv;cases hd';exact hs.eval y
 have hbase:∀j,j<1000000→Rd w g.imm g.μ (St.j2 ⟨env,σ⟩) (tm.getD j undef) (a14 env j):=λj hj=>by
  have:=hs.env (j+1000000);rw[Ctx.val,if_neg (by omega),hext j hj] at this;exact this
 have hzip:(ps.zip (args.map a.eval)).foldl (λtmps (t,a)=>tmps.setIfInBounds t a) tm=(ps.toList.zip (args.toList.map a.eval)).foldl (λtmps (t,a)=>tmps.setIfInBounds t a) tm:=by
  rw[←Array.foldl_toList,Array.toList_zip,Array.toList_map]
 have hsz:((ps.zip (args.map a.eval)).foldl (λtmps (t,a)=>tmps.setIfInBounds t a) tm).size=N0:=by rw[hzip,a6f,htz]
 have s1:=hs.push (N:=N0) (some l) (tmps:=(ps.zip (args.map a.eval)).foldl (λtmps (t,a)=>tmps.setIfInBounds t a) tm) (top:=b0h ps.toList ds (a14 env)) hN hsz (λj hj=>by
  rw[hzip];refine a8x ps.toList _ ds tm _ (by rw[←ha];simp) hrd (λp hp=>?_) hbase j hj;rw[htz];have:=List.all_eq_true.1 hpn p hp;simpa using this)
 generalize hX2:X.over a N0 (some l)=X2 at s1;have hX2e:X2={ P:=X.P,N:=N0,ρ:=some l,w0:=X.w0,imm0:=X.imm0,ext:=X2.ext,obs:=X2.obs,calm:=true,tab:=X.tab }:=by
  rw[←hX2];simp only[Ctx.over]
 have hX2o:X2.obs=(l,.loop (a3h fid tm ps assign body D))::os':=by
  rw[←hX2];simp only[Ctx.over];rw[hdef,hobs];rfl
 have h1:=h X2.ext X2.obs ((l,.loop { a3h fid tm ps assign body D with state:=.busy })::os');rw[←hX2e] at h1;have hX3e:({ P:=X.P,N:=N0,ρ:=some l,w0:=X.w0,imm0:=X.imm0,ext:=X2.ext,obs:=(l,.loop { a3h fid tm ps assign body D with state:=.busy })::os',calm:=true,tab:=X.tab }:Ctx)={ X2 with obs:=(l,.loop { a3h fid tm ps assign body D with state:=.busy })::os' }:=by
  rw[hX2e]
 rw[hX3e] at h1;generalize hX3:({ X2 with obs:=(l,.loop { a3h fid tm ps assign body D with state:=.busy })::os' }:Ctx)=X3 at h1;have hX3o:X3.obs=(l,.loop { a3h fid tm ps assign body D with state:=.busy })::os':=by rw[←hX3]
 have hX2ρ:X2.ρ=some l:=by rw[hX2e]
 have hX2P:X2.P=X.P:=by rw[hX2e]
 have hX3ρ:X3.ρ=some l:=by rw[←hX3,hX2ρ]
 have hX3P:X3.P=X.P:=by rw[←hX3,hX2P]
 have hX2w:X2.w0=X.w0:=by rw[hX2e]
 have hX3w:X3.w0=X.w0:=by rw[←hX3,hX2w]
 have w1:=h1 (n-1) g _ w s1;rw[hX2ρ,hX2P] at w1;refine wpIn_mono w1 λex a1 w1 q=>?_;cases ex <;> simp only[lift,b5s,Exit.then] at q ⊢ <;> first | (obtain⟨_,_,_,_,_,q⟩:=q;exact q.elim) | exact q.elim | skip
 obtain⟨X',g1,t1,hs1,_,rfl,hb⟩:=q;have hL1:=(hs1.obs _ (by rw[hX2o];exact List.mem_cons_self ..)).1;refine⟨_,run_beginRound hL1 rfl,?_⟩;have hs2:=hs1.b4A (o':=.loop { a3h fid tm ps assign body D with state:=.busy }) hL1 rfl rfl rfl (by rw[hX2w];exact hlo) (λq=>by cases q) (obs:=(l,.loop { a3h fid tm ps assign body D with state:=.busy })::os') (λp hp=>by
  rcases List.mem_cons.1 hp with rfl | hp
  ·exact .inl rfl
  ·exact .inr ⟨hne p hp,by rw[hX2o];exact List.mem_cons_of_mem _ hp⟩)
 rw[hX3] at hs2;have w2:=hb (n-1) _ _ _ hs2;rw[hX3ρ,hX3P] at w2;refine wpIn_mono w2 λex a2 w3 q=>?_;have hLB:∀g2 t2,r7 X3 g2 t2 a2 w3→w3.heap[l]? = some (.loop { a3h fid tm ps assign body D with state:=.busy }):=λg2 t2 hs3=>(hs3.obs _ (by rw[hX3o];exact List.mem_cons_self ..)).1;have back:∀(g2:Gh) (t2:St) (r:Loop),r7 X3 g2 t2 a2 w3→r7 { X with obs:=(l,.loop r)::os' } g2 ⟨a14 t2.env,t2.σ⟩ a (w3.putObj l (.loop r)):=by
  intro g2 t2 r hs3;have s4:=hs3.b4A (o':=.loop r) (hLB g2 t2 hs3) rfl rfl rfl (by rw[hX3w];exact hlo) (λq=>by cases q) (obs:=(l,.loop r)::os') (λp hp=>by
   rcases List.mem_cons.1 hp with rfl | hp
   ·exact .inl rfl
   ·exact .inr ⟨hne p hp,by rw[hX3o];exact List.mem_cons_of_mem _ hp⟩)
  have e4:({ X3 with obs:=(l,.loop r)::os' }:Ctx)={ X.over a N0 (some l) with obs:=(l,.loop r)::os' }:=by rw[←hX3,←hX2]
  rw[e4] at s4;exact hs.b67 s4 (λp hp=>by rw[hdef] at hp;simpa[a0U] using hp)
 have kF:∀(c:Code) (g2:Gh) (t2:St),r7 X3 g2 t2 a2 w3→K (X.done c) ⟨o0 (a14 t2.env) t (.bool false),t2.σ⟩→∃v w',(Instr.endRound l (some c)).run X.P w3 = .ok v w'∧next (a.put (some t) v) w':=by
  intro c g2 t2 hs3 hk;refine⟨_,_,run_endRound (some c) (hLB g2 t2 hs3),?_⟩;have s5:=back g2 t2 { a3h fid tm ps assign body D with state:=.done,pending:=some c } hs3;have e5:X.done c={ X with obs:=(l,.loop { a3h fid tm ps assign body D with state:=.done,pending:=some c })::os' }:=by
   unfold Ctx.done;rw[hobs];rfl
  rw[←e5] at s5;have hdst:∀u,(some t:Option Tmp)=some u→u<(X.done c).N:=y8 hd ho;exact hq _ _ _ _ _ (s5.put hdst (.cl (.bool false))) ⟨⟨rfl,rfl⟩,rfl⟩ hk
 cases ex <;> simp only[lift,b5Z,roundPost] at q ⊢ <;> first
  | (obtain⟨X',g2,t2,hs3,_,rfl,hk⟩:=q;exact kF _ g2 t2 hs3 hk)
  | (obtain⟨_,_,_,_,_,q⟩:=q;exact q.elim)
  | exact q.elim
  | skip
 obtain⟨X',g2,t2,hs3,_,rfl,hk⟩:=q;refine⟨_,_,run_endRound none (hLB g2 t2 hs3),?_⟩;have s5:=back g2 t2 (a3h fid tm ps assign body D) hs3;have e5:({ X with obs:=(l,.loop (a3h fid tm ps assign body D))::os' }:Ctx)=X:=by rw[←hobs]
 rw[e5] at s5;exact hq _ _ _ _ _ (s5.put (y8 hd ho) (.cl (.bool true))) ⟨⟨rfl,rfl⟩,rfl⟩ hk
theorem a2p{N0:Nat}{ps:Array Tmp}{assign body:Code}{l:Nat}{args:Array Operand}{ts:Array TypeId}{x:Operand}{ds:List PV}(hR:Ran X N0 ps assign body l)(hw:s9 ops env ⟨some t,.call { callee:=.value x,args,argTypes:=ts },ty,pos,after,gd⟩=some true)
  (hf:p6 env x = .fn (.yield l) [])(ha:args.toList.map (p6 env)=ds)(hps:args.size=ps.size)(hpn:(ps.toList.all λp=>decide (p<N0))=true)(hcalm:X.calm=true)
  (h:∀e2 o2 o3,J1 { P:=X.P,N:=N0,ρ:=some l,w0:=X.w0,imm0:=X.imm0,ext:=e2,obs:=o2,calm:=true,tab:=X.tab } assign
   (b5s { P:=X.P,N:=N0,ρ:=some l,w0:=X.w0,imm0:=X.imm0,ext:=e2,obs:=o2,calm:=true,tab:=X.tab } { P:=X.P,N:=N0,ρ:=some l,w0:=X.w0,imm0:=X.imm0,ext:=e2,obs:=o3,calm:=true,tab:=X.tab } body
    (b5Z { P:=X.P,N:=N0,ρ:=some l,w0:=X.w0,imm0:=X.imm0,ext:=e2,obs:=o3,calm:=true,tab:=X.tab } (λs=>Sq X ops (i+1) os K ⟨o0 (a14 s.env) t (.bool true),s.σ⟩) (λc s=>Sq (X.done c) ops (i+1) os K ⟨o0 (a14 s.env) t (.bool false),s.σ⟩)))
   ⟨a4a (b0h ps.toList ds (a14 env)) env,σ⟩)(hN:N0≤1000000:=by exact Nat.le_of_ble_eq_true rfl) :
  Sq X ops i (⟨some t,.call { callee:=.value x,args,argTypes:=ts },ty,pos,after,gd⟩::os) K ⟨env,σ⟩:=B7 λho=>a7U ho hR hw hf ha hps hpn hcalm h hN
theorem b6a{args:Array Operand}{ts:Array TypeId}{x:Operand}{gf:FuncId}{cap ds:List PV}{fn:Func}{c:Code}{N1:Nat}(ho:ops[i]? = some ⟨some t,.call { callee:=.value x,args,argTypes:=ts },ty,pos,after,gd⟩)(hw:s9 ops env ⟨some t,.call { callee:=.value x,args,argTypes:=ts },ty,pos,after,gd⟩=some true)
  (hf:p6 env x = .fn (.func gf) cap)(hk:X.P.funcs[gf]? = some fn)(hb:fn.body=some c)(hname':o7 X.P gf)(hN:fn.ntmps=N1)(ha:args.toList.map (p6 env)++cap=ds)(hn:ds.length≤N1)
  (h:∀e1 o1,J1 { P:=X.P,N:=N1,ρ:=none,w0:=X.w0,imm0:=X.imm0,ext:=e1,obs:=o1,calm:=true,tab:=X.tab } c
   (b5z X.P { P:=X.P,N:=N1,ρ:=none,w0:=X.w0,imm0:=X.imm0,ext:=e1,obs:=o1,calm:=true,tab:=X.tab } fn (λd s=>K X ⟨o0 (a14 s.env) t d,s.σ⟩)) ⟨a4a (D3 ds) env,σ⟩)(h6:N1≤1000000:=by exact Nat.le_of_ble_eq_true rfl) :
  Opq X ops i K ⟨env,σ⟩:=by
 intro hd n g a w next Qo hs hq;obtain⟨fn2,c2,hf2,_,hname⟩:=hname';rw[hk] at hf2;cases hf2;unfold wpOpIn;rw[ho];simp only;rw[if_pos (F9 hs hw)];have hv:=hs.eval x;rw[show p6 (St.env ⟨env,σ⟩) x = .fn (.func gf) cap from hf] at hv;obtain⟨vs,e0,hnv,hcap⟩:=a0r hv;have hexec:=a0h (P:=X.P) (w:=w) (o:=⟨some t,.call { callee:=.value x,args,argTypes:=ts },ty,pos,after,gd⟩) rfl e0 ⟨fn,c,hk,hb,hname⟩;refine⟨λ_ _=>trivial,?_⟩;rw[Oper.semAt_eq _ _ _ (λc q=>by cases q),hexec];refine⟨λq=>by simp[FX] at q,?_⟩;obtain⟨av,hav⟩:∃av:Array Value,av=args.map a.eval++vs:=⟨_,rfl⟩;rw[←hav];have hz:av.size=ds.length:=by rw[hav,←ha];simp[hnv]
 have hrd:∀(j:Nat) v d,av[j]? = some v→ds[j]? = some d→Rd w g.imm g.μ (St.j2 ⟨env,σ⟩) v d:=by
  intro j v d hv hd';subst hav;subst ha;rcases Nat.lt_or_ge j args.size with q | q
  ·rw[Array.getElem?_append_left (by simpa using q),Array.getElem?_map] at hv;rw[List.getElem?_append_left (by simpa using q),List.getElem?_map] at hd';cases hx:args[j]? with
   | none=>rw[hx] at hv;cases hv
   | some y=>
    have hx':args.toList[j]? = some y:=by simpa using hx
    rw[hx] at hv;rw[hx'] at hd';cases hv;cases hd';exact hs.eval y
  ·rw[Array.getElem?_append_right (by simpa using q)] at hv;rw[List.getElem?_append_right (by simpa using q)] at hd';exact hcap _ v d hv (by simpa using hd')
 have s1:=hs.push (N:=N1) none (tmps:=av++Array.replicate (fn.ntmps-av.size) undef) (top:=D3 ds) h6 (by
   simp only[Array.size_append,Array.size_replicate];omega) (λi _=>b1z hz hrd _ i)
 generalize hY:X.over a N1 none=Y at s1;have hYe:Y={ P:=X.P,N:=N1,ρ:=none,w0:=X.w0,imm0:=X.imm0,ext:=Y.ext,obs:=Y.obs,calm:=true,tab:=X.tab }:=by
  rw[←hY];simp only[Ctx.over]
 have h1:=h Y.ext Y.obs;rw[←hYe] at h1;have hYρ:Y.ρ=none:=by rw[hYe]
 have hYP:Y.P=X.P:=by rw[hYe]
 have hYc:Y.calm=true:=by rw[hYe]
 have w1:=h1 (n-1) g _ w s1;rw[hYρ,hYP] at w1;have hc:CallsIn (FX none) (n-1) X.P gf av w λe w''=>∃v,e = .returned v∧next (a.put (some t) v) w'':=by
  refine callsIn_of_wp_marks hk hb trivial ?_ rfl;refine wpIn_mono w1 λex a1 w1 q=>?_;have key:∀X' g1 t1,r7 X' g1 t1 a1 w1→(X'=Y∧∃rs,a7W X.P t1 fn.results.toList rs∧K X ⟨o0 (a14 t1.env) t (a0b rs),t1.σ⟩)→LeavesInM (FX none) (n-1) X.P fn a1.tmps (λe w''=>∃v,e = .returned v∧next (a.put (some t) v) w'') a1.defers .returning w1:=by
   rintro X' g1 t1 hs1 ⟨rfl,rs,hr,hk'⟩;rw[hs1.big.2 hYc];rw[←hYP] at hr;obtain⟨v,hrun,hvr⟩:=b1D hs1 hr;rw[hYP] at hrun;refine⟨v,hrun,v,rfl,?_⟩;rw[←hY] at hs1;have s2:=hs.pop hs1;exact hq _ _ _ _ _ (s2.put (y8 hd ho) hvr) ⟨⟨rfl,rfl⟩,rfl⟩ hk'
  cases ex <;> simp only[lift,b5z,bodyPostM] at q ⊢ <;> first
   | (obtain⟨X',g1,t1,h1,_,h2⟩:=q;exact key X' g1 t1 h1 h2)
   | (obtain⟨X',g1,t1,h1,_,h2⟩:=q;exact h2.elim)
   | exact q.elim
 have hc2:CallsIn (FX X.ρ) (n-1) X.P gf av w λe w''=>∃v,e = .returned v∧next (a.put (some t) v) w'':=hc;refine hc2.mono λe w'' hr=>?_;obtain⟨v,rfl,hk⟩:=hr;exact hk
theorem a8Q{args:Array Operand}{ts:Array TypeId}{x:Operand}{gf:FuncId}{cap ds:List PV}{fn:Func}{c:Code}{N1:Nat}(hw:s9 ops env ⟨some t,.call { callee:=.value x,args,argTypes:=ts },ty,pos,after,gd⟩=some true)
  (hf:p6 env x = .fn (.func gf) cap)(hk:X.P.funcs[gf]? = some fn)(hb:fn.body=some c)(hname':o7 X.P gf)(hN:fn.ntmps=N1)(ha:args.toList.map (p6 env)++cap=ds)(hn:ds.length≤N1)
  (h:∀e1 o1,J1 { P:=X.P,N:=N1,ρ:=none,w0:=X.w0,imm0:=X.imm0,ext:=e1,obs:=o1,calm:=true,tab:=X.tab } c
   (b5z X.P { P:=X.P,N:=N1,ρ:=none,w0:=X.w0,imm0:=X.imm0,ext:=e1,obs:=o1,calm:=true,tab:=X.tab } fn (λd s=>Sq X ops (i+1) os K ⟨o0 (a14 s.env) t d,s.σ⟩)) ⟨a4a (D3 ds) env,σ⟩)(h6:N1≤1000000:=by exact Nat.le_of_ble_eq_true rfl) :
  Sq X ops i (⟨some t,.call { callee:=.value x,args,argTypes:=ts },ty,pos,after,gd⟩::os) K ⟨env,σ⟩:=B7 λho=>b6a ho hw hf hk hb hname' hN ha hn h h6
end
section
variable{X:Ctx}{Q:PX→Ctx→St→Prop}{st:St}
theorem b5T{J R:Type}{x:Code}{κ:J→Option R}{r:R}(F:J→St)(hk:∀j,κ j=some r→Q .normal X (F j))(hx:J1 X x (a0Y (λX' s=>X'=X∧∃j,κ j=some r∧Wk s (F j)) Q) st):J1 X x Q st:=λn g a w hs=>wpIn_mono (hx n g a w hs) λe a' w' q=>by
 cases e <;> simp only[lift,a0Y] at q ⊢ <;> first | exact q | skip
 obtain⟨X',g',st',h1,h3,rfl,j,h4,h5⟩:=q;obtain⟨g2,h6⟩:=h5 X' g' a' w' h1;exact⟨X',g2,_,h6,h3,hk j h4⟩
def b5v(K:Ctx→St→Prop):PX→Ctx→St→Prop
 | .normal,X,s | .ret,X,s=>K X s
 | _,_,_=>False
theorem b5U{J R:Type}{x:Code}{κ:J→Option R}{r:R}(F:J→St)(hk:∀j,κ j=some r→Q .normal X (F j)∧Q .ret X (F j))(hx:J1 X x (b5v (λX' s=>X'=X∧∃j,κ j=some r∧Wk s (F j))) st):J1 X x Q st:=λn g a w hs=>wpIn_mono (hx n g a w hs) λe a' w' q=>by
 cases e <;> simp only[lift,b5v] at q ⊢ <;> first | (obtain⟨X',g',st',h1,h3,h4⟩:=q;exact h4.elim) | exact q | skip
 all_goals
  obtain⟨X',g',st',h1,h3,rfl,j,h4,h5⟩:=q;obtain⟨g2,h6⟩:=h5 X' g' a' w' h1;first | exact⟨X',g2,_,h6,h3,(hk j h4).1⟩ | exact⟨X',g2,_,h6,h3,(hk j h4).2⟩
theorem dup{p q:Prop}(h:p)(e:p=q:=by rfl):p∧q:=⟨h,e▸h⟩
end
end Go.Pw
namespace Go.Pw
open Go.RowKit Go.Sh
theorem a8p{x y y' z:PV}{j k:Nat}(hx:x.el=true)(hj:x.cells[j]? = some y)(hs:y'.sc=true)(h:(R7 x j [y']).cells[k]? = some z):(k=j∧z=y')∨(k≠j∧x.cells[k]? = some z):=by
 have hlt:=PV.u7 hj;have hc:=(a2g (x:=x) (f:=j) (cs:=[y']) hx (by simp;omega) (by simp[hs])).1;rw[hc] at h;have hk:(x.cells.take j).length=j:=by simp;omega
 by_cases e:k=j
 ·subst e;left;refine⟨rfl,?_⟩;rw[List.append_assoc,List.getElem?_append_right (by omega)] at h;simp[hk] at h;exact h.symm
 ·right;refine⟨e,?_⟩;rcases Nat.lt_or_ge k j with q | q
  ·rw[List.append_assoc,List.getElem?_append_left (by omega),List.getElem?_take_of_lt q] at h;exact h
  ·rw[List.getElem?_append_right (by simp;omega)] at h;simp only[List.length_append,hk,List.length_cons,List.length_nil,List.getElem?_drop] at h;rwa [show j+(0+1)+(k-(j+(0+1)))=k by omega] at h
section
variable{X:Ctx}{st:St}{a:Act}{w:World}{g:Gh}
theorem r7.b27(h:r7 X g st a w){l0 j:Nat}{r0:Row}{x y y':PV}{cl':Bool}(hl:st.σ l0=some r0)(he:r0.els = [x])(hj:x.cells[j]? = some y)(hs:y'.sc=true)(hr:∀b s v,(g.μ l0).A=some ⟨b,s,none⟩→w.cell? ⟨b,s+0*(g.μ l0).z+j,none⟩=some v→Rd w g.imm g.μ st.j2 v y→Rd w g.imm g.μ st.j2 v y')
  (hcl:cl'=true→r0.cl=true∧∀v,Rd0 w g.imm v y→Rd0 w g.imm v y'):r7 X g ⟨st.env,o0 st.σ l0 (some ⟨[R7 x j [y']],r0.lo,r0.opn,r0.z,cl'⟩)⟩ a w:=by
 have hp:∀l,st.j2 l→St.j2 ⟨st.env,o0 st.σ l0 (some ⟨[R7 x j [y']],r0.lo,r0.opn,r0.z,cl'⟩)⟩ l∧g.μ l=g.μ l:=by
  rintro l ⟨r,hr⟩;refine⟨?_,rfl⟩;by_cases e:l=l0
  ·subst e;exact⟨_,j4 _ _ _⟩
  ·exact⟨r,by rw[←hr];exact e6 _ _ e⟩
 have nomap:MB≤l0→False:=λq=>by
  obtain⟨b',es,h1,_⟩:=h.maps.at_ l0 r0 q hl;rw[he] at h1;cases h1;cases hj
 have hR:=h.rows l0 r0 hl;have hxel:=hR.el x (by rw[he];exact List.mem_cons_self ..);have hlt:=PV.u7 hj;have hset:=a2g (x:=x) (f:=j) (cs:=[y']) hxel.1 (by simp;omega) (by simp[hs]);have hlen:(R7 x j [y']).cells.length=x.cells.length:=by rw[hset.1];simp;omega
 have hown:∀b o,A2 (g.μ l0) ⟨[R7 x j [y']],r0.lo,r0.opn,r0.z,cl'⟩ b o→A2 (g.μ l0) r0 b o:=λb o q=>q;have hcase:∀l r,o0 st.σ l0 (some ⟨[R7 x j [y']],r0.lo,r0.opn,r0.z,cl'⟩) l=some r→∃r1,st.σ l=some r1∧(∀b o,A2 (g.μ l) r b o→A2 (g.μ l) r1 b o):=by
  intro l r q;by_cases e:l=l0
  ·subst e;rw[j4] at q;cases q;exact⟨r0,hl,hown⟩
  ·rw[e6 _ _ e] at q;exact⟨r,q,λ_ _ q=>q⟩
 refine⟨h.size,λi=>(h.env i).mono (Ext.refl _ _) hp,λl r q=>?_,λl l' r r' hne q q' b o ho k=>?_,λl r b o q ho=>?_,h.immlt,h.immsub,h.immsup,h.below,h.marks,h.obs,h.big,h.maps.o0 hl (λq=>(nomap q).elim) λq=>(nomap q).elim⟩
 ·by_cases e:l=l0
  ·subst e;rw[show (St.mk st.env (o0 st.σ l (some ⟨[R7 x j [y']],r0.lo,r0.opn,r0.z,cl'⟩))).σ l=_ from j4 _ _ _] at q;cases q;refine⟨by rw[hR.n,he];rfl,hR.z,hR.C,hR.lo,λz hz=>?_,hR.nil,hR.spot,λi z k c hz hc=>?_,λb o ho=>hR.own b o ho⟩
   ·simp only[List.mem_singleton] at hz;subst hz;exact⟨hset.2,by rw[hlen];exact hxel.2⟩
   ·cases i with
    | succ i=>simp at hz
    | zero=>
     simp only[List.getElem?_cons_zero,Option.some.injEq] at hz;subst hz;rcases a8p hxel.1 hj hs hc with ⟨rfl,rfl⟩ | ⟨_,hc'⟩
     ·obtain⟨b,s,u,k1,k2,k3,k4,k5⟩:=hR.cell 0 x k y (by rw[he];rfl) hj;exact⟨b,s,u,k1,k2,(hr b s u k1 k2 k3).mono (Ext.refl _ _) hp,k4,λq=>(hcl q).2 u (k5 (hcl q).1)⟩
     ·obtain⟨b,s,u,k1,k2,k3,k4,k5⟩:=hR.cell 0 x k c (by rw[he];rfl) hc';exact⟨b,s,u,k1,k2,k3.mono (Ext.refl _ _) hp,k4,λq=>k5 (hcl q).1⟩
  ·rw[show (St.mk st.env (o0 st.σ l0 (some ⟨[R7 x j [y']],r0.lo,r0.opn,r0.z,cl'⟩))).σ l=st.σ l from e6 _ _ e] at q;exact (h.rows l r q).mono (Ext.refl _ _) hp λ_ _ _=>⟨rfl,rfl⟩
 ·obtain⟨r1,h1,k1⟩:=hcase l r q;obtain⟨r2,h2,k2⟩:=hcase l' r' q';exact h.disj l l' r1 r2 hne h1 h2 b o (k1 b o ho) (k2 b o k)
 ·obtain⟨r1,h1,k1⟩:=hcase l r q;exact h.ownimm l r1 b o h1 (k1 b o ho)
end
theorem a6S{s:St}{l0 j l z:Nat}{x x':PV}{lo zz:Nat}{opn cl:Bool}(hl0:s.σ l0=some ⟨[x],lo,opn,zz,cl⟩)(hj:x.cells[j]? = some (.lst true []))(hl:s.σ l=none)(hx:R7 x j [.sl l]=x')(hne:(l==l0)=false)(hlm:l<MB:=by exact Nat.le_of_ble_eq_true rfl) :
  Wk s ⟨s.env,o0 (o0 s.σ l (some ⟨[],0,true,z,true⟩)) l0 (some ⟨[x'],lo,opn,zz,false⟩)⟩:=λX g a w h=>by
 subst hx;have hne':l≠l0:=by simpa using hne
 have nomap:MB≤l0→False:=λq=>by
  obtain⟨b',es,h1,_⟩:=h.maps.at_ l0 _ q hl0;cases h1;cases hj
 have hxr:=(h.rows l0 _ hl0).cell 0 x j _ rfl hj;obtain⟨b0,s0,u,hA0,hu,hv,_,_⟩:=hxr;obtain⟨A,c,z',u',e,h1,h2,h3,_⟩:=hv.W8;have hc:=h2 rfl;simp only[List.length_nil] at hc e;subst hc;have hs:=h.a6M (l:=l) (A:=A) (xs:=[]) (z:=z) hlm hl (λ_=>rfl) (λ_ q=>by cases q) (λq=>absurd q (Nat.lt_irrefl _)) true;have hl0':(St.mk s.env (o0 s.σ l (some ⟨[],0,true,z,true⟩))).σ l0=some ⟨[x],lo,opn,zz,cl⟩:=by rw[←hl0];exact e6 _ _ (Ne.symm hne')
 have hs':r7 X ⟨g.imm,o0 g.μ l ⟨A,0,0,z⟩⟩ ⟨s.env,o0 s.σ l (some ⟨[],0,true,z,true⟩)⟩ a w:=hs;have hR:=hs'.rows l0 _ hl0';have hμ:o0 g.μ l ⟨A,0,0,z⟩ l0=g.μ l0:=e6 _ _ (Ne.symm hne');have hp:∀l',St.j2 ⟨s.env,o0 s.σ l (some ⟨[],0,true,z,true⟩)⟩ l'→St.j2 ⟨s.env,o0 (o0 s.σ l (some ⟨[],0,true,z,true⟩)) l0 (some ⟨[R7 x j [.sl l]],lo,opn,zz,false⟩)⟩ l'∧o0 g.μ l ⟨A,0,0,z⟩ l'=o0 g.μ l ⟨A,0,0,z⟩ l':=by
  rintro l' ⟨r,hr⟩;refine⟨?_,rfl⟩;by_cases e:l'=l0
  ·subst e;exact⟨_,j4 _ _ _⟩
  ·exact⟨r,by rw[←hr];exact e6 _ _ e⟩
 have hxel:=hR.el x (List.mem_cons_self ..);have hlt:=PV.u7 hj;have hset:=a2g (x:=x) (f:=j) (cs:=[.sl l]) hxel.1 (by simp;omega) rfl;have hlen:(R7 x j [.sl l]).cells.length=x.cells.length:=by rw[hset.1];simp;omega
 have hcase:∀l' r,o0 (o0 s.σ l (some ⟨[],0,true,z,true⟩)) l0 (some ⟨[R7 x j [.sl l]],lo,opn,zz,false⟩) l'=some r→∃r1,o0 s.σ l (some ⟨[],0,true,z,true⟩) l'=some r1∧(∀b o,A2 (o0 g.μ l ⟨A,0,0,z⟩ l') r b o→A2 (o0 g.μ l ⟨A,0,0,z⟩ l') r1 b o):=by
  intro l' r q;by_cases e:l'=l0
  ·subst e;rw[j4] at q;cases q;exact⟨_,hl0',λ_ _ q=>q⟩
  ·rw[e6 _ _ e] at q;exact⟨r,q,λ_ _ q=>q⟩
 refine⟨⟨g.imm,o0 g.μ l ⟨A,0,0,z⟩⟩,⟨hs'.size,λi=>(hs'.env i).mono (Ext.refl _ _) hp,λl' r q=>?_,λl1 l2 r r' hne q q' b o ho k=>?_,λl' r b o q ho=>?_,hs'.immlt,hs'.immsub,hs'.immsup,hs'.below,hs'.marks,hs'.obs,hs'.big,hs'.maps.o0 hl0' (λq=>(nomap q).elim) λq=>(nomap q).elim⟩⟩
 ·by_cases e:l'=l0
  ·subst e;rw[show (St.mk s.env (o0 (o0 s.σ l (some ⟨[],0,true,z,true⟩)) l' (some ⟨[R7 x j [.sl l]],lo,opn,zz,false⟩))).σ l'=_ from j4 _ _ _] at q;cases q;refine⟨hR.n,hR.z,hR.C,hR.lo,λz hz=>?_,hR.nil,hR.spot,λi z k c hz hc=>?_,λb o ho=>hR.own b o ho⟩
   ·simp only[List.mem_singleton] at hz;subst hz;exact⟨hset.2,by rw[hlen];exact hxel.2⟩
   ·cases i with
    | succ i=>simp at hz
    | zero=>
     simp only[List.getElem?_cons_zero,Option.some.injEq] at hz;subst hz;rcases a8p hxel.1 hj rfl hc with ⟨rfl,rfl⟩ | ⟨_,hc'⟩
     ·obtain⟨b,s1,u1,k1,k2,k3,k4,k5⟩:=hR.cell 0 x k _ rfl hj;refine⟨b,s1,u1,k1,k2,?_,k4,λq=>by cases q⟩;simp only[hμ] at k1 k2;rw[hA0] at k1;cases k1;rw[hu] at k2;cases k2;rw[e];exact U8 (m:=⟨A,0,0,z⟩) ⟨⟨[],0,true,z,true⟩,(e6 _ _ hne').trans (j4 _ _ _)⟩ (j4 _ _ _)
     ·obtain⟨b,s,u,k1,k2,k3,k4,k5⟩:=hR.cell 0 x k c rfl hc';exact⟨b,s,u,k1,k2,k3.mono (Ext.refl _ _) hp,k4,λq=>by cases q⟩
  ·rw[show (St.mk s.env (o0 (o0 s.σ l (some ⟨[],0,true,z,true⟩)) l0 (some ⟨[R7 x j [.sl l]],lo,opn,zz,false⟩))).σ l'=o0 s.σ l (some ⟨[],0,true,z,true⟩) l' from e6 _ _ e] at q;exact (hs'.rows l' r q).mono (Ext.refl _ _) hp λ_ _ _=>⟨rfl,rfl⟩
 ·obtain⟨r1,h1,k1⟩:=hcase l1 r q;obtain⟨r2,h2,k2⟩:=hcase l2 r' q';exact hs'.disj l1 l2 r1 r2 hne h1 h2 b o (k1 b o ho) (k2 b o k)
 ·obtain⟨r1,h1,k1⟩:=hcase l' r q;exact hs'.ownimm l' r1 b o h1 (k1 b o ho)
theorem a4J{s:St}(l0 j:Nat){x x' y:PV}{lo zz:Nat}{opn cl:Bool}(hl0:s.σ l0=some ⟨[x],lo,opn,zz,cl⟩)(hj:x.cells[j]? = some y)(hs:y.w1.sc=true)(hx:R7 x j [y.w1]=x'):Wk s ⟨s.env,o0 s.σ l0 (some ⟨[x'],lo,opn,zz,cl⟩)⟩:=λX g a w h=>by
 subst hx;exact⟨g,h.b27 hl0 rfl hj hs (λ_ _ v _ _ q=>q.w1) (λq=>⟨q,λv q=>q.w1⟩)⟩
end Go.Pw
namespace Go.Pw
open Go.RowKit Go.Sh
def a56(M:Array Nat)(n m:Nat):Bool:=(List.range n).all λx=>decide (x<m)||(List.range m).all λj=>(M.getD x 0).testBit j
theorem a62{M:Array Nat}{n m:Nat}(h:a56 M n m=true){x j:Nat}(hx:x<n)(hm:m≤x)(hj:j<m):(M.getD x 0).testBit j=true:=by
 have:=List.all_eq_true.1 h x (by simpa using hx);rw[Bool.or_eq_true] at this;rcases this with q | q
 ·have:x<m:=by simpa using q
  omega
 ·exact List.all_eq_true.1 q j (by simpa using hj)
section
variable{X:Ctx}{ops:Array Oper}{n:Nat}{ρ:Option Nat}{Q:Exit→Act→World→Prop}
def Down(ops:Array Oper)(listed:Array Bool):Prop:=∀i o,listed.getD i false=true→ops[i]? = some o→∀e∈o.after,Region.binds .any e=true→listed.getD e.on false=true
theorem a6j{bar:List Nat}{M:Array Nat}(hr:a4d ops bar M=true){listed:Array Bool}(hsz:listed.size=ops.size){i:Nat}{c:List Nat}(h:V4 ops.size listed=i::c):i∈Region.ready .any ops listed:=by
 have hmem:i∈V4 ops.size listed:=by rw[h];simp
 obtain⟨hi1,hi2⟩:=List.mem_filter.1 hmem;have hi:i<ops.size:=by simpa using hi1
 refine List.mem_filter.2 ⟨hi1,?_⟩;rw[hi2,Bool.true_and,Array.getElem?_eq_getElem hi];simp only[Option.map_some,Option.getD_some];rw[Array.all_eq_true_iff_forall_mem];intro e he;cases hb:Region.binds .any e with
 | false=>rfl
 | true=>
 have hlt:=(M3 hr (Array.getElem?_eq_getElem hi)).2.1 e he hb;show (!true||_)=true;rw[Bool.or_eq_true];right;cases hq:listed.getD e.on false with
 | true=>rfl
 | false=>
  exfalso;have hon:e.on∈V4 ops.size listed:=List.mem_filter.2 ⟨by simp;omega,by
   have:listed.getD e.on true=false:=by
    have hlt':e.on<listed.size:=by omega
    simp[Array.getD_eq_getD_getElem?,hlt'] at hq ⊢;exact hq
   rw[this];rfl⟩
  have hs:=Y0 ops.size listed;rw[h] at hs hon;rw[List.pairwise_cons] at hs;rcases List.mem_cons.1 hon with q | q
  ·omega
  ·have:=hs.1 _ q;omega
theorem a4E{listed:Array Bool}{i:Nat}(hi:i∈Region.ready .any ops listed):i<ops.size∧i∈V4 ops.size listed∧∀o,ops[i]? = some o→∀e∈o.after,Region.binds .any e=true→listed.getD e.on false=true:=by
 obtain⟨k1,k2⟩:=List.mem_filter.1 hi;rw[Bool.and_eq_true] at k2;have hil:i<ops.size:=by simpa using k1
 refine⟨hil,List.mem_filter.2 ⟨k1,k2.1⟩,λo ho e he hb=>?_⟩;have:=k2.2;rw[ho] at this;simp only[Option.map_some,Option.getD_some] at this;rw[Array.all_eq_true_iff_forall_mem] at this;have:=this e he;rw[hb] at this;simpa using this
theorem a6q{bar:List Nat}{M:Array Nat}(hr:a4d ops bar M=true){listed:Array Bool}(hdown:Down ops listed){i:Nat}{o:Oper}(ho:ops[i]? = some o)(haf:∀e∈o.after,Region.binds .any e=true→listed.getD e.on false=true) :
  ∀j,(M.getD i 0).testBit j=true→listed.getD j false=true:=by
 have key:∀(m k:Nat) (o:Oper),k<m→ops[k]? = some o→(∀e∈o.after,Region.binds .any e=true→listed.getD e.on false=true)→∀j,(M.getD k 0).testBit j=true→listed.getD j false=true:=by
  intro m;induction m with
  | zero=>intro k o hk;omega
  | succ m ihm=>
   intro k o hk ho haf j hj;obtain⟨e,he1,he2,he3⟩:=(M3 hr ho).1 j hj;have hl:=haf e he1 he2;rcases he3 with rfl | he3
   ·exact hl
   ·have hlt:=(M3 hr ho).2.1 e he1 he2;have hklt:k<ops.size:=by
     rcases Nat.lt_or_ge k ops.size with q | q
     ·exact q
     ·rw[Array.getElem?_eq_none q] at ho;cases ho
    exact ihm e.on _ (by omega) (Array.getElem?_eq_getElem (show e.on<ops.size by omega)) (λe' h1 h2=>hdown e.on _ hl (Array.getElem?_eq_getElem (show e.on<ops.size by omega)) e' h1 h2) j he3
 exact key (i+1) i o (by omega) ho haf
theorem a4B{listed:Array Bool}{j:Nat}(h:j∈V4 ops.size listed):listed.getD j false=false:=by
 obtain⟨q1,q2⟩:=List.mem_filter.1 h;have q2':listed.getD j true=false:=by simpa using q2
 rw[Array.getD_eq_getD_getElem?] at q2' ⊢;cases hq:listed[j]? with
 | none=>rfl
 | some b=>rw[hq] at q2';exact q2'
theorem Down.set{listed:Array Bool}(hd:Down ops listed){i:Nat}(haf:∀o,ops[i]? = some o→∀e∈o.after,Region.binds .any e=true→listed.getD e.on false=true):Down ops (listed.setIfInBounds i true):=by
 intro k o hk ho e he hb;by_cases q:k=i
 ·subst q;exact getD_set_true (haf o ho e he hb)
 ·rw[getD_set_ne (listed:=listed) (i:=i) (j:=k) false (Ne.symm q)] at hk;exact getD_set_true (hd k o hk ho e he hb)
theorem a8o{bar:List Nat}{M:Array Nat}{m:Nat}{stM:St}(hd:X5 X.N ops=true)(hr:a4d ops bar M=true)(hc:a56 M ops.size m=true){N:Nat}
  {tail:List Nat}(ht:∀x∈tail,m≤x)
  (hK:∀listed g' a' w',listed.size=ops.size→V4 ops.size listed=tail→Down ops listed→r7 X g' stM a' w'→wpAnyIn (FX ρ) n X.P .any ops Q N listed a' w') :
  ∀(k:Nat) (c:List Nat) (listed:Array Bool) (g:Gh) (st:St) (a:Act) (w:World),c.length=k→r7 X g st a w→listed.size=ops.size→V4 ops.size listed=c++tail→(∀j∈c,j<m)→Down ops listed→a9K X.P ops bar true c st stM →
   wpAnyIn (FX ρ) n X.P .any ops Q (k+N) listed a w:=by
 intro k;induction k with
 | zero=>
  intro c listed g st a w hk h hsz hrem hcm hdown hrun;have:c = []:=List.eq_nil_of_length_eq_zero hk;subst this;have:st=stM:=hrun;subst this;rw[Nat.zero_add];exact hK listed g a w hsz (by simpa using hrem) hdown h
 | succ k ih=>
  intro c listed g st a w hk h hsz hrem hcm hdown hrun;rw[Nat.succ_add];refine⟨λhnil=>?_,λi hi=>?_⟩
  ·exfalso;cases c with
   | nil=>simp at hk
   | cons j c=>
    have:=a6j hr hsz hrem;rw[hnil] at this;cases this
  ·obtain⟨hil,hirem,hafter⟩:=a4E hi;have hget:=Array.getElem?_eq_getElem hil;have hwait:=a6q hr hdown hget (hafter _ hget);have hic:i∈c:=by
    rw[hrem] at hirem;rcases List.mem_append.1 hirem with q | q
    ·exact q
    ·exfalso;obtain⟨j,hj⟩:∃j,j∈c:=by
      cases c with
      | nil=>simp at hk
      | cons j c=>exact⟨j,List.mem_cons_self ..⟩
     have h1:=hwait j (a62 hc hil (ht i q) (hcm j hj));rw[a4B (ops:=ops) (listed:=listed) (j:=j) (by rw[hrem];exact List.mem_append_left _ hj)] at h1;cases h1
   obtain⟨c1,c2,hcc⟩:=List.append_of_mem hic;have hs:=Y0 ops.size listed;rw[hrem,hcc] at hs;rw[hcc] at hrun;have hs':(c1++i::(c2++tail)).Pairwise (· < ·):=by simpa using hs
   rw[List.pairwise_append] at hs';have hind:∀j∈c1,∀oj,ops[j]? = some oj→oj.apart ops ops[i]=true∧allowed (cls bar j oj.op) (cls bar i ops[i].op)=true:=by
    intro j hj oj hoj;have hji:=hs'.2.2 j hj i (List.mem_cons_self ..);rcases (M3 hr hget).2.2 j oj hji hoj with q | q
    ·have:=hwait j q;rw[a4B (ops:=ops) (listed:=listed) (j:=j) (by rw[hrem,hcc];simp[hj])] at this;cases this
    ·exact q
   obtain⟨σF,st',hst,hrest⟩:=a7E hget c1 c2 st stM hind hrun;refine a5V hget h hst (y8 hd hget) λg' a' w' h'=>?_;have hrem':=a7C (c1:=c1) (c2:=c2++tail) hsz hil (by rw[hrem,hcc];simp);refine ih (c1++c2) _ g' st' a' w' ?_ h' (by simpa using hsz) (by rw[hrem'];simp) (λj hj=>hcm j (by rw[hcc];rcases List.mem_append.1 hj with q | q <;> simp[q])) (hdown.set hafter) hrest;rw[hcc] at hk;simp at hk ⊢;omega
theorem b39{bar:List Nat}{M:Array Nat}{m:Nat}(hr:a4d ops bar M=true)(hc:a56 M ops.size (m+1)=true){tail:List Nat}(ht:∀x∈tail,m+1≤x){N:Nat}{listed:Array Bool}{a:Act}{w:World}(hsz:listed.size=ops.size)
  (hrem:V4 ops.size listed=m::tail)(hdown:Down ops listed)
  (h:∀listed',listed'.size=ops.size→V4 ops.size listed'=tail→Down ops listed'→wpOpIn (FX ρ) n X.P ops Q m (wpAnyIn (FX ρ) n X.P .any ops Q N listed') a w):wpAnyIn (FX ρ) n X.P .any ops Q (N+1) listed a w:=by
 refine⟨λhnil=>?_,λi hi=>?_⟩
 ·have:=a6j hr hsz hrem;rw[hnil] at this;cases this
 ·obtain⟨hil,hirem,hafter⟩:=a4E hi;have hget:=Array.getElem?_eq_getElem hil;have hwait:=a6q hr hdown hget (hafter _ hget);rw[hrem] at hirem;rcases List.mem_cons.1 hirem with rfl | q
  ·exact h _ (by simpa using hsz) (by simpa using a7C (c1:=[]) hsz hil (by simpa using hrem)) (hdown.set hafter)
  ·exfalso;have h1:=hwait m (a62 hc hil (ht i q) (Nat.lt_succ_self m));rw[a4B (ops:=ops) (listed:=listed) (j:=m) (by rw[hrem];exact List.mem_cons_self ..)] at h1;cases h1
end
theorem a3m{P:Program}{bar:List Nat}{dr:Bool}{K:St→Prop}{ops:Array Oper}:∀(os:List Oper) (i:Nat) (st:St),(∀j,j<os.length→os[j]? = ops[i+j]?)→Ex P ops bar dr i os st K→∃s,a9K P ops bar dr (List.range' i os.length) st s∧K s
 | [],_,st,_,h=>⟨st,rfl,h⟩
 | o::os,i,st,hi,h=>by
  obtain⟨s,h1,h2⟩:=h;obtain⟨s',k1,k2⟩:=a3m os (i+1) s (λj hj=>by
   have:=hi (j+1) (by simpa using hj);rwa [List.getElem?_cons_succ,show i+(j+1)=i+1+j by omega] at this) h2
  have h0:=hi 0 (by simp);exact⟨s',⟨o,s,by simpa using h0.symm,h1,k1⟩,k2⟩
section
variable{X:Ctx}{Q:PX→Ctx→St→Prop}{st:St}
theorem b22{ops:Array Oper}{i:Nat}{K:Ctx→St→Prop}{st':St}(h:Wk st st')(k:Opq X ops i K st'):Opq X ops i K st:=λhd n g a w next Qo hs hq=>by
 obtain⟨g',hs'⟩:=h X g a w hs;exact k hd n g' a w next Qo hs' hq
theorem b61{id:Nat}{s:St}(h:Q (.exit id) X s):a98 Q (.exit id) X s:=h
theorem b4c{s:St}(h:Q .ret X s):a98 Q .ret X s:=h
theorem b4a{M:Array Nat}{n:Nat}:a56 M n n=true:=List.all_eq_true.2 λx hx=>by
 have:x<n:=by simpa using hx
 simp[this]
theorem drY{id:Nat}{l:List Oper}{y:Code}(bar:List Nat)(m:Nat)(hm:X.P.follows .mixedOrders=true)(hd:X5 X.N l.toArray=true)(hr:a4d l.toArray bar (Region.before l.toArray)=true)
  (hc:a56 (Region.before l.toArray) l.length m=true)(hc1:a56 (Region.before l.toArray) l.length (m+1)=true)(hlt:m<l.length)
  (h:Ex X.P l.toArray bar true 0 (l.take m) st (λs=>Opq X l.toArray m (λX' s'=>∃s2,Wk s' s2∧Ex X'.P l.toArray bar true (m+1) (l.drop (m+1)) s2 (λs''=>J1 X' y Q s'')) s)):J1 X (.seq (.region id l.toArray true) y) Q st:=by
 intro n g a w hs;refine wpIn_seq (wpIn_region_any hm ?_);have hsize:l.toArray.size=l.length:=by simp
 obtain⟨stM,hrun1,hop⟩:=a3m (ops:=l.toArray) (l.take m) 0 st (λj hj=>by
  have:j<m:=by simp at hj;omega
  simp[List.getElem?_take_of_lt this]) h
 have hlen:(l.take m).length=m:=by simp;omega
 rw[hlen] at hrun1;have hrem:V4 l.toArray.size (Array.replicate l.toArray.size false)=List.range' 0 m++(m::List.range' (m+1) (l.length-(m+1))):=by
  have e1:V4 l.toArray.size (Array.replicate l.toArray.size false)=List.range l.toArray.size:=List.filter_eq_self.2 λi hi=>by
   have:i<l.length:=by simpa using hi
   simp[Array.getD_eq_getD_getElem?,this]
  have e2:(m::List.range' (m+1) (l.length-(m+1)))=List.range' (0+m) (l.length-m):=by
   rw[show l.length-m=(l.length-(m+1))+1 by omega,Nat.zero_add];rfl
  rw[e1,e2,hsize,List.range_eq_range',List.range'_append_1,show m+(l.length-m)=l.length by omega]
 have hdown0:Down l.toArray (Array.replicate l.toArray.size false):=λi o hi=>by
  exfalso;rw[Array.getD_eq_getD_getElem?,Array.getElem?_replicate] at hi;split at hi <;> cases hi
 have hfuel:l.toArray.size=m+((l.length-(m+1))+1):=by rw[hsize];omega
 have hc':a56 (Region.before l.toArray) l.toArray.size m=true:=by rw[hsize];exact hc
 have hc1':a56 (Region.before l.toArray) l.toArray.size (m+1)=true:=by rw[hsize];exact hc1
 have goal:=a8o (X:=X) (ρ:=X.ρ) (n:=n) (Q:=Exit.then (λa w=>y.wpIn (FX X.ρ) n X.P (lift X Q) a w) (lift X Q)) (N:=(l.length-(m+1))+1) hd hr hc' (tail:=m::List.range' (m+1) (l.length-(m+1))) (λx hx=>by
   rcases List.mem_cons.1 hx with rfl | hx
   ·exact Nat.le_refl _
   ·have:=List.mem_range'_1.1 hx;omega) (stM:=stM) (λlisted g1 a1 w1 hsz1 hrem1 hdown1 hs1=>?_) m (List.range' 0 m) _ g st a _ (by simp) hs.drew (by simp) hrem (λj hj=>by have:=List.mem_range'_1.1 hj;omega) hdown0 hrun1
 ·rw[←hfuel] at goal;exact goal
 refine b39 (X:=X) hr hc1' (λx hx=>by have:=List.mem_range'_1.1 hx;omega) hsz1 hrem1 hdown1 λlisted2 hsz2 hrem2 hdown2=>?_;refine hop hd n g1 a1 w1 _ _ hs1 λX' g2' s2' a2 w2 hs2' hX hex'=>?_;obtain⟨s2,hw2,hex⟩:=hex';obtain⟨g2,hs2⟩:=hw2 X' g2' a2 w2 hs2';obtain⟨⟨hXP,hXρ⟩,hXN⟩:=hX;obtain⟨sE,hrun2,hk⟩:=a3m (ops:=l.toArray) (l.drop (m+1)) (m+1) s2 (λj _=>by simp[List.getElem?_drop]) hex;have hlen2:(l.drop (m+1)).length=l.length-(m+1):=by simp
 rw[hlen2] at hrun2;have goal2:=a8o (X:=X') (ρ:=X.ρ) (n:=n) (Q:=Exit.then (λa w=>y.wpIn (FX X.ρ) n X.P (lift X Q) a w) (lift X Q)) (N:=0) (by rw[hXN];exact hd) hr (m:=l.toArray.size) b4a (tail:=[]) (λx hx=>by cases hx) (stM:=sE) (λlisted g3 a3 w3 hsz3 hrem3 hdown3 hs3=>⟨?_,?_⟩) (l.length-(m+1)) (List.range' (m+1) (l.length-(m+1))) listed2 g2 s2 a2 w2 (by simp) hs2 hsz2 (by simpa using hrem2) (λj hj=>by have:=List.mem_range'_1.1 hj;rw[hsize];omega) hdown2 hrun2
 ·rw[hXP] at goal2;exact goal2
 ·cases hq:Region.ready .any l.toArray listed with
  | nil=>rfl
  | cons i r=>
   have:=(a4E (ops:=l.toArray) (listed:=listed) (i:=i) (by rw[hq];exact List.mem_cons_self ..)).2.1;rw[hrem3] at this;cases this
 ·have:=hk n g3 a3 w3 hs3;rw[a5d ⟨hXP,hXρ⟩,hXP,hXρ] at this;exact this
end
end Go.Pw
namespace Go.Pw
open Go.RowKit Go.Sh Go.Instr
def a1Z{K:Type}[BEq K]:List K→K→Option Nat
 | [],_=>none
 | a::ks,k=>if k==a then some 0 else (a1Z ks k).map (· + 1)
theorem a8F{K V:Type}[BEq K]:∀(es:List (K × V)) (k:K),F7 es k=(a1Z (es.map (·.1)) k).bind λi=>es[i]?.map (·.2)
 | [],_=>rfl
 | p::es,k=>by
  unfold F7;rw[List.map_cons,a1Z];split;·rfl
  ·rw[a8F es k];cases a1Z (es.map (·.1)) k <;> rfl
theorem a5J{K V:Type}[BEq K]:∀(es:List (K × V)) (k:K) (v:V),h9 es k v=match a1Z (es.map (·.1)) k with
  | some i=>es.set i (k,v)
  | none=>es ++ [(k,v)]
 | [],_,_=>rfl
 | p::es,k,v=>by
  unfold h9;rw[List.map_cons,a1Z];split;·rfl
  ·rw[a5J es k v];cases a1Z (es.map (·.1)) k <;> rfl
theorem b1t{K:Type}[BEq K]:∀(ks:List K) (k:K) (i:Nat),a1Z ks k=some i→∃h:i<ks.length,(k==ks[i])=true
 | [],_,_,h=>by cases h
 | a::ks,k,i,h=>by
  rw[a1Z] at h;split at h
  ·rename_i q;cases h;exact⟨Nat.zero_lt_succ _,q⟩
  ·rw[Option.map_eq_some_iff] at h;obtain⟨j,h1,rfl⟩:=h;obtain⟨h2,h3⟩:=b1t ks k j h1;exact⟨Nat.succ_lt_succ h2,by simpa using h3⟩
def b6j{K:Type}(EK:K→PV)(ents:List MapEntry)(ks:List K)(w:World)(imm:Nat→Nat→Prop):Prop:=
 ents.length=ks.length∧∀(i:Nat) e k,ents[i]? = some e→ks[i]? = some k→Rd0 w imm e.key (EK k)
structure a6s (P:Program) (kt:TypeId) {K:Type} [BEq K] (EK:K→PV):Prop where
 check:∀ {w:World} {imm:Nat→Nat→Prop} {kv:Value} {k:K} (b:Bool),Rd0 w imm kv (EK k)→(checkKey b 10000 kt kv).run P w = .ok () w
 find:∀ {w:World} {imm:Nat→Nat→Prop} {kv:Value} {k:K} (ents:List MapEntry) (ks:List K),Rd0 w imm kv (EK k)→b6j EK ents ks w imm→(findKey kt kv ents).run P w = .ok ((a1Z ks k).bind λi=>ents[i]?.map λe=>(i,e.val)) w
 stays:∀ {w:World} {imm:Nat→Nat→Prop} {kv ku:Value} {k u:K},Rd0 w imm kv (EK k)→Rd0 w imm ku (EK u)→(k==u)=true→(keyThatStays ku kv).run P w = .ok kv w
 Y3:∀k:K,(EK k).Y3=true∧(EK k).w1=EK k
 eq:∀k u:K,(k==u)=true→k=u
theorem a6d{ik:IntKind}{n:Int}:∀(ents:List MapEntry) (ks:List Int) (i0:Nat),ents.length=ks.length→(∀(i:Nat) e k,ents[i]? = some e→ks[i]? = some k→e.key = .int ik k) →
  findNow (.int ik) (.int ik n) ents i0=some ((a1Z ks n).bind λi=>ents[i]?.map λe=>(i0+i,e.val))
 | [],[],i0,_,_=>rfl
 | e::ents,[],_,h,_=>by simp at h
 | [],k::ks,_,h,_=>by simp at h
 | e::ents,k::ks,i0,hl,h=>by
  have h0:=h 0 e k rfl rfl;rw[findNow,h0,a1Z];simp only[sameNow,if_true];by_cases q:n=k
  ·subst q;simp
  ·have q1:(n==k)=false:=by simpa using q
   rw[q1];simp only[Bool.false_eq_true,if_false];rw[a6d ents ks (i0+1) (by simpa using hl) λi e' k' h1 h2=>h (i+1) e' k' (by simpa using h1) (by simpa using h2)];cases a1Z ks n with
   | none=>rfl
   | some j=>
    simp only[Option.bind_some,Option.map_some,List.getElem?_cons_succ];rw[Nat.add_assoc,Nat.add_comm 1 j]
theorem s6{P:Program}{kt:TypeId}{ik:IntKind}(h:P.underlying kt=some (.int ik)):a6s P kt (PV.int ik) where
 check b hr:=by
  cases hr
  unfold checkKey
  simp only[Sem.run_bind,run_underlying h,Result.andThen_ok]
  rfl
 find ents ks hr hk:=by
  cases hr
  unfold findKey
  simp only[Sem.run_bind,run_underlying h,Result.andThen_ok]
  rw[a6d ents ks 0 hk.1 λi e k h1 h2=>by
   have:=hk.2 i e k h1 h2
   cases hq:e.key <;> rw[hq] at this <;> cases this
   rfl]
  simp only[Nat.zero_add]
  rfl
 stays h1 h2 he:=by
  cases h1
  cases h2
  rename_i k u
  have:k=u:=by simpa using he
  subst this
  unfold keyThatStays
  rw[if_pos (by simp[sameBits])]
  rfl
 Y3 k:=⟨rfl,rfl⟩
 eq k u h:=by simpa using h
theorem a7l{P:Program}{w:World}{b:Nat}{ents:Array MapEntry}{clock:Nat}(h:w.heap[b]? = some (.map ents clock)):(getObj b).run P w = .ok (.map ents clock) w:=by
 simp[getObj,Sem.run,h]
theorem a7G{P:Program}{w:World}{b:Nat}{ents:Array MapEntry}{clock:Nat}(o:Obj)(h:w.heap[b]? = some (.map ents clock)):(setObj b o).run P w = .ok () (w.putObj b o):=by
 simp[setObj,Sem.run,h,World.putObj]
def ent{K V:Type}(EK:K→PV)(E:V→PV)(p:K × V):PV:=.tup [EK p.1,E p.2]
def a3O(P:Program)(t:TypeId):Option (TypeId × TypeId):=match P.underlying t with | some (.map k e)=>some (k,e) | _=>none
theorem b0m{P:Program}{t k e:TypeId}(h:a3O P t=some (k,e)):P.underlying t=some (.map k e):=by
 unfold a3O at h;split at h;·rename_i h';cases h;exact h'
 ·cases h
section
variable{P:Program}{w:World}{imm:Nat→Nat→Prop}{K V:Type}[BEq K]{EK:K→PV}{E:V→PV}
theorem a0G.keys{b:Nat}{es:List (K × V)}(h:a0G w imm b (es.map (ent EK E))):∃ents clock,w.heap[b]? = some (.map ents clock)∧ents.toList.length=es.length∧b6j EK ents.toList (es.map (·.1)) w imm ∧
  ∀(i:Nat) e p,ents.toList[i]? = some e→es[i]? = some p→Rd0 w imm e.val (E p.2):=by
 rcases h with ⟨ents,clock,h1,h2,h3⟩ | ⟨s,pos,_,h2⟩;rotate_left
 ·cases es with
  | nil=>cases h2
  | cons p es=>cases h2
 have hl:ents.toList.length=es.length:=by simpa using h2
 refine⟨ents,clock,h1,hl,⟨by simpa using hl,λi e k q1 q2=>?_⟩,λi e p q1 q2=>?_⟩
 ·obtain⟨kk,vv,k1,k2,k3⟩:=h3 i e (by simpa using q1);rw[List.getElem?_map] at k1 q2;cases hq:es[i]? with
  | none=>rw[hq] at q2;cases q2
  | some p=>
   rw[hq] at k1 q2;cases q2;cases k1;exact k2
 ·obtain⟨kk,vv,k1,k2,k3⟩:=h3 i e (by simpa using q1);rw[List.getElem?_map,q2] at k1;cases k1;exact k3
theorem a0G.find{b:Nat}{es:List (K × V)}(h:a0G w imm b (es.map (ent EK E))){kt:TypeId}(hK:a6s P kt EK){kv:Value}{k:K}(hk:Rd0 w imm kv (EK k)) :
  ∃ents clock,w.heap[b]? = some (.map ents clock)∧(∀e,(checkKey e 10000 kt kv).run P w = .ok () w)∧((F7 es k=none∧a1Z (es.map (·.1)) k=none∧(findKey kt kv ents.toList).run P w = .ok none w) ∨
   ∃i e p,a1Z (es.map (·.1)) k=some i∧ents[i]? = some e∧es[i]? = some p∧F7 es k=some p.2∧(k==p.1)=true∧Rd0 w imm e.val (E p.2)∧Rd0 w imm e.key (EK p.1)∧(findKey kt kv ents.toList).run P w = .ok (some (i,e.val)) w):=by
 obtain⟨ents,clock,h1,h2,h3,h4⟩:=h.keys;refine⟨ents,clock,h1,λe=>hK.check e hk,?_⟩;have hf:=hK.find ents.toList (es.map (·.1)) hk h3;rw[a8F];cases hi:a1Z (es.map (·.1)) k with
 | none=>rw[hi] at hf;exact .inl ⟨rfl,rfl,hf⟩
 | some i=>
  obtain⟨q1,q2⟩:=b1t _ _ _ hi;have q1':i<es.length:=by simpa using q1
  have q3:i<ents.toList.length:=by omega
  rw[hi] at hf;rw[Option.bind_some,List.getElem?_eq_getElem q3] at hf;refine .inr ⟨i,ents.toList[i],es[i],rfl,?_,List.getElem?_eq_getElem q1',?_,by simpa using q2,h4 i _ _ (List.getElem?_eq_getElem q3) (List.getElem?_eq_getElem q1'),h3.2 i _ _ (List.getElem?_eq_getElem q3) (by rw[List.getElem?_map,List.getElem?_eq_getElem q1'];rfl),hf⟩;·rw[←Array.getElem?_toList,List.getElem?_eq_getElem q3]
  ·rw[Option.bind_some,List.getElem?_eq_getElem q1'];rfl
def lkV(E:V→PV)(r:Option V)(z:PV)(ok:Bool):PV:=
 if ok then .tup [match r with | some v=>E v | none=>z,.bool r.isSome] else match r with | some v=>E v | none=>z
theorem lk1(E:V→PV)(r:Option V)(z:V):lkV E r (E z) false=E (r.getD z):=by cases r <;> rfl
theorem lk2(E:V→PV)(r:Option V)(z:V):lkV E r (E z) true = .tup [E (r.getD z),.bool r.isSome]:=by cases r <;> rfl
theorem a7D{b:Nat}{es:List (K × V)}(h:a0G w imm b (es.map (ent EK E))){T kt et:TypeId}(hT:a3O P T=some (kt,et))(hK:a6s P kt EK){kv:Value}{k:K}(hk:Rd0 w imm kv (EK k)){zv:Value}(hz:r4 P et=some zv)(ok:Bool) :
  ∃v,(Instr.lookup T (.map (some b)) kv ok).run P w = .ok v w∧Rd0 w imm v (lkV E (F7 es k) (PV.ofV zv) ok):=by
 obtain⟨ents,clock,h1,h2,h3⟩:=h.find hK hk;unfold Instr.lookup;simp only[Sem.run_bind,run_underlying (b0m hT),Result.andThen_ok,a7l h1,Sem.run_pure,h2];rcases h3 with ⟨q1,_,q2⟩ | ⟨i,e,p,_,_,_,q1,_,q3,_,q4⟩
 ·rw[q1,q2];simp only[Result.andThen_ok,Sem.run_bind,a1v hz,Sem.run_pure];cases ok;·exact⟨_,rfl,a5Q _ _ _⟩
  ·refine⟨_,rfl,.tup _ _ rfl λi v c hv hc=>?_⟩;match i with
   | 0=>simp at hv hc;subst hv;subst hc;exact a5Q _ _ _
   | 1=>simp at hv hc;subst hv;subst hc;exact .bool _
   | _+2=>simp at hv
 ·rw[q1,q4];simp only[Result.andThen_ok,Sem.run_bind,Sem.run_pure];cases ok;·exact⟨_,rfl,q3⟩
  ·refine⟨_,rfl,.tup _ _ rfl λi v c hv hc=>?_⟩;match i with
   | 0=>simp at hv hc;subst hv;subst hc;exact q3
   | 1=>simp at hv hc;subst hv;subst hc;exact .bool _
   | _+2=>simp at hv
end
section
variable{X:Ctx}{g:Gh}{st:St}{a:Act}{w:World}{K V:Type}[BEq K]{EK:K→PV}{E:V→PV}
theorem b2y{l:Nat}{o o':Obj}(hl:w.heap[l]? = some o)(hc:o.isCells=false)(hc':o'.isCells=false)(b i:Nat):(w.putObj l o').cell? ⟨b,i,none⟩=w.cell? ⟨b,i,none⟩:=by
 have hlt:l<w.heap.size:=(Array.getElem?_eq_some_iff.1 hl).1;by_cases e:b=l
 ·subst e;have none_of:∀(W:World) (o:Obj),W.heap[b]? = some o→o.isCells=false→W.cell? ⟨b,i,none⟩=none:=by
   intro W o hW ho;cases hq:W.cell? ⟨b,i,none⟩ with
   | none=>rfl
   | some u=>
    obtain⟨o2,k1,k2⟩:=cells_of_cell hq;rw[show W.heap[b]? = some o2 from k1] at hW;cases hW;rw[k2] at ho;cases ho
  rw[none_of _ _ (World.putObj_heap_same hlt) hc',none_of _ _ hl hc]
 ·exact World.cell?_of_block (by rw[World.putObj_heap_other e])
theorem r7.h9(h:r7 X g st a w){l b:Nat}{r:Row}{o':Obj}{es':List PV}(hl:MB≤l)(hr:st.σ l=some r)(hrc:r.cl=false)(hA:(g.μ l).A=some ⟨b,0,none⟩)
  (ho':O3 o'=true)(hm:Ext w g.imm (w.putObj b o') g.imm→(w.putObj b o').heap[b]? = some o'→a0G (w.putObj b o') g.imm b es') :
  r7 X g ⟨st.env,o0 st.σ l (some { r with els:=[.mapc es'] })⟩ a (w.putObj b o'):=by
 obtain⟨b',es0,m1,m2,m3,m4,m5,m6⟩:=h.maps.at_ l r hl hr;rw[hA] at m2;cases m2;obtain⟨x0,q0,q0m⟩:=m4.obj;have hni:=m5 hrc;have hlt:b<w.heap.size:=(Array.getElem?_eq_some_iff.1 q0).1;have hcell:=b2y (w:=w) (o':=o') q0 (C9 q0m) (C9 ho');have hx:Ext w g.imm (w.putObj b o') g.imm:=⟨λ_ _ q=>q,λb i _=>hcell b i,λb2 i x q hx' hm'=>by
  by_cases e:b2=b
  ·subst e;exact absurd q (hni i)
  ·rw[World.putObj_heap_other e];exact hx'⟩
 have hp:∀l',st.j2 l'→St.j2 ⟨st.env,o0 st.σ l (some { r with els:=[.mapc es'] })⟩ l'∧g.μ l'=g.μ l':=by
  rintro l' ⟨r',hr'⟩;refine⟨?_,rfl⟩;by_cases e:l'=l
  ·exact⟨_,by rw[e];exact j4 _ _ _⟩
  ·exact⟨r',by rw[show (St.mk st.env (o0 st.σ l (some { r with els:=[.mapc es'] }))).σ l'=st.σ l' from e6 _ _ e];exact hr'⟩
 have hcase:∀l' r',o0 st.σ l (some { r with els:=[.mapc es'] }) l'=some r'→(l'=l∧r'={ r with els:=[.mapc es'] })∨(l'≠l∧st.σ l'=some r'):=by
  intro l' r' q;by_cases e:l'=l
  ·subst e;rw[j4] at q;cases q;exact .inl ⟨rfl,rfl⟩
  ·rw[e6 _ _ e] at q;exact .inr ⟨e,q⟩
 have hfro:∀l' r',st.σ l'=some r'→∀b2 i,A2 (g.μ l') r' b2 i→(w.putObj b o').frozen? ⟨b2,i,none⟩=w.frozen? ⟨b2,i,none⟩:=λl' r' q b2 i ho=>by
  have e:b2≠b:=λe=>by
   subst e;have:=a11 (h.rows l' r' q) ho q0;rw[q0m] at this;cases this
  unfold World.frozen?;simp only;rw[World.putObj_heap_other e]
 have hR:=h.rows l r hr;refine⟨h.size,λi=>(h.env i).mono hx hp,λl' r' q=>?_,λl1 l2 r1 r2 hne q1 q2 b' o' ho=>?_,λl' r' b' o' q ho=>?_,λb2 i q=>?_,h.immsub,h.immsup,?_,?_,λp hp=>?_,h.big,⟨λl' r' hl' q=>?_,λl1 l2 r1 r2 h1 h2 hne q1 q2 q3=>?_⟩⟩
 ·rcases hcase l' r' q with ⟨rfl,rfl⟩ | ⟨e,q'⟩
  ·refine⟨?_,hR.z,hR.C,?_,λx hx'=>?_,hR.nil,hR.spot,λi x j y hx' hy=>?_,λb2 o2 ho=>?_⟩;·rw[hR.n,m1];rfl
   ·exact hR.lo
   ·simp only[List.mem_singleton] at hx';subst hx';refine⟨rfl,?_⟩;have:=(hR.el _ (by rw[m1];exact List.mem_cons_self ..)).2;rw[←this];rfl
   ·have:x = .mapc es':=by
     cases i with
     | zero=>simp at hx';exact hx'.symm
     | succ i=>simp at hx'
    subst this;cases hy
   ·obtain⟨k1,k2,k3⟩:=hR.own b2 o2 ho;exact⟨k1,by rw[hcell];exact k2,by rw[hfro _ _ hr _ _ ho];exact k3⟩
  ·exact (h.rows l' r' q').mono hx hp λb2 i ho=>⟨hcell b2 i,hfro l' r' q' b2 i ho⟩
 ·rcases hcase l1 r1 q1 with ⟨rfl,rfl⟩ | ⟨e1,q1'⟩ <;> rcases hcase l2 r2 q2 with ⟨rfl,rfl⟩ | ⟨e2,q2'⟩
  ·exact absurd rfl hne
  ·exact λk=>h.disj l1 l2 r r2 hne hr q2' b' o' ho k
  ·exact λk=>h.disj l1 l2 r1 r hne q1' hr b' o' ho k
  ·exact h.disj l1 l2 r1 r2 hne q1' q2' b' o' ho
 ·rcases hcase l' r' q with ⟨rfl,rfl⟩ | ⟨e,q'⟩;·exact h.ownimm l' r b' o' hr ho
  ·exact h.ownimm l' r' b' o' q' ho
 ·have:=h.immlt b2 i q;simpa[World.putObj] using this
 ·exact h.below.trans ⟨⟨rfl,rfl,rfl,by simp[World.putObj],λk hk=>World.putObj_heap_other (by omega)⟩,Nat.le_refl _⟩
 ·obtain⟨rs,h1,h2,h3⟩:=h.marks;refine⟨rs,h1,h2,λr hr=>⟨?_,(h3 r hr).2⟩⟩;rw[World.putObj_heap_other (λe=>by subst e;have h4:=(h3 _ hr).1;rw[q0] at h4;cases h4;cases q0m)];exact (h3 r hr).1
 ·obtain⟨k1,k2,k3⟩:=h.obs p hp;refine⟨?_,k2,k3⟩;rw[World.putObj_heap_other (λe=>by rw[e,q0] at k1;rw[←Option.some.inj k1,q0m] at k3;cases k3)];exact k1
 ·have apart':=h.maps.apart;rcases hcase l' r' q with ⟨rfl,rfl⟩ | ⟨e,q'⟩;·exact⟨b,es',rfl,hA,m3,hm hx (World.putObj_heap_same hlt),m5,m6⟩
  ·obtain⟨b2,es2,n1,n2,n3,n4,n5,n6⟩:=h.maps.at_ l' r' hl' q';have hne:b2≠b:=λe2=>by
    subst e2;exact h.maps.apart l l' r r' hl hl' (Ne.symm e) hr q' hrc (by rw[hA,n2])
   exact⟨b2,es2,n1,n2,n3,n4.mono hx λo k1 k2=>by rw[World.putObj_heap_other hne];exact k1,n5,n6⟩
 ·have f:∀l' q,o0 st.σ l (some { r with els:=[.mapc es'] }) l'=some q→∃q',st.σ l'=some q'∧q'.cl=q.cl:=λl' q hq=>by
   rcases hcase l' q hq with ⟨rfl,rfl⟩ | ⟨e,q'⟩;·exact⟨r,hr,rfl⟩
   ·exact⟨q,q',rfl⟩
  obtain⟨s1,k1,k2⟩:=f l1 r1 q1;obtain⟨s2,k3,_⟩:=f l2 r2 q2;exact h.maps.apart l1 l2 s1 s2 h1 h2 hne k1 k3 (by rw[k2];exact q3)
theorem r7.b66(h:r7 X g st a w){l b:Nat}{r:Row}{ents':Array MapEntry}{clock':Nat}{es':List PV}(hl:MB≤l)(hr:st.σ l=some r)(hrc:r.cl=false)(hA:(g.μ l).A=some ⟨b,0,none⟩)
  (hn:ents'.size=es'.length)(hm:∀(i:Nat) e,ents'[i]? = some e→∃k v,es'[i]? = some (.tup [k,v])∧Rd0 w g.imm e.key k∧Rd0 w g.imm e.val v) :
  r7 X g ⟨st.env,o0 st.σ l (some { r with els:=[.mapc es'] })⟩ a (w.putObj b (.map ents' clock')):=by
 refine h.h9 hl hr hrc hA rfl λhx hp=>.inl ⟨ents',clock',hp,hn,λi e hi=>?_⟩;obtain⟨k,v,k1,k2,k3⟩:=hm i e hi;exact⟨k,v,k1,k2.mono hx,k3.mono hx⟩
theorem r7.b4T(h:r7 X g st a w){l:Nat}{o:Obj}{es:List PV}(ho:O3 o=true)(hm:(w.alloc o).heap[w.heap.size]? = some o→a0G (w.alloc o) g.imm w.heap.size es)(hl:MB≤l)(hn:st.σ l=none) :
  r7 X ⟨g.imm,o0 g.μ l ⟨some ⟨w.heap.size,0,none⟩,1,1,0⟩⟩ ⟨st.env,o0 st.σ l (some ⟨[.mapc es],0,false,0,false⟩)⟩ a (w.alloc o):=by
 have h1:=h.alloc o;have hno:∀b o,¬A2 ⟨some ⟨w.heap.size,0,none⟩,1,1,0⟩ ⟨[.mapc es],0,false,0,false⟩ b o:=by
  rintro b o ⟨s,_,k1,k2⟩;simp only[Nat.mul_zero,Nat.add_zero] at k1 k2;omega
 have hp:∀l',st.j2 l'→St.j2 ⟨st.env,o0 st.σ l (some ⟨[.mapc es],0,false,0,false⟩)⟩ l'∧o0 g.μ l ⟨some ⟨w.heap.size,0,none⟩,1,1,0⟩ l'=g.μ l':=by
  rintro l' ⟨r',hr'⟩;have hne:l'≠l:=λe=>by subst e;rw[hn] at hr';cases hr'
  exact⟨⟨r',by simpa[e6 _ _ hne] using hr'⟩,e6 _ _ hne⟩
 have hcase:∀l' r',o0 st.σ l (some ⟨[.mapc es],0,false,0,false⟩) l'=some r'→(l'=l∧r'=⟨[.mapc es],0,false,0,false⟩)∨(l'≠l∧st.σ l'=some r'):=by
  intro l' r' q;by_cases e:l'=l
  ·subst e;rw[j4] at q;cases q;exact .inl ⟨rfl,rfl⟩
  ·rw[e6 _ _ e] at q;exact .inr ⟨e,q⟩
 have hnew:(w.alloc o).heap[w.heap.size]? = some o:=World.alloc_heap_new ..;refine⟨h1.size,λi=>(h1.env i).mono (Ext.refl _ _) hp,λl' r' q=>?_,λl1 l2 r1 r2 hne q1 q2 b o ho=>?_,λl' r' b o q ho=>?_,h1.immlt,h1.immsub,h1.immsup,h1.below,h1.marks,h1.obs,h1.big,⟨λl' r' hl' q=>?_,λl1 l2 r1 r2 k1 k2 hne q1 q2 q3=>?_⟩⟩
 ·rcases hcase l' r' q with ⟨rfl,rfl⟩ | ⟨e,q'⟩
  ·simp only[j4];refine⟨rfl,rfl,Nat.le_refl _,Nat.zero_le _,λx hx=>?_,(λq=>by cases q),λ_=>⟨_,_,rfl⟩,λi x j y hx hy=>?_,λb o ho=>absurd ho (hno b o)⟩;·simp only[List.mem_singleton] at hx;subst hx;exact⟨rfl,rfl⟩
   ·have:x = .mapc es:=by
     cases i with
     | zero=>simp at hx;exact hx.symm
     | succ i=>simp at hx
    subst this;cases hy
  ·simp only[e6 _ _ e];exact (h1.rows l' r' q').mono (Ext.refl _ _) hp λ_ _ _=>⟨rfl,rfl⟩
 ·rcases hcase l1 r1 q1 with ⟨rfl,rfl⟩ | ⟨e1,q1'⟩ <;> rcases hcase l2 r2 q2 with ⟨rfl,rfl⟩ | ⟨e2,q2'⟩
  ·exact absurd rfl hne
  ·simp only[j4] at ho;exact absurd ho (hno b o)
  ·simp only[j4];exact hno b o
  ·simp only[e6 _ _ e1,e6 _ _ e2] at ho ⊢;exact h1.disj l1 l2 r1 r2 hne q1' q2' b o ho
 ·rcases hcase l' r' q with ⟨rfl,rfl⟩ | ⟨e,q'⟩;·simp only[j4] at ho;exact absurd ho (hno b o)
  ·simp only[e6 _ _ e] at ho;exact h1.ownimm l' r' b o q' ho
 ·rcases hcase l' r' q with ⟨rfl,rfl⟩ | ⟨e,q'⟩
  ·simp only[j4];refine⟨w.heap.size,es,rfl,rfl,h.below.size,hm hnew,λ_ o q=>?_,λq=>by cases q⟩;exact absurd (h.immlt _ _ q) (Nat.lt_irrefl _)
  ·simp only[e6 _ _ e];exact h1.maps.at_ l' r' hl' q'
 ·have old:∀l' r',MB≤l'→st.σ l'=some r'→(g.μ l').A≠some ⟨w.heap.size,0,none⟩:=λl' r' hl' q e=>by
   obtain⟨b,es,_,n2,_,n4,_⟩:=h.maps.at_ l' r' hl' q;rw[e] at n2;cases n2;obtain⟨_,n5,_⟩:=n4.obj;exact absurd (Array.getElem?_eq_some_iff.1 n5).1 (Nat.lt_irrefl _)
  rcases hcase l1 r1 q1 with ⟨rfl,rfl⟩ | ⟨e1,q1'⟩ <;> rcases hcase l2 r2 q2 with ⟨rfl,rfl⟩ | ⟨e2,q2'⟩
  ·exact absurd rfl hne
  ·simp only[j4,e6 _ _ e2];exact λq=>old l2 r2 k2 q2' q.symm
  ·simp only[j4,e6 _ _ e1];exact old l1 r1 k1 q1'
  ·simp only[e6 _ _ e1,e6 _ _ e2];exact h1.maps.apart l1 l2 r1 r2 k1 k2 hne q1' q2' q3
theorem r7.b65(h:r7 X g st a w){l:Nat}(hl:MB≤l)(hn:st.σ l=none) :
  r7 X ⟨g.imm,o0 g.μ l ⟨some ⟨w.heap.size,0,none⟩,1,1,0⟩⟩ ⟨st.env,o0 st.σ l (some ⟨[.mapc []],0,false,0,false⟩)⟩ a (w.alloc (.map #[] 0)):=by
 exact h.b4T rfl (λhp=>.inl ⟨#[],0,hp,rfl,λi e hi=>by simp at hi⟩) hl hn
theorem a9D{s:St}(t l:Nat){es:List PV}{lo z:Nat}{opn:Bool}(ht:s.env t = .mp l)(hr:s.σ l=some ⟨[.mapc es],lo,opn,z,false⟩) :
  Wk s ⟨o0 s.env t (.abs (I0 es)),o0 s.σ l (some ⟨[.mapc es],lo,opn,z,true⟩)⟩:=λX g a w h=>by
 have hv:=h.env t;rw[ht] at hv;obtain⟨_,hl,b,hA,hb⟩:=hv.a7u;obtain⟨b',es0,m1,m2,m3,m4,m5,m6⟩:=h.maps.at_ l _ hl hr;rw[hA] at m2;cases m2;cases m1;obtain⟨x0,q0,q0m⟩:=m4.obj;have hx:Ext w g.imm w (λb2 o=>g.imm b2 o∨b2=b):=⟨λ_ _ q=>.inl q,λ_ _ _=>rfl,λ_ _ _ _ q _=>q⟩;have hp:∀l',s.j2 l'→St.j2 ⟨o0 s.env t (.abs (I0 es)),o0 s.σ l (some ⟨[.mapc es],lo,opn,z,true⟩)⟩ l'∧g.μ l'=g.μ l':=by
  rintro l' ⟨r',hr'⟩;refine⟨?_,rfl⟩;by_cases e:l'=l
  ·exact⟨_,by rw[e];exact j4 _ _ _⟩
  ·exact⟨r',by rw[show (St.mk (o0 s.env t (.abs (I0 es))) (o0 s.σ l (some ⟨[.mapc es],lo,opn,z,true⟩))).σ l'=s.σ l' from e6 _ _ e];exact hr'⟩
 have hcase:∀l' r',o0 s.σ l (some ⟨[.mapc es],lo,opn,z,true⟩) l'=some r'→(l'=l∧r'=⟨[.mapc es],lo,opn,z,true⟩)∨(l'≠l∧s.σ l'=some r'):=by
  intro l' r' q;by_cases e:l'=l
  ·subst e;rw[j4] at q;cases q;exact .inl ⟨rfl,rfl⟩
  ·rw[e6 _ _ e] at q;exact .inr ⟨e,q⟩
 have hR:=h.rows l _ hr;have hlt:b<w.heap.size:=(Array.getElem?_eq_some_iff.1 q0).1;refine⟨⟨λb2 o=>g.imm b2 o∨b2=b,g.μ⟩,⟨h.size,λi=>?_,λl' r' q=>?_,λl1 l2 r1 r2 hne q1 q2 b' o' ho=>?_,λl' r' b' o' q ho=>?_,λb2 o q=>?_,λb2 o q=>?_,λb2 o q=>.inl (h.immsup b2 o q),h.below,h.marks,h.obs,h.big,⟨λl' r' hl' q=>?_,λl1 l2 r1 r2 h1 h2 hne q1 q2 q3=>?_⟩⟩⟩
 ·by_cases e:i=t
  ·subst e;rw[show (St.mk (o0 s.env i (.abs (I0 es))) (o0 s.σ l (some ⟨[.mapc es],lo,opn,z,true⟩))).env i = .abs (I0 es) from j4 _ _ _,hb];exact .cl (b0e ⟨b,rfl,.inr rfl,m4.mono hx λo k1 k2=>k1⟩)
  ·rw[show (St.mk (o0 s.env t (.abs (I0 es))) (o0 s.σ l (some ⟨[.mapc es],lo,opn,z,true⟩))).env i=s.env i from e6 _ _ e];exact (h.env i).mono hx hp
 ·rcases hcase l' r' q with ⟨rfl,rfl⟩ | ⟨e,q'⟩
  ·refine⟨hR.n,hR.z,hR.C,hR.lo,hR.el,hR.nil,hR.spot,λi x j y hx' hy=>?_,λb2 o2 ho=>hR.own b2 o2 ho⟩;have:x = .mapc es:=by
    cases i with
    | zero=>simp at hx';exact hx'.symm
    | succ i=>simp at hx'
   subst this;cases hy
  ·exact (h.rows l' r' q').mono hx hp λ_ _ _=>⟨rfl,rfl⟩
 ·rcases hcase l1 r1 q1 with ⟨rfl,rfl⟩ | ⟨e1,q1'⟩ <;> rcases hcase l2 r2 q2 with ⟨rfl,rfl⟩ | ⟨e2,q2'⟩
  ·exact absurd rfl hne
  ·exact λk=>h.disj l1 l2 _ r2 hne hr q2' b' o' ho k
  ·exact λk=>h.disj l1 l2 r1 _ hne q1' hr b' o' ho k
  ·exact h.disj l1 l2 r1 r2 hne q1' q2' b' o' ho
 ·have own':∀r0,s.σ l'=some r0→A2 (g.μ l') r0 b' o'→¬(g.imm b' o'∨b'=b):=λr0 q0' ho' k=>by
   rcases k with k | k
   ·exact h.ownimm l' r0 b' o' q0' ho' k
   ·subst k;have:=a11 (h.rows l' r0 q0') ho' q0;rw[q0m] at this;cases this
  rcases hcase l' r' q with ⟨rfl,rfl⟩ | ⟨e,q'⟩;·exact own' _ hr ho
  ·exact own' _ q' ho
 ·rcases q with q | rfl
  ·exact h.immlt b2 o q
  ·exact hlt
 ·rcases q with q | rfl
  ·exact h.immsub b2 o q
  ·exact .inr m3
 ·rcases hcase l' r' q with ⟨rfl,rfl⟩ | ⟨e,q'⟩;·exact⟨b,es,rfl,hA,m3,m4.mono hx λo k1 k2=>k1,λq=>(by cases q),λ_=>.inr rfl⟩
  ·obtain⟨b2,es2,n1,n2,n3,n4,n5,n6⟩:=h.maps.at_ l' r' hl' q';have hne:b2≠b:=λe2=>by
    subst e2;exact h.maps.apart l l' _ r' hl hl' (Ne.symm e) hr q' rfl (by rw[hA,n2])
   exact⟨b2,es2,n1,n2,n3,n4.mono hx λo k1 k2=>k1,λc o k=>k.elim (n5 c o) hne,λc=>.inl (n6 c)⟩
 ·rcases hcase l1 r1 q1 with ⟨rfl,rfl⟩ | ⟨e1,q1'⟩;·cases q3
  ·rcases hcase l2 r2 q2 with ⟨rfl,rfl⟩ | ⟨e2,q2'⟩;·exact h.maps.apart l1 l2 r1 _ h1 h2 hne q1' hr q3
   ·exact h.maps.apart l1 l2 r1 r2 h1 h2 hne q1' q2' q3
end
theorem Rd.a6H{w:World}{imm:Nat→Nat→Prop}{μ:Nat→A6}{j2:Nat→Prop}{v:Value}{R:World→(Nat→Nat→Prop)→Value→Prop}(h:Rd w imm μ j2 v (.abs R)):R w imm v:=by
 generalize hd:PV.abs R=d at h;cases h <;> try cases hd
 rename_i h;generalize hd':PV.abs R=d' at h;cases h <;> cases hd'
 rename_i _ h;exact h w imm (Ext.refl _ _)
section
variable{X:Ctx}{ops:Array Oper}{i:Nat}{os:List Oper}{K:Ctx→St→Prop}{env:Nat→PV}{σ:Nat→Option Row}{ty:TypeId}{pos:String}{after:Array Edge}{gd:Option (Nat × Bool)}{t:Tmp}{KT VT:Type}[BEq KT]{EK:KT→PV}{E:VT→PV}
theorem a0i{o:Oper}{st:St}(ho:ops[i]? = some o)(hw:s9 ops st.env o=some true)(hnd:∀c,o.op ≠ .defer c)
  (h:∀g a w,r7 X g st a w→∃v w' g' st' d,(execOp a.eval o).run X.P w = .ok (.value v) w'∧r7 X g' st' a w'∧Rd w' g'.imm g'.μ st'.j2 v d∧K X ⟨F3 st'.env o.dst d,st'.σ⟩):Opq X ops i K st:=by
 intro hd n g a w next Qo hs hq;unfold wpOpIn;rw[ho];simp only;rw[if_pos (F9 hs hw)];obtain⟨v,w',g',st',d,h1,h2,h3,h4⟩:=h g a w hs;exact w5 hnd h1 (hq X _ _ _ _ (h2.put (y8 hd ho) h3) ⟨⟨rfl,rfl⟩,rfl⟩ h4)
theorem b21{o:Oper}{st:St}(ho:ops[i]? = some o)(hw:s9 ops st.env o=some true)(hnd:∀c,o.op ≠ .defer c)(hdst:o.dst=none)
  (h:∀g a w,r7 X g st a w→∃w' g' st',(execOp a.eval o).run X.P w = .ok .skip w'∧r7 X g' st' a w'∧K X st'):Opq X ops i K st:=by
 intro hd n g a w next Qo hs hq;unfold wpOpIn;rw[ho];simp only;rw[if_pos (F9 hs hw)];obtain⟨w',g',st',h1,h2,h4⟩:=h g a w hs;refine a5M hnd h1 ?_;rw[hdst];exact hq X _ _ _ _ h2 ⟨⟨rfl,rfl⟩,rfl⟩ h4
theorem a8R{T:TypeId}(l:Nat)(hw:s9 ops env ⟨some t,.makeMap T none,ty,pos,after,gd⟩=some true)(hn:σ l=none)(k:Sq X ops (i+1) os K ⟨o0 env t (.mp l),o0 σ l (some ⟨[.mapc (([]:List (KT × VT)).map (ent EK E))],0,false,0,false⟩)⟩)(hl:MB≤l:=by exact Nat.le_of_ble_eq_true rfl) :
  Sq X ops i (⟨some t,.makeMap T none,ty,pos,after,gd⟩::os) K ⟨env,σ⟩:=B7 λho=>a0i ho hw (λc q=>by cases q) λg a w hs=>
 ⟨_,_,_,_,.mp l,y5 (run_makeMap T w),hs.b65 hl hn,.mp l _ ⟨_,j4 _ _ _⟩ hl (congrArg A6.A (j4 _ _ _)),k⟩
theorem b3i{T kt et:TypeId}{x y:Operand}{ok:Bool}{l lo z:Nat}{opn cl:Bool}{es:List (KT × VT)}{k:KT}{zv:Value}{d z0:PV}(hw:s9 ops env ⟨some t,.lookup T x y ok,ty,pos,after,gd⟩=some true)(hx:p6 env x = .mp l)(hl:σ l=some ⟨[.mapc (es.map (ent EK E))],lo,opn,z,cl⟩)
  (hy:p6 env y=EK k)(hT:a3O X.P T=some (kt,et))(hK:a6s X.P kt EK)(hz:r4 X.P et=some zv)(hz0:(PV.ofV zv).w1=z0)(hd:(lkV E (F7 es k) z0 ok)=d)
  (kk:Sq X ops (i+1) os K ⟨o0 env t d,σ⟩):Sq X ops i (⟨some t,.lookup T x y ok,ty,pos,after,gd⟩::os) K ⟨env,σ⟩:=B7 λho=>a0i ho hw (λc q=>by cases q) λg a w hs=>by
 have hxv:=hs.eval x;rw[show p6 (St.env ⟨env,σ⟩) x=_ from hx] at hxv;obtain⟨_,hlm,b,hA,e⟩:=hxv.a7u;have hyv:=hs.eval y;rw[show p6 (St.env ⟨env,σ⟩) y=_ from hy] at hyv;obtain⟨b',es0,m1,m2,m3,m4,_⟩:=hs.maps.at_ l _ hlm hl;rw[hA] at m2;cases m2;cases m1;obtain⟨v,h1,h2⟩:=a7D (P:=X.P) m4 hT hK (hyv.Y3 (hK.Y3 k).1) hz ok;refine⟨v,w,g,_,d,y5 (by rw[e];exact h1),hs,?_,kk⟩;rw[←hd,←hz0];cases hm:F7 es k with
 | some u=>rw[hm] at h2;cases ok <;> exact .cl h2
 | none=>
  rw[hm] at h2;cases ok;·exact .cl h2.w1
  ·refine .cl ?_;cases h2 with
   | tup vs _ hn h=>
    refine .tup vs _ hn λi v c hv hc=>?_;match i with
    | 0=>simp at hc;subst hc;exact (h 0 v _ hv rfl).w1
    | 1=>simp at hc;subst hc;exact h 1 v _ hv rfl
    | _+2=>simp at hc
theorem b3k{op:Op}{T kt et:TypeId}{x y u:Operand}{l lo z:Nat}{opn:Bool}{es:List (KT × VT)}{k:KT}{v:VT}(hop:op = .mapUpdate T x y u∨op = .insert T x y u)(hw:s9 ops env ⟨none,op,ty,pos,after,gd⟩=some true)(hx:p6 env x = .mp l)
  (hl:σ l=some ⟨[.mapc (es.map (ent EK E))],lo,opn,z,false⟩)(hy:p6 env y=EK k)(hu:∀(w:World) (imm:Nat→Nat→Prop) (μ:Nat→A6) (j2:Nat→Prop) (q:Value),Rd w imm μ j2 q (p6 env u)→Rd w imm μ j2 q (E v))(hE:(E v).Y3=true)(hT:a3O X.P T=some (kt,et))(hK:a6s X.P kt EK)
  (kk:Sq X ops (i+1) os K ⟨env,o0 σ l (some ⟨[.mapc ((h9 es k v).map (ent EK E))],lo,opn,z,false⟩)⟩):Sq X ops i (⟨none,op,ty,pos,after,gd⟩::os) K ⟨env,σ⟩:=B7 λho=>b21 ho hw (λc q=>by rcases hop with rfl | rfl <;> cases q) rfl λg a w hs=>by
 have hxv:=hs.eval x;rw[show p6 (St.env ⟨env,σ⟩) x=_ from hx] at hxv;obtain⟨_,hlm,b,hA,e⟩:=hxv.a7u;have hyv:=hs.eval y;rw[show p6 (St.env ⟨env,σ⟩) y=_ from hy] at hyv;have hy0:=hyv.Y3 (hK.Y3 k).1;have huv:=hu _ _ _ _ _ (hs.eval u);have hu0:=huv.Y3 hE;obtain⟨b',es0,m1,m2,m3,m4,_⟩:=hs.maps.at_ l _ hlm hl;rw[hA] at m2;cases m2;cases m1;have hrun:∃ents' clock',(Instr.mapUpdate T (.map (some b)) (a.eval y) (a.eval u)).run X.P w = .ok () (w.putObj b (.map ents' clock'))∧ents'.size=((h9 es k v).map (ent EK E)).length ∧
   ∀(i:Nat) e,ents'[i]? = some e→∃k' v',((h9 es k v).map (ent EK E))[i]? = some (.tup [k',v'])∧Rd0 w g.imm e.key k'∧Rd0 w g.imm e.val v':=by
  obtain⟨ents,clock,h1,h2,h3⟩:=m4.find hK hy0;obtain⟨ents2,clock2,g1,g2,g3,g4⟩:=m4.keys;rw[h1] at g1;cases g1;unfold Instr.mapUpdate;simp only[Sem.run_bind,run_underlying (b0m hT),Result.andThen_ok,a7l h1,h2];have hsz:ents.size=es.length:=by simpa using g2
  have old:∀(i:Nat) e,ents[i]? = some e→∃p,es[i]? = some p∧Rd0 w g.imm e.key (EK p.1)∧Rd0 w g.imm e.val (E p.2):=λi e hi=>by
   have hlt:i<es.length:=by rw[←hsz];exact (Array.getElem?_eq_some_iff.1 hi).1
   have hi':ents.toList[i]? = some e:=by simpa using hi
   exact⟨es[i],List.getElem?_eq_getElem hlt,g3.2 i e _ hi' (by rw[List.getElem?_map,List.getElem?_eq_getElem hlt];rfl),g4 i e _ hi' (List.getElem?_eq_getElem hlt)⟩
  rcases h3 with ⟨q1,q2,q3⟩ | ⟨j,e1,p,q1,q2,q3,q4,q5,q6,q7,q8⟩
  ·rw[q3,a5J,q2];simp only[Result.andThen_ok,a7G _ h1];refine⟨_,_,rfl,by simp[hsz],λi e' hi=>?_⟩;rw[Array.getElem?_push] at hi;split at hi
   ·rename_i hie;cases hi;refine⟨EK k,E v,?_,hy0,hu0⟩;rw[List.getElem?_map,hie,hsz,List.getElem?_append_right (Nat.le_refl _),Nat.sub_self];rfl
   ·obtain⟨p,k1,k2,k3⟩:=old i e' hi;refine⟨_,_,?_,k2,k3⟩;rw[List.getElem?_map,List.getElem?_append_left (r6 k1),k1];rfl
  ·have hst:=hK.stays hy0 q7 q5;rw[q8,a5J,q1];refine⟨ents.modify j λe=>{ e with key:=a.eval y,val:=a.eval u },clock,?_,by simp[hsz],λi e' hi=>?_⟩;·simp only[Result.andThen_ok,q2,Option.map_some,Option.getD_some,Sem.run_bind,hst,a7G _ h1]
   rw[Array.getElem?_modify] at hi;split at hi
   ·rename_i hji;subst hji;rw[q2] at hi;cases hi;refine⟨EK k,E v,?_,hy0,hu0⟩;rw[List.getElem?_map,List.getElem?_set_self (r6 q3)];rfl
   ·rename_i hji;obtain⟨p,k1,k2,k3⟩:=old i e' hi;refine⟨_,_,?_,k2,k3⟩;rw[List.getElem?_map,List.getElem?_set_ne hji,k1];rfl
 obtain⟨ents',clock',h1,h2,h3⟩:=hrun;refine⟨_,g,_,?_,hs.b66 (clock':=clock') hlm hl rfl hA h2 h3,kk⟩;rcases hop with rfl | rfl
 ·exact b1F (by rw[e];exact h1)
 ·exact b1F (by rw[e];exact h1)
theorem z7{op:Op}{T kt et:TypeId}{x y u:Operand}{l lo z:Nat}{opn:Bool}{es:List (KT × VT)}{k:KT}{v:VT}(hop:op = .mapUpdate T x y u∨op = .insert T x y u)(hw:s9 ops env ⟨none,op,ty,pos,after,gd⟩=some true)(hx:p6 env x = .mp l)
  (hl:σ l=some ⟨[.mapc (es.map (ent EK E))],lo,opn,z,false⟩)(hy:p6 env y=EK k)(hu:(p6 env u).w1=E v)(hE:(E v).Y3=true)(hT:a3O X.P T=some (kt,et))(hK:a6s X.P kt EK)
  (kk:Sq X ops (i+1) os K ⟨env,o0 σ l (some ⟨[.mapc ((h9 es k v).map (ent EK E))],lo,opn,z,false⟩)⟩):Sq X ops i (⟨none,op,ty,pos,after,gd⟩::os) K ⟨env,σ⟩:=b3k hop hw hx hl hy (λ_ _ _ _ _ q=>hu▸q.w1) hE hT hK kk
end
section
variable{P:Program}{σ:Nat→Option Row}{ρ:Operand→PV}{dst:Option Tmp}{KT VT:Type}[BEq KT]{EK:KT→PV}{E:VT→PV}
theorem b2Q{W:PV→PV}(hW:∀ {w:World} {imm:Nat→Nat→Prop} {v:Value} {d:PV},Rd0 w imm v d→Rd0 w imm v (W d)){T kt et:TypeId}{x y:Operand}{ok:Bool}{es:List (KT × VT)}{k:KT}{zv:Value}{d z0:PV}(hx:ρ x = .abs (I0 (es.map (ent EK E))))(hy:ρ y=EK k)(hT:a3O P T=some (kt,et))(hK:a6s P kt EK)(hz:r4 P et=some zv)
  (hz0:W (PV.ofV zv)=z0)(hd:(lkV E (F7 es k) z0 ok)=d):u6 P σ ρ dst (.lookup T x y ok) d .none:=by
 refine .pureV _ _ (λc q=>by cases q) (λT x q=>by cases q) λo w imm μ j2 ev ho hev=>?_;have hxv:=hev x (by simp[Op.operands]);have hyv:=hev y (by simp[Op.operands]);rw[hx] at hxv;rw[hy] at hyv;have hy0:=hyv.Y3 (hK.Y3 k).1;have:I0 (es.map (ent EK E)) w imm (ev x):=hxv.a6H;obtain⟨b,e,_,m4⟩:=this;obtain⟨v,h1,h2⟩:=a7D (P:=P) m4 hT hK hy0 hz ok;obtain⟨dst,op,ty,pos,after,guard⟩:=o;simp only at ho;subst ho;refine⟨v,y5 (by rw[e];exact h1),?_⟩;rw[←hd,←hz0];cases hm:F7 es k with
 | some u=>rw[hm] at h2;cases ok <;> exact .cl h2
 | none=>
  rw[hm] at h2;cases ok;·exact .cl (hW h2)
  ·refine .cl ?_;cases h2 with
   | tup vs _ hn h=>
    refine .tup vs _ hn λi v c hv hc=>?_;match i with
    | 0=>simp at hc;subst hc;exact hW (h 0 v _ hv rfl)
    | 1=>simp at hc;subst hc;exact h 1 v _ hv rfl
    | _+2=>simp at hc
theorem b0d{T kt et:TypeId}{x y:Operand}{ok:Bool}{es:List (KT × VT)}{k:KT}{zv:Value}{d z0:PV}(hx:ρ x = .abs (I0 (es.map (ent EK E))))(hy:ρ y=EK k)(hT:a3O P T=some (kt,et))(hK:a6s P kt EK)(hz:r4 P et=some zv)
  (hz0:(PV.ofV zv).w1=z0)(hd:(lkV E (F7 es k) z0 ok)=d):u6 P σ ρ dst (.lookup T x y ok) d .none:=b2Q (W:=PV.w1) (λq=>q.w1) hx hy hT hK hz hz0 hd
end
end Go.Pw
namespace Go.Pw
open Go.RowKit
section
variable{X:Ctx}{g:Gh}{st:St}{a:Act}{w:World}{n:Nat}{K:Act→World→Prop}{Q:Exit→Act→World→Prop}{ρ:Option Nat}{P:Program}
theorem b2u{R0:List (Nat × Row)}:∀ {R:List (Nat × Row)},Ar R0 st R→∀p∈R,a0H id R0 st.σ p
 | [],_,_,h=>by cases h
 | _::_,h,p,hp=>by
  rcases List.mem_cons.1 hp with rfl | hp
  ·exact h.1
  ·exact b2u h.2 p hp
theorem b5P(h:r7 X g st a w){L:List (Nat × PV)}{R:List (Nat × Row)}(hR:Ar R st R){l:Nat}{r:Row}(hl:(St.of L R).σ l=some r):∃r1,st.σ l=some r1∧∀b o,A2 (g.μ l) r b o→A2 (g.μ l) r1 b o:=by
 obtain⟨r1,k1,_,k2,k3,k4,_,k6⟩:=b2u hR _ (Q7 hl);refine⟨r1,k1,?_⟩;rintro b o ⟨s',hA,q1,q2⟩;have hC:=(h.rows _ _ k1).C;refine⟨s',hA,by simp only at k3;rw[k3];exact q1,?_⟩;have:(if r.opn then (g.μ l).C else (g.μ l).n)*(g.μ l).z≤(if r1.opn then (g.μ l).C else (g.μ l).n)*(g.μ l).z:=Nat.mul_le_mul_right _ (by
  simp only[id] at hC;cases q:r.opn;·simp only[Bool.false_eq_true,if_false];split <;> omega
  ·rw[k4 q];exact Nat.le_refl _)
 omega
theorem b5L{o:Oper}{x y:Operand}{T E:TypeId}{ys:List PV}{z by_ l s:Nat}{r:Row}{zv:Value}(L:List (Nat × PV))(R:List (Nat × Row))(h:r7 X g st a w)(hAg:Ag R st L)(hAr:Ar R st R)(hsR:R.lookup s=none)
  (ho:o.op = .call { callee:=.builtin .append,args:=#[x,y],argTypes:=#[T,T] })(hdst:∀t,o.dst=some t→t<X.N)(hlm:l<MB)(hl:R.lookup l=none)
  (hx:p6 st.env x = .sl s)(hsr:st.σ s=some r)(hop:r.opn=true)(hlo0:r.lo=0)(hcl:r.cl=true)(hy:Src st.σ (p6 st.env y) ys true)(hE:r5 X.P T=some E)(hz:l5 X.P E=some z)(hb:C2 X.P E=some by_)(hzv:r4 X.P E=some zv)
  (hzz:zv.cells.size=z)(hel:∀e∈r.els++ys,e.cells.length=z)(hrz:r.z=z)(hfit:(r.els.length+ys.length)*by_≤140737488355328)(h63:r.els.length+ys.length≤9223372036854775807)
  (hK:∀g' a' w',r7 X g' ⟨F3 (b2E L) o.dst (.sl l),o0 (rowsOf R) l (some ⟨r.els++ys,0,true,z,true⟩)⟩ a' w'→K a' w'):o.wpIn (FX ρ) n X.P a w K Q:=by
 have hnd:∀c,o.op ≠ .defer c:=λc=>by rw[ho];simp
 have hv:=h.eval x;have hu:=h.eval y;rw[hx] at hv;obtain⟨hp,e⟩:=hv.O6;have hR:=h.rows s r hsr;obtain⟨B,cB,vals,eB,hyel,hlv,hvr,hone,hvc⟩:=Src.reads h hu hy (z:=z) (λy hy=>hel y (List.mem_append_right _ hy));have hD:r7 X g (St.of L R) a w:=b3g L R hAg hAr X g a w h;have hDl:(St.of L R).σ l=none:=hl;have hDs:(St.of L R).σ s=none:=hsR;have hmz:(g.μ s).z=z:=by rw[hR.z,hrz]
 rcases Nat.lt_or_ge (g.μ s).C ((g.μ s).n+ys.length) with hbig | hroom
 ·-- a new block
  have hm:0<ys.length:=by have:=hR.C;omega
  obtain⟨bB,sB,rfl,hBc⟩:=hvc hm;obtain⟨A',cA,olds,eA,hxel,hlo,hor,_,hoc⟩:=Src.reads h hv (.inr ⟨s,r,rfl,hsr,rfl,rfl⟩:Src st.σ (.sl s) r.els r.cl) (z:=z) (λy hy=>hel y (List.mem_append_left _ hy));rw[e] at eA;simp only[Value.slice.injEq] at eA;obtain⟨rfl,hn',rfl⟩:=eA;rw[hn'] at e hbig;obtain⟨C',cs,hr,hC',hcs,rest,hrest⟩:=a0z (P:=X.P) (w:=w) (ty:=o.type) (c:=cB) (B:=⟨bB,sB,none⟩) (m:=ys.length) hE hz hb hzv hzz hbig (by rw[←hn'];exact hR.C) hR.nil hlo (λq=>hoc q) hlv
   (λj u hj=>by rw[B0];exact hBc j u hj) hfit h63
  have hs:=hD.drew.a5S (l:=l) (els:=r.els++ys) (T:=E) (C:=C') (z:=z) (opn:=true) (cl:=true) cs hlm hDl (by simpa using hC') hcs
   (λe he=>⟨(List.mem_append.1 he).elim (hxel e) (hyel e),hel e he⟩) (λi x j y u hx hy hu=>by
    have hu':(olds++vals++rest)[i*z+j]? = some u:=by rw[←hrest];simpa using hu
    have:=a7r (R:=λu y=>Rd0 w g.imm u y) hlo (λx hx=>hel x hx) (λi x j y u hx hy hu=>(hor i x j y u hx hy hu).2 hcl) (λi x j y u hx hy hu=>(hvr i x j y u hx hy hu).2 rfl) rest hlv i x j y u hx hy hu';have hx0:Ext w g.imm w.drew g.imm:=⟨λ_ _ q=>q,λ_ _ _=>rfl,λ_ _ _ _ q _=>q⟩;exact⟨.cl (this.mono hx0),λ_=>this.mono hx0⟩)
  refine w5 hnd (R4 ho (by rw[e,eB];exact hr)) (hK _ _ _ (hs.put hdst ?_));have:=U8 (w':=w.drew.alloc (.cells cs E)) (imm:=g.imm) (μ:=o0 g.μ l ⟨some ⟨w.heap.size,0,none⟩,(r.els++ys).length,C',z⟩)
   (j2:=St.j2 ⟨(St.of L R).env,o0 (St.of L R).σ l (some ⟨r.els++ys,0,true,z,true⟩)⟩) (l:=l) ⟨_,j4 _ _ _⟩ (j4 _ _ _)
  simpa using this
 ·-- in place
  have hn:=hR.n;have hT:∀b s',(g.μ s).A=some ⟨b,s',none⟩→∀o',s'+(g.μ s).n*z≤o'→o'<s'+(g.μ s).C*z→A2 (g.μ s) r b o':=λb s' hA o' q1 q2=>
   ⟨s',hA,by have:r.lo*(g.μ s).z≤(g.μ s).n*(g.μ s).z:=Nat.mul_le_mul_right _ hR.lo;rw[hmz] at *;omega,by rw[hop,if_pos rfl,hmz];exact q2⟩
  have hTi:∀b o',(∃s',(g.μ s).A=some ⟨b,s',none⟩∧s'+(g.μ s).n*z≤o'∧o'<s'+(g.μ s).C*z)→¬g.imm b o':=by
   rintro b o' ⟨s',hA,q1,q2⟩ q;exact h.ownimm s r b o' hsr (hT b s' hA o' q1 q2) q
  have hW:∀b s',(g.μ s).A=some ⟨b,s',none⟩→∀o',s'≤o'→o'<s'+(g.μ s).C*z→A2 (g.μ s) r b o':=λb s' hA o' q1 q2=>
   ⟨s',hA,by rw[hlo0,Nat.zero_mul];exact q1,by rw[hop,if_pos rfl,hmz];exact q2⟩
  have hnew:∀(w':World) (v':Value),(Builtin.append_ #[T,T] o.type #[.slice (g.μ s).A (g.μ s).n (g.μ s).C,a.eval y]).run X.P w = .ok (.slice (g.μ s).A ((g.μ s).n+ys.length) (g.μ s).C) w' →
    (w'=w∧ys.length=0∨∃b s',(g.μ s).A=some ⟨b,s',none⟩∧w'=w.setCells b (s'+(g.μ s).n*z) vals)→o.wpIn (FX ρ) n X.P a w K Q:=by
   intro w' v' hrun hw';have hcell:∀b o',¬(∃s',(g.μ s).A=some ⟨b,s',none⟩∧s'+(g.μ s).n*z≤o'∧o'<s'+(g.μ s).C*z)→w'.cell? ⟨b,o',none⟩=w.cell? ⟨b,o',none⟩∧w'.frozen? ⟨b,o',none⟩=w.frozen? ⟨b,o',none⟩:=by
    intro b o' q;rcases hw' with ⟨rfl,_⟩ | ⟨b',s',hA,rfl⟩;·exact⟨rfl,rfl⟩
    ·refine⟨World.cell?_setCells_out b' vals _ w ⟨b,o',none⟩ λq1 _=>?_,World.frozen?_setCells b' vals _ w _⟩;simp only at q1 ⊢;subst q1;rcases Nat.lt_or_ge o' (s'+(g.μ s).n*z) with q2 | q2
     ·exact .inl q2
     ·right;rcases Nat.lt_or_ge o' (s'+(g.μ s).n*z+vals.length) with q3 | q3
      ·exfalso;refine q ⟨s',hA,q2,?_⟩;have:((g.μ s).n+ys.length)*z≤(g.μ s).C*z:=Nat.mul_le_mul_right _ hroom;rw[Nat.add_mul] at this;omega
      ·exact q3
   have hxw:Ext w (g.imm) w' (g.imm):=⟨λ_ _ q=>q,λb o' q=>(hcell b o' λq'=>hTi b o' q' q).1,λk _ x _ hx hc=>by
    rcases hw' with ⟨rfl,_⟩ | ⟨b',s',hA,rfl⟩;·exact hx
    ·exact (w7 b' vals _ w).same k x hx (C9 hc)⟩
   have hlw:w'.heap.size=w.heap.size:=by
    rcases hw' with ⟨rfl,_⟩ | ⟨b',s',hA,rfl⟩;·rfl
    ·exact size_setCells _ _ _ _
   have hbw:Bel X.w0.heap.size X.w0 w':=by
    rcases hw' with ⟨rfl,_⟩ | ⟨b',s',hA,rfl⟩;·exact h.below
    ·rcases Nat.eq_zero_or_pos vals.length with q | q
     ·have:vals = []:=List.eq_nil_of_length_eq_zero q;subst this;exact h.below
     ·refine T5 b' ?_ vals _ w h.below;refine (h.O4 hsr (hT b' s' hA (s'+(g.μ s).n*z) (Nat.le_refl _) ?_)).1;have:((g.μ s).n+ys.length)*z≤(g.μ s).C*z:=Nat.mul_le_mul_right _ hroom;rw[Nat.add_mul] at this;omega
   have hother:∀l' r' b o',(St.of L R).σ l'=some r'→A2 (g.μ l') r' b o'→¬A2 (g.μ s) r b o':=by
    intro l' r' b o' q ho' k;have hl':l'≠s:=λe=>by rw[e,hDs] at q;cases q
    obtain⟨r1,k1,k2⟩:=b5P h hAr q;exact h.disj l' s r1 r hl' k1 hsr b o' (k2 b o' ho') k
   have hin:∀b o',(∃s',(g.μ s).A=some ⟨b,s',none⟩∧s'+(g.μ s).n*z≤o'∧o'<s'+(g.μ s).C*z)→A2 (g.μ s) r b o':=λb o' ⟨s',hA,q1,q2⟩=>hT b s' hA o' q1 q2;have hM:=hD.move (w':=w') (imm':=g.imm) hxw (λl' r' b o' q ho'=>⟨(hcell b o' λk=>hother l' r' b o' q ho' (hin b o' k)).1,(hcell b o' λk=>hother l' r' b o' q ho' (hin b o' k)).2,hD.ownimm l' r' b o' q ho'⟩)
    (λb o' q=>by rw[hlw];exact hD.immlt b o' q) hD.immsub hbw (λk x hx hc=>by
     rcases hw' with ⟨rfl,_⟩ | ⟨b',s',hA,rfl⟩;·exact hx
     ·exact (w7 b' vals _ w).same k x hx hc) (λ_ _ _ q _ _=>q)
   have hown:∀b o',A2 ⟨(g.μ s).A,(g.μ s).n+ys.length,(g.μ s).C,z⟩ ⟨r.els++ys,0,true,z,true⟩ b o'→A2 (g.μ s) r b o':=by
    rintro b o' ⟨s',hA,q1,q2⟩;simp only[if_true,Nat.zero_mul,Nat.add_zero] at q1 q2;exact hW b s' hA o' q1 q2
   have hN:=hM.row (l:=l) (m:=⟨(g.μ s).A,(g.μ s).n+ys.length,(g.μ s).C,z⟩) (r:=⟨r.els++ys,0,true,z,true⟩) hlm hDl
    ⟨by simp[hn],rfl,hroom,Nat.zero_le _,λe he=>⟨(List.mem_append.1 he).elim (λq=>(hR.el e q).1) (hyel e),hel e he⟩,hR.nil,hR.spot,λi x j y hx hy=>?_,λb o' q=>?_⟩
    (λl' r' b o' q ho' k=>hother l' r' b o' q ho' (hown b o' k)) (λb o' q k=>h.ownimm s r b o' hsr (hown b o' q) k)
   ·refine w5 hnd (R4 ho (by rw[e];exact hrun)) (hK _ _ _ (hN.put hdst ?_));exact U8 (l:=l) (m:=⟨(g.μ s).A,(g.μ s).n+ys.length,(g.μ s).C,z⟩) ⟨_,j4 _ _ _⟩ (j4 _ _ _)
   ·simp only at hx ⊢;have hi:=r6 hx;simp at hi;have hxz:x.cells.length=z:=hel x (List.mem_of_getElem? hx);have hj:=PV.u7 hy;rcases Nat.lt_or_ge i r.els.length with q | q
    ·rw[List.getElem?_append_left q] at hx;obtain⟨b,s',u,k1,k2,k3,k4,k5⟩:=hR.cell i x j y hx hy;rw[hmz] at k2;have hzz':(i+1)*z≤(g.μ s).n*z:=Nat.mul_le_mul_right _ (by omega);rw[Nat.add_mul,Nat.one_mul] at hzz';refine⟨b,s',u,k1,?_,.cl ((k5 hcl).mono hxw),λq'=>absurd q' (Nat.not_lt_zero _),λ_=>(k5 hcl).mono hxw⟩;rw[(hcell b _ ?_).1];· exact k2
     rintro⟨s2,hA2,q1,q2⟩;rw[k1] at hA2;cases hA2;omega
    ·rw[List.getElem?_append_right q] at hx;have hm:0<ys.length:=by omega
     rcases hw' with ⟨_,q0⟩ | ⟨b',s',hA,rfl⟩;·omega
     ·have e1:(i-r.els.length)*z=i*z-r.els.length*z:=Nat.sub_mul _ _ _;have e2:r.els.length*z≤i*z:=Nat.mul_le_mul_right _ q;have e3:(i-r.els.length+1)*z≤ys.length*z:=Nat.mul_le_mul_right _ (by omega);rw[Nat.add_mul,Nat.one_mul] at e3;have hlt:(i-r.els.length)*z+j<vals.length:=by omega
      have hu':=List.getElem?_eq_getElem hlt;have hrd:=hvr _ x j y _ hx hy hu';have hin2:=World.cell?_setCells_in b' vals (s'+(g.μ s).n*z) w (λj' hj'=>(hR.own b' _ (hT b' s' hA _ (by omega) (by
       have:((g.μ s).n+ys.length)*z≤(g.μ s).C*z:=Nat.mul_le_mul_right _ hroom;rw[Nat.add_mul] at this;omega))).2.1) _ hlt
      rw[show s'+(g.μ s).n*z+((i-r.els.length)*z+j)=s'+i*z+j by rw[hn];omega] at hin2;exact⟨b',s',_,hA,hin2,.cl ((hrd.2 rfl).mono hxw),λq'=>absurd q' (Nat.not_lt_zero _),λ_=>(hrd.2 rfl).mono hxw⟩
   ·obtain⟨s',hA,q1,q2⟩:=q;simp only[if_true,Nat.zero_mul,Nat.add_zero] at q1 q2;obtain⟨k1,k2,k3⟩:=hR.own b o' (hW b s' hA o' q1 q2);refine⟨k1,?_,?_⟩
    ·rcases hw' with ⟨rfl,_⟩ | ⟨b',s2,hA2,rfl⟩;·exact k2
     ·rw[hA] at hA2;cases hA2;by_cases q3:s'+(g.μ s).n*z≤o'∧o'<s'+(g.μ s).n*z+vals.length
      ·have:=World.cell?_setCells_in b vals (s'+(g.μ s).n*z) w (λj' hj'=>(hR.own b _ (hT b s' hA _ (by omega) (by
        have:((g.μ s).n+ys.length)*z≤(g.μ s).C*z:=Nat.mul_le_mul_right _ hroom;rw[Nat.add_mul] at this;omega))).2.1) (o'-(s'+(g.μ s).n*z)) (by omega)
       rw[show s'+(g.μ s).n*z+(o'-(s'+(g.μ s).n*z))=o' by omega] at this;rw[this];rfl
      ·rw[World.cell?_setCells_out b vals _ w ⟨b,o',none⟩ λ_ _=>by simp only;omega];exact k2
    ·rcases hw' with ⟨rfl,_⟩ | ⟨b',s2,hA2,rfl⟩;·exact k3
     ·rw[World.frozen?_setCells];exact k3
  rcases Nat.eq_zero_or_pos ys.length with hm | hm
  ·refine hnew w undef ?_ (.inl ⟨rfl,hm⟩);rw[eB,hm];exact a2c hE hz hR.C
  ·obtain⟨bB,sB,rfl,hBc⟩:=hvc hm;obtain⟨b,s',hA⟩:=hR.spot (by omega);refine hnew _ undef ?_ (.inr ⟨b,s',hA,rfl⟩);rw[eB,hA];refine a1u hE hz hroom hlv (λj u hj=>by rw[B0];exact hBc j u hj) hone λj hj=>(hR.own b _ (hT b s' hA _ (by omega) (by
    have:((g.μ s).n+ys.length)*z≤(g.μ s).C*z:=Nat.mul_le_mul_right _ hroom;rw[Nat.add_mul] at this;omega))).2
end
section
open Go
variable{P:Program}{F:Fence}{n:Nat}{b:Frame}{a:Act}{k:List Item}{cs:List Frame}{w:World}
theorem M6{c:Code}:step P (lone (b.atR a (.code (.scope c)::k)) cs w) = .next (lone (b.atR a (.code c :: .inScope c::k)) cs w):=
 step_lone_go (by simp[stepG,stepG.exec,Frame.atR])
theorem a4g{c:Code}:step P (lone (b.atR a (.inScope c::k)) cs w) = .next (lone (b.atR a k) cs w):=
 step_lone_go (by simp[stepG,stepG.exec,Frame.atR])
theorem b05{c:Code}{Q:Exit→Act→World→Prop}(hg:∀l a w,¬Q (.goto l) a w)(h:c.wpIn F n P Q a w):(Code.scope c).wpIn F n P Q a w:=by
 intro b k cs hro hb hr;have h0:(lone (b.atR a (.code (.scope c)::k)) cs w).fenced P F:=fenced_calm hb hr rfl;obtain⟨e,a₁,w₁,hq,harr⟩:=h b (.inScope c::k) cs hro hb hr;cases e with
 | normal=>exact⟨.normal,a₁,w₁,hq,.head h0 M6 (StepsIn.trans harr (.one (fenced_calm hb hr rfl) a4g))⟩
 | exit id=>
  have hx:exitTo id (.inScope c::k)=exitTo id k:=by simp[exitTo]
  exact⟨.exit id,a₁,w₁,hq,λk' hk=>.head h0 M6 (harr.1 k' (by rw[hx];exact hk)),
   λhr' hk=>let ⟨k₁,h1,h2⟩:=harr.2 hr' (by rw[hx];exact hk);⟨k₁,h1,.head h0 M6 h2⟩⟩
 | goto l=>exact absurd hq (hg l _ _)
 | ret=>exact⟨_,a₁,w₁,hq,.of_steps (.one h0 M6) harr⟩
 | panic ch=>exact⟨_,a₁,w₁,hq,.of_steps (.one h0 M6) harr⟩
 | outgrown=>exact⟨_,a₁,w₁,hq,.of_steps (.one h0 M6) harr⟩
end
def b00(Q:PX→Ctx→St→Prop):PX→Ctx→St→Prop
 | .goto _,_,_=>False
 | e,X,s=>Q e X s
theorem a8d{Q:PX→Ctx→St→Prop}{X:Ctx}{s:St}(h:Q .normal X s):b00 Q .normal X s:=h
theorem a7z{X:Ctx}{Q:PX→Ctx→St→Prop}{st:St}{c:Code}(h:J1 X c (b00 Q) st):J1 X (.scope c) Q st:=λn g a w hs=>by
 refine wpIn_mono (b05 (Q:=lift X (b00 Q)) (λl a' w' q=>?_) (h n g a w hs)) λe a' w' q=>?_;·obtain⟨_,_,_,_,_,q⟩:=q;exact q
 ·cases e <;> simp only[lift] at q ⊢ <;> first | exact q | (obtain⟨X',g',st',h1,h3,h2⟩:=q;exact⟨X',g',st',h1,h3,h2⟩) | (obtain⟨X',g',st',h1,h3,h2⟩:=q;exact absurd h2 id)
def FvR(e:Option Nat):World→(Nat→Nat→Prop)→Value→Prop:=λ_ _ v=>v=match e with
 | none=>.nilFunc
 | some n=>.func (.func n) #[] #[]
abbrev fvE(e:Option Nat):PV:=.abs (FvR e)
def PV.fv0:PV→PV
 | .fn (.func n) []=>fvE (some n)
 | .nilfn=>fvE none
 | d=>d
def PV.fv1:PV→PV
 | .agg cs=>.agg (cs.map PV.fv0)
 | d=>d.fv0
theorem PV.b5w{d:PV}(h:d.sc=true):d.fv0.sc=true:=by
 unfold PV.fv0;split <;> first | rfl | exact h
theorem Rd0.fv0{w:World}{imm:Nat→Nat→Prop}{v:Value}{d:PV}(h:Rd0 w imm v d):Rd0 w imm v d.fv0:=by
 unfold PV.fv0;split
 ·cases h with
  | fn f vs cap hn _=>
   obtain rfl:vs = #[]:=Array.eq_empty_of_size_eq_zero (by simpa using hn);exact .abs _ _ rfl λ_ _ _=>rfl
 ·cases h;exact .abs _ _ rfl λ_ _ _=>rfl
 ·exact h
theorem Rd.fv0{w:World}{imm:Nat→Nat→Prop}{μ:Nat→A6}{j2:Nat→Prop}{v:Value}{d:PV}(h:Rd w imm μ j2 v d):Rd w imm μ j2 v d.fv0:=by
 unfold PV.fv0;split;·exact .cl (h.K1 rfl).fv0
 ·exact .cl (h.K1 rfl).fv0
 ·exact h
theorem Rd.fv1{w:World}{imm:Nat→Nat→Prop}{μ:Nat→A6}{j2:Nat→Prop}{v:Value}{d:PV}(h:Rd w imm μ j2 v d):Rd w imm μ j2 v d.fv1:=by
 by_cases e:∃cs,d = .agg cs
 ·obtain⟨cs,rfl⟩:=e;obtain⟨vs,rfl,hn,hk⟩:=h.T4;have hsc:=h.a83;refine .agg vs _ (List.all_eq_true.2 λc hc=>?_) (by simpa using hn) λi v c hv hc=>?_
  ·obtain⟨c0,h0,rfl⟩:=List.mem_map.1 hc;exact PV.b5w (List.all_eq_true.1 hsc c0 h0)
  ·obtain⟨c0,k1,rfl⟩:=U3 hc;exact (hk i v c0 hv k1).fv0
 ·have:d.fv1=d.fv0:=by cases d <;> first | rfl | exact absurd ⟨_,rfl⟩ e
  rw[this];exact h.fv0
theorem a9E{s:St}(t:Nat){d d':PV}(ht:s.env t=d)(hd:∀w imm μ j2 v,Rd w imm μ j2 v d→Rd w imm μ j2 v d'):Wk s ⟨o0 s.env t d',s.σ⟩:=λX g a w h=>by
 refine⟨g,⟨h.size,λi=>?_,h.rows,h.disj,h.ownimm,h.immlt,h.immsub,h.immsup,h.below,h.marks,h.obs,h.big,h.maps⟩⟩;by_cases q:i=t
 ·subst q;rw[show (St.mk (o0 s.env i d') s.σ).env i=d' from j4 _ _ _];exact hd _ _ _ _ _ (by rw[←ht];exact h.env i)
 ·rw[show (St.mk (o0 s.env t d') s.σ).env i=s.env i from e6 _ _ q];exact h.env i
theorem a2C{s:St}(t:Nat){d':PV}(h:(s.env t).fv1=d'):Wk s ⟨o0 s.env t d',s.σ⟩:=by
 subst h;exact a9E t rfl λ_ _ _ _ _ q=>q.fv1
theorem b42{s:St}(t:Nat){e:Option Nat}{n:Nat}(ht:s.env t=fvE e)(he:e=some n):Wk s ⟨o0 s.env t (.fn (.func n) []),s.σ⟩:=by
 subst he;refine a9E t ht λw imm μ j2 v q=>?_;have:=q.a6H;unfold FvR at this;rw[this];exact .cl (.fn _ #[] [] rfl λi v c _ hc=>by simp at hc)
section
variable{X:Ctx}{ops:Array Oper}{i:Nat}{os:List Oper}{K:Ctx→St→Prop}{env:Nat→PV}{σ:Nat→Option Row}{ty:TypeId}{pos:String}{after:Array Edge}{gd:Option (Nat × Bool)}{t:Tmp}{KT VT:Type}[BEq KT]{EK:KT→PV}{E:VT→PV}
theorem a1k{op:Op}{T kt et:TypeId}{x y u:Operand}{l lo z:Nat}{opn:Bool}{es:List (KT × VT)}{k:KT}{v:VT}(hop:op = .mapUpdate T x y u∨op = .insert T x y u)(hw:s9 ops env ⟨none,op,ty,pos,after,gd⟩=some true)(hx:p6 env x = .mp l)
  (hl:σ l=some ⟨[.mapc (es.map (ent EK E))],lo,opn,z,false⟩)(hy:p6 env y=EK k)(hu:(p6 env u).fv1=E v)(hE:(E v).Y3=true)(hT:a3O X.P T=some (kt,et))(hK:a6s X.P kt EK)
  (kk:Sq X ops (i+1) os K ⟨env,o0 σ l (some ⟨[.mapc ((Go.Sh.h9 es k v).map (ent EK E))],lo,opn,z,false⟩)⟩):Sq X ops i (⟨none,op,ty,pos,after,gd⟩::os) K ⟨env,σ⟩:=b3k hop hw hx hl hy (λ_ _ _ _ _ q=>hu▸q.fv1) hE hT hK kk
end
section
variable{P:Program}{σ:Nat→Option Row}{ρ:Operand→PV}{dst:Option Tmp}{KT VT:Type}[BEq KT]{EK:KT→PV}{E:VT→PV}
theorem b6x{T kt et:TypeId}{x y:Operand}{ok:Bool}{es:List (KT × VT)}{k:KT}{zv:Value}{d z0:PV}(hx:ρ x = .abs (I0 (es.map (ent EK E))))(hy:ρ y=EK k)(hT:a3O P T=some (kt,et))(hK:a6s P kt EK)(hz:r4 P et=some zv)
  (hz0:(PV.ofV zv).fv0=z0)(hd:(lkV E (Go.Sh.F7 es k) z0 ok)=d):u6 P σ ρ dst (.lookup T x y ok) d .none:=b2Q (W:=PV.fv0) (λq=>q.fv0) hx hy hT hK hz hz0 hd
end
end Go.Pw
namespace Go.Pw
theorem nl{a b:Nat}(h:Nat.ble a b=true:=by rfl):a≤b:=Nat.le_of_ble_eq_true h
theorem rS{R:List (Nat × Row)}{σ:Nat→Option Row}{l:Nat}{r r':Row}(h:σ l=some r:=by rfl)(hz:r.z=r'.z:=by rfl)(hl:r.lo=r'.lo:=by rfl)(ho:r'.opn=true→r.opn=true:=by first | exact λ_=>rfl | exact λq=>nomatch q)(hc:r.cl=true:=by rfl)(he:r.els=r'.els:=by rfl)(hc':r'.cl=true:=by rfl)(hm:okM l l r.cl r'.cl=true:=by rfl):a0H id R σ (l,r'):=b0Y h hz hl ho hc he hc' hm
theorem rN{π:Nat→Nat}{R:List (Nat × Row)}{σ:Nat→Option Row}{l:Nat}{r r':Row}(h:σ (π l)=some r:=by rfl)(hz:r.z=r'.z:=by rfl)(hl:r.lo=r'.lo:=by rfl)(ho:r'.opn=true→r.opn=true:=by first | exact λ_=>rfl | exact λq=>nomatch q)(hc:r.cl=true:=by rfl)(he:r.els=r'.els:=by rfl)(hc':r'.cl=true:=by rfl)(hm:okM l (π l) r.cl r'.cl=true:=by rfl):a0H π R σ (l,r'):=b16 h hz hl ho hc he hc' hm
theorem io{p q:Prop}(h:p∨q:=by first | exact .inl rfl | exact .inr rfl):p∨q:=h
theorem J{α:Sort _}{a:α}:a=a:=rfl
abbrev PV.I(x:Int):PV:=.int .i64 x
abbrev _root_.Go.Value.I(x:Int):Value:=.int .i64 x
abbrev iF:Int→PV:=PV.int .i64
abbrev PV.L{α:Type}(f:α→PV)(l:List α):PV:=.lst false (List.map f l)
theorem oj{α:Type}{a b:α}(h:some a=some b):a=b:=Option.some.inj h
theorem om{P:Program}{σ:Nat→Option Row}{ρ:Operand→PV}{dst:Option Tmp}{x:Operand}{d:PV}(h:ρ x=d):u6 P σ ρ dst (.move x) d .none:=b0U h
theorem mI{P:Program}{σ:Nat→Option Row}{ρ:Operand→PV}{dst:Option Tmp}{x:Operand}{n:Int}(h:ρ x = .int .i64 n):u6 P σ ρ dst (.move x) (.int .i64 n) .none:=b0U h
theorem mB{P:Program}{σ:Nat→Option Row}{ρ:Operand→PV}{dst:Option Tmp}{x:Operand}{n:Bool}(h:ρ x = .bool n):u6 P σ ρ dst (.move x) (.bool n) .none:=b0U h
theorem kC{P:Program}{f:FuncId}{fn:Func}{c:Code}(h:P.funcs[f]? = some fn)(hb:fn.body=some c)(hn:fn.name ≠ "runtime.NumGoroutine" := by decide):o7 P f:=⟨fn,c,h,hb,hn⟩
theorem tr:True:=trivial
theorem oF{P:Program}{σ:Nat→Option Row}{ρ:Operand→PV}{dst:Option Tmp}{T:TypeId}{x:Operand}{f l i q off k:Nat}{ft:TypeId}(hx:ρ x = .ptr l i q)(ho:O2 P T f=some (off,ft))(hk:q+off=k):u6 P σ ρ dst (.fieldAddr T x f) (.ptr l i k) .none:=a9m hx ho hk
theorem oS{P:Program}{σ:Nat→Option Row}{ρ:Operand→PV}{dst:Option Tmp}{T:TypeId}{x:Operand}{l i f:Nat}{r:Row}{y d:PV}(hx:ρ x = .ptr l i f)(hl:σ l=some r)(hy:r.els[i]? = some y)(ha:B8 P T=some false)(hd:y.cells[f]? = some d):u6 P σ ρ dst (.load T x) d .none:=a9o hx hl hy ha hd
theorem oL{P:Program}{σ:Nat→Option Row}{ρ:Operand→PV}{dst:Option Tmp}{T:TypeId}{x:Operand}{l i f n:Nat}{r:Row}{y:PV}{cs:List PV}(hx:ρ x = .ptr l i f)(hl:σ l=some r)(hy:r.els[i]? = some y)(ha:B8 P T=some true)(hs:l5 P T=some n)(hf:f+n≤y.cells.length)(hd:(y.cells.drop f).take n=cs):u6 P σ ρ dst (.load T x) (.agg cs) .none:=a9n hx hl hy ha hs hf hd
section
variable{X:Ctx}{Q:PX→Ctx→St→Prop}{st:St}
theorem yN{ops:Array Oper}{i:Nat}{K:Ctx→St→Prop}(h:K X st):Sq X ops i [] K st:=b6K h
theorem s1{id:Nat}{l:List Oper}(h:Sq X l.toArray 0 l (Q .normal) st)(hd:X5 X.N l.toArray=true:=by kernel_rfl):J1 X (.region id l.toArray false) Q st:=sr1 hd h
theorem sR{id:Nat}{l:List Oper}{y:Code}(h:Sq X l.toArray 0 l (λX' s=>J1 X' y Q s) st)(hd:X5 X.N l.toArray=true:=by kernel_rfl):J1 X (.seq (.region id l.toArray false) y) Q st:=sr hd h
end
theorem r9{α β:Type}{x:Option α}{f:α→Option β}{r:β}{C:Prop}(h:x.bind f=some r)(k:∀v,x=some v→f v=some r→C):C:=by
 cases x with
 | none=>cases h
 | some v=>exact k v rfl h
section
variable{X:Ctx}{ops:Array Oper}{i:Nat}{os:List Oper}{K:Ctx→St→Prop}{env:Nat→PV}{σ:Nat→Option Row}{ty:TypeId}{pos:String}{after:Array Edge}{gd:Option (Nat × Bool)}{t:Tmp}
end
end Go.Pw
namespace Go.Pw
open Go.RowKit
def BFn(f:FuncId)(ds:List PV)(w:World)(imm:Nat→Nat→Prop)(v:Value):Prop:=∃ws:Array Value,v = .func (.func f) ws #[]∧RdL w imm ws ds
theorem RdL.mono{w:World}{imm:Nat→Nat→Prop}{w':World}{imm':Nat→Nat→Prop}(he:Ext w imm w' imm'){vs:Array Value}{ds:List PV}(h:RdL w imm vs ds):RdL w' imm' vs ds:=⟨h.1,λi v d hv hd=>(h.2 i v d hv hd).mono he⟩
theorem RdL.append{w:World}{imm:Nat→Nat→Prop}{vs us:Array Value}{ds es:List PV}(h:RdL w imm vs ds)(k:RdL w imm us es):RdL w imm (vs++us) (ds++es):=by
 refine⟨by simp[h.1,k.1],λi v d hv hd=>?_⟩;rcases Nat.lt_or_ge i vs.size with q | q
 ·rw[Array.getElem?_append_left q] at hv;rw[List.getElem?_append_left (by rw[←h.1];exact q)] at hd;exact h.2 i v d hv hd
 ·rw[Array.getElem?_append_right q] at hv;rw[List.getElem?_append_right (by rw[←h.1];exact q),←h.1] at hd;exact k.2 _ v d hv hd
theorem b5X{w:World}{imm:Nat→Nat→Prop}{v:Value}{f:FuncId}{ds:List PV}(h:BFn f ds w imm v):Rd0 w imm v (.abs (BFn f ds)):=by
 obtain⟨ws,rfl,h⟩:=h;exact .abs _ _ rfl λw' imm' he=>⟨ws,rfl,h.mono he⟩
theorem a5L{P:Program}{σ:Nat→Option Row}{ρ:Operand→PV}{dst:Option Tmp}{f:FuncId}{x:Operand}{d:PV}(hx:ρ x=d)(hc:d.Y3=true:=by rfl):u6 P σ ρ dst (.makeFunc (.func f) #[x] #[]) (.abs (BFn f [d])) .none:=by
 refine .pureV _ _ (λ_=>nofun) (λ_ _=>nofun) λo w imm μ j2 ev ho hr=>?_;have h1:=hr x (by simp[Op.operands]);rw[hx] at h1;refine⟨.func (.func f) #[ev x] #[],by simp[execOp,ho,Instr.makeFunc],.cl (b5X ⟨#[ev x],rfl,rfl,λi v e hv he=>?_⟩)⟩;match i with
 | 0=>
  simp at hv he;subst hv he;exact h1.Y3 hc
 | i+1=>simp at he
section
variable{X:Ctx}{g:Gh}{st:St}{a:Act}{w:World}{n:Nat}{K:Act→World→Prop}{Q:Exit→Act→World→Prop}{ρ:Option Nat}{P:Program}
theorem b0L{o:Oper}{x:Operand}{args:Array Operand}{ts:Array TypeId}{f:FuncId}{ws:Array Value}(ho:o.op = .call { callee:=.value x,args,argTypes:=ts })(hx:a.eval x = .func (.func f) ws #[])
  (hb:∃fn c,P.funcs[f]? = some fn∧fn.body=some c∧fn.name ≠ "runtime.NumGoroutine"):(execOp a.eval o).run P w = .ok (.enter f (ws++args.map a.eval)) w:=by
 obtain⟨fn,c,h1,h2,h3⟩:=hb;obtain⟨dst,op,ty,pos,after,guard⟩:=o;simp only at ho;subst ho;have hne:(fn.name == "runtime.NumGoroutine")=false:=by simpa using h3
 simp only[execOp,resolve,hx,Deferred.ofValue,Sem.run_bind,Sem.run_pure,Result.andThen_ok,invoke,callFunc,program,Sem.run,h1,hne,h2];simp
theorem b2V{o:Oper}{x:Operand}{args:Array Operand}{ts:Array TypeId}{f:FuncId}{bs vs:List PV}{d:PV}(h:r7 X g st a w)(ho:o.op = .call { callee:=.value x,args,argTypes:=ts })
  (hdst:∀t,o.dst=some t→t<X.N)(hf:p6 st.env x = .abs (BFn f bs))(hb:∃fn c,X.P.funcs[f]? = some fn∧fn.body=some c∧fn.name ≠ "runtime.NumGoroutine")
  (hok:(args.toList.map (p6 st.env)).all (PV.vok st.σ)=true)(hv:(args.toList.map (p6 st.env)).map (PV.vw st.σ)=vs)(hls:(args.toList.map (p6 st.env)).flatMap (PV.D0 st.σ) = [])(hc:E5 X.P f (bs++vs) d)
  (hK:∀g' a' w',r7 X g' ⟨F3 st.env o.dst d,st.σ⟩ a' w'→K a' w'):o.wpIn (FX ρ) n X.P a w K Q:=by
 subst hv;have hx:=h.eval x;rw[hf] at hx;obtain⟨ws,e,hws⟩:=hx.a6H;obtain⟨hsz,hrd⟩:=a6I h (args:=args) (vs:=#[]) (cap:=[]) rfl (λi v c hv hd=>by simp at hd);simp only[List.append_nil,Array.append_empty] at hsz hrd;obtain⟨imm2,hF,hX,hSh⟩:=h.F6 [];have hargs:=(a1C h (y6.refl _) hX hsz hrd hok (λl hl r hr=>by rw[hls] at hl;cases hl)).w2;refine M8 (λc=>by rw[ho];simp) (b0L ho e hb) ((hc w imm2 _ hF.immlt h.gt ((hws.mono hX).append hargs)).mono λev w' hr=>?_);obtain⟨v,rfl,hbel,hres⟩:=hr;refine⟨v,rfl,?_⟩;have hS:=hF.called hbel (λ_ _=>True);refine hK _ _ _ (hS.put hdst (.cl (hres.mono ⟨λb o q=>?_,λ_ _ _=>rfl,λ_ _ _ _ q _=>q⟩)));rcases q with q | ⟨q1,q2⟩
 ·exact .inl q
 ·exact .inr ⟨trivial,q1,q2⟩
end
section
variable{X:Ctx}{ops:Array Oper}{i:Nat}{os:List Oper}{K:Ctx→St→Prop}{env:Nat→PV}{σ:Nat→Option Row}{ty:TypeId}{pos:String}{after:Array Edge}{gd:Option (Nat × Bool)}{t:Tmp}
theorem a9F{x:Operand}{args:Array Operand}{ts:Array TypeId}{f:FuncId}{bs xs vs:List PV}{d:PV}(hw:s9 ops env ⟨some t,.call { callee:=.value x,args,argTypes:=ts },ty,pos,after,gd⟩=some true)(hx:p6 env x = .abs (BFn f bs))(hk:o7 X.P f)
  (ha:args.toList.map (p6 env)=xs)(h:E5 X.P f (bs++vs) d)(k:Sq X ops (i+1) os K ⟨o0 env t d,σ⟩)(hok:xs.all (PV.vok σ)=true:=by rfl)(hv:xs.map (PV.vw σ)=vs:=by rfl)(hls:xs.flatMap (PV.D0 σ) = []:=by rfl) :
  Sq X ops i (⟨some t,.call { callee:=.value x,args,argTypes:=ts },ty,pos,after,gd⟩::os) K ⟨env,σ⟩:=B7 λho=>by
 subst ha;intro hd n g a w next Qo hs hq;unfold wpOpIn;rw[ho];simp only;rw[if_pos (F9 hs hw)];exact b2V hs rfl (y8 hd ho) hx hk hok hv hls h λg' a' w' h'=>hq X g' _ a' w' h' ⟨⟨rfl,rfl⟩,rfl⟩ k
end
end Go.Pw
namespace Go.Pw
section
variable{F:Fence}{n:Nat}{P:Program}{Q:Exit→Act→World→Prop}{a:Act}{w:World}
def b2F(l:Nat)(J:Act→World→Prop)(Q:Exit→Act→World→Prop):Exit→Act→World→Prop
 | .goto l',a,w=>l'=l∧J a w
 | e,a,w=>Q e a w
theorem a7T{l:Nat}{c:Code}(I:Act→World→Prop)(μ:Act→World→Nat)(h₀:I a w)
  (round:∀a w,I a w→c.wpIn F n P (b2F l (λa' w'=>I a' w'∧μ a' w'<μ a w) Q) a w):(Code.scope (.seq (.label l) c)).wpIn F n P Q a w:=by
 intro b k cs hro hb hr;have hg:∀k,gotoIn l (.inScope (.seq (.label l) c)::k)=some (.code (.seq .skip c) :: .inScope (.seq (.label l) c)::k):=λk=>by simp[gotoIn,findLabel]
 have key:∀j a w,μ a w=j→I a w →
   ∃e a' w',Q e a' w'∧ArrivesIn (Machine.fenced P F) P (lone (b.atR a (.code c :: .inScope (.seq (.label l) c)::k)) cs w) b k cs e a' w':=by
  intro j;induction j using Nat.strongRecOn with
  | _ j ih=>
   intro a w hn hI;obtain⟨e,a₁,w₁,hq,harr⟩:=round a w hI b (.inScope (.seq (.label l) c)::k) cs hro hb hr;cases e with
   | normal=>exact⟨.normal,a₁,w₁,hq,StepsIn.trans harr (.one (fenced_calm hb hr rfl) a4g)⟩
   | exit id=>
    have hx:exitTo id (.inScope (.seq (.label l) c)::k)=exitTo id k:=by simp[exitTo]
    exact⟨.exit id,a₁,w₁,hq,λk' hk=>harr.1 k' (by rw[hx];exact hk),λhr' hk=>harr.2 hr' (by rw[hx];exact hk)⟩
   | goto l'=>
    obtain⟨rfl,hI₁,hlt⟩:=hq;obtain⟨e₂,a₂,w₂,hq₂,harr₂⟩:=ih (μ a₁ w₁) (hn▸hlt) a₁ w₁ rfl hI₁;exact⟨e₂,a₂,w₂,hq₂,.of_steps (StepsIn.trans (harr.1 _ (hg k)) (.head (fenced_calm hb hr rfl) stepR_seq (.one (fenced_calm hb hr rfl) stepR_skip))) harr₂⟩
   | ret=>exact⟨_,a₁,w₁,hq,harr⟩
   | panic ch=>exact⟨_,a₁,w₁,hq,harr⟩
   | outgrown=>exact⟨_,a₁,w₁,hq,harr⟩
 obtain⟨e,a',w',hq,harr⟩:=key _ a w rfl h₀;exact⟨e,a',w',hq,.of_steps (.head (fenced_calm hb hr rfl) M6 (.head (fenced_calm hb hr rfl) stepR_seq (.one (fenced_calm hb hr rfl) stepR_label))) harr⟩
end
def a97(l:Nat)(K:Ctx→St→Prop)(Q:PX→Ctx→St→Prop):PX→Ctx→St→Prop
 | .goto l',X,s=>l'=l∧K X s
 | e,X,s=>Q e X s
section
variable{X:Ctx}{Q:PX→Ctx→St→Prop}{st:St}
open Go.Sh
theorem b6C{S E:Type}{f:S→Option (S ⊕ E)}{s0:S}{e:E}{l:Nat}{c:Code}(I:S→Ctx→St→Prop)(h:lp f s0=some e)(h0:∃st1,Wk st st1∧I s0 X st1)(hX:∀s X1 s1,I s X1 s1→X1.P=X.P∧X1.ρ=X.ρ)
  (hr:∀s X1 s1,I s X1 s1→∀x,f s=some x→(∀e',x = .inr e'→e'=e)→J1 X1 c (a97 l (λX' s'=>∃s2,x = .inl s2∧∃s'',Wk s' s''∧I s2 X' s'') Q) s1):J1 X (.scope (.seq (.label l) c)) Q st:=by
 intro n g a w hs;let J:Nat→Act→World→Prop:=λm a w=>∃s X1 g1 s1,r7 X1 g1 s1 a w∧I s X1 s1∧lpN f m s=some e
 have least:∀a w,∃k,(∃m,J m a w)→J k a w∧∀m,J m a w→k≤m:=by
  intro a w;by_cases q:∃m,J m a w
  ·obtain⟨k,h1,h2⟩:=exists_least q;exact⟨k,λ_=>⟨h1,h2⟩⟩
  ·exact⟨0,λh=>absurd h q⟩
 obtain⟨st1,hw1,hi1⟩:=h0;obtain⟨g1,hs1⟩:=hw1 X g a w hs;refine a7T (λa w=>∃m,J m a w) (λa w=>Classical.choose (least a w)) ⟨_,s0,X,g1,st1,hs1,hi1,by rw[←b4S];exact h⟩ ?_;rintro a w hI;obtain⟨⟨s,X1,g1,s1,k1,k2,k3⟩,_⟩:=Classical.choose_spec (least a w) hI;generalize hm:Classical.choose (least a w)=m at k3 ⊢;obtain⟨hP,hρ⟩:=hX s X1 s1 k2;cases m with
 | zero=>rw[b0b] at k3;cases k3
 | succ m=>
  rw[b0a] at k3;cases hf:f s with
  | none=>rw[hf] at k3;cases k3
  | some x=>
   have hx:∀e',x = .inr e'→e'=e:=λe' q=>by
    rw[hf,q] at k3;exact Option.some.inj k3
   have:=hr s X1 s1 k2 x hf hx n g1 a w k1;rw[hP,hρ] at this;refine wpIn_mono this λex a' w' q=>?_;rw[a5d ⟨hP,hρ⟩] at q;cases ex <;> simp only[lift,a97,b2F] at q ⊢ <;> first | exact q | skip
   obtain⟨X',g',st',h1,_,hl,s2,hx2,s'',hw2,h2⟩:=q;obtain⟨g2,h1'⟩:=hw2 X' g' a' w' h1;have hJ:J m a' w':=⟨s2,X',g2,s'',h1',h2,by rw[hf,hx2] at k3;exact k3⟩;have hI':∃m,J m a' w':=⟨m,hJ⟩;exact⟨hl,hI',Nat.lt_succ_of_le ((Classical.choose_spec (least a' w') hI').2 m hJ)⟩
theorem b5W{S E:Type}{f:S→Option (S ⊕ E)}{s0:S}{e:E}{l:Nat}{c:Code}(F:S→St)(h:lp f s0=some e)(h0:Wk st (F s0))
  (hr:∀s x,f s=some x→(∀e',x = .inr e'→e'=e)→J1 X c (a97 l (λX' s'=>X'=X∧∃s2,x = .inl s2∧Wk s' (F s2)) Q) (F s)):J1 X (.scope (.seq (.label l) c)) Q st:=
 b6C (λs X1 s1=>X1=X∧s1=F s) h ⟨_,h0,rfl,rfl⟩ (λs X1 s1 q=>by rw[q.1];exact⟨rfl,rfl⟩) (by
  rintro s _ _ ⟨rfl,rfl⟩ x hf hx;refine (hr s x hf hx).mono λex X' s' q=>?_;cases ex <;> simp only[a97] at q ⊢ <;> first | exact q | (
   obtain⟨hl,h1,s2,h2,h3⟩:=q;exact⟨hl,s2,h2,_,h3,h1,rfl⟩))
end
end Go.Pw
namespace Go.Pw
open Go.RowKit Go.Instr
section
variable{P:Program}{w:World}{imm:Nat→Nat→Prop}
end
end Go.Pw
namespace Go.Pw
end Go.Pw
namespace Go.Pw
open Go.RowKit
structure TB where
 f:List ((Nat × Nat) × (Nat × Nat))
 a:List (Nat × Bool)
 s:List (Nat × Nat)
 z:List (Nat × PV)
structure TB.Ok (P:Program) (b:TB):Prop where
 f:b.f.map (λp=>O2 P p.1.1 p.1.2)=b.f.map (λp=>some p.2)
 a:b.a.map (λp=>B8 P p.1)=b.a.map (λp=>some p.2)
 s:b.s.map (λp=>l5 P p.1)=b.s.map (λp=>some p.2)
 z:b.z.map (λp=>(r4 P p.1).map PV.ofV)=b.z.map (λp=>some p.2)
def tk{α:Type}(k:Nat):List (Nat × α)→Option α
 | []=>none
 | p::l=>match Nat.beq p.1 k with
  | true=>some p.2
  | false=>tk k l
def tk2{α:Type}(k m:Nat):List ((Nat × Nat) × α)→Option α
 | []=>none
 | p::l=>match Nat.beq p.1.1 k with
  | true=>match Nat.beq p.1.2 m with
   | true=>some p.2
   | false=>tk2 k m l
  | false=>tk2 k m l
theorem a9A{α:Type}{k:Nat}{x:α}:∀ {l:List (Nat × α)},tk k l=some x→(k,x)∈l
 | [],h=>by cases h
 | p::l,h=>by
  unfold tk at h;split at h
  ·rename_i q;have:=Nat.eq_of_beq_eq_true q;cases h;subst this;exact List.mem_cons_self ..
  ·exact List.mem_cons_of_mem _ (a9A h)
theorem a9z{α:Type}{k m:Nat}{x:α}:∀ {l:List ((Nat × Nat) × α)},tk2 k m l=some x→((k,m),x)∈l
 | [],h=>by cases h
 | p::l,h=>by
  unfold tk2 at h;split at h
  ·rename_i q;have e1:=Nat.eq_of_beq_eq_true q;split at h
   ·rename_i q;have e2:=Nat.eq_of_beq_eq_true q;cases h;subst e1;subst e2;exact List.mem_cons_self ..
   ·exact List.mem_cons_of_mem _ (a9z h)
  ·exact List.mem_cons_of_mem _ (a9z h)
section
variable{P:Program}{b:TB}
theorem TB.Ok.fo(h:b.Ok P){T f:Nat}{p:Nat × Nat}(e:tk2 T f b.f=some p):O2 P T f=some p:=List.map_inj_left.1 h.f _ (a9z e)
theorem TB.Ok.ag(h:b.Ok P){T:Nat}{p:Bool}(e:tk T b.a=some p):B8 P T=some p:=List.map_inj_left.1 h.a _ (a9A e)
theorem TB.Ok.si(h:b.Ok P){T:Nat}{p:Nat}(e:tk T b.s=some p):l5 P T=some p:=List.map_inj_left.1 h.s _ (a9A e)
theorem TB.Ok.ze(h:b.Ok P){T:Nat}{p:PV}(e:tk T b.z=some p):(r4 P T).map PV.ofV=some p:=List.map_inj_left.1 h.z _ (a9A e)
end
def fc1{β:Type}(d:PV)(k:PV→Option β):Option β:=
 match d with
 | .bool b=>k (.bool b)
 | .int i n=>k (.int i n)
 | .str s=>k (.str s)
 | .agg cs=>k (.agg cs)
 | .tup vs=>k (.tup vs)
 | .lst t xs=>k (.lst t xs)
 | .sl l=>k (.sl l)
 | .mp l=>k (.mp l)
 | .mapc es=>k (.mapc es)
 | .ptr l i f=>k (.ptr l i f)
 | .rptr cs=>k (.rptr cs)
 | .fn f cap=>k (.fn f cap)
 | .nilfn=>k .nilfn
 | .abs R=>k (.abs R)
 | .junk=>k .junk
theorem b2G{β:Type}(d:PV)(k:PV→Option β):fc1 d k=k d:=by cases d <;> rfl
def fcL{β:Type}:List PV→(List PV→Option β)→Option β
 | [],k=>k []
 | x::xs,k=>fc1 x λx=>fcL xs λxs=>k (x::xs)
theorem b2H{β:Type}:∀(xs:List PV) (k:List PV→Option β),fcL xs k=k xs
 | [],k=>rfl
 | x::xs,k=>by
  unfold fcL;rw[b2G,b2H xs]
def fc{β:Type}(d:PV)(k:PV→Option β):Option β:=
 fc1 d λd=>match d with
 | .agg cs=>fcL cs λcs=>k (.agg cs)
 | d=>k d
theorem a7e{β:Type}(d:PV)(k:PV→Option β):fc d k=k d:=by
 unfold fc;rw[b2G];cases d <;> first | rfl | exact b2H _ _
def fcB{β:Type}(d:Bool)(k:Bool→Option β):Option β:=
 match d with
 | true=>k true
 | false=>k false
theorem b0N{β:Type}(d:Bool)(k:Bool→Option β):fcB d k=k d:=by cases d <;> rfl
def a34(b:TB)(env:Nat→PV)(σ:Nat→Option Row):Op→Option PV
 | .move x=>some (p6 env x)
 | .assign x=>some (p6 env x)
 | .fieldAddr T x f=>match p6 env x with
  | .ptr l i q=>match tk2 T f b.f with
   | some p=>some (.ptr l i (q+p.1))
   | none=>none
  | .rptr cs=>match tk2 T f b.f with
   | some p=>some (.rptr (cs.drop p.1))
   | none=>none
  | _=>none
 | .field T x f=>match p6 env x with
  | .agg cs=>match tk2 T f b.f with
   | some p=>match tk p.2 b.a with
    | some false=>cs[p.1]?
    | some true=>match tk p.2 b.s with
     | some n=>match Nat.ble (p.1+n) cs.length with
      | true=>some (.agg ((cs.drop p.1).take n))
      | false=>none
     | none=>none
    | none=>none
   | none=>none
  | _=>none
 | .load T x=>match p6 env x with
  | .ptr l i f=>match σ l with
   | some r=>match r.els[i]? with
    | some y=>match tk T b.a with
     | some false=>y.cells[f]?
     | some true=>match tk T b.s with
      | some n=>match Nat.ble (f+n) y.cells.length with
       | true=>some (.agg ((y.cells.drop f).take n))
       | false=>none
      | none=>none
     | none=>none
    | none=>none
   | none=>none
  | .rptr cs=>match tk T b.a with
   | some false=>cs[0]?
   | some true=>match tk T b.s with
    | some n=>match Nat.ble n cs.length with
     | true=>some (.agg (cs.take n))
     | false=>none
    | none=>none
   | none=>none
  | _=>none
 | .unOp .not _ x=>match p6 env x with
  | .bool v=>some (.bool (!v))
  | _=>none
 | .binOp op _ x y _=>match p6 env x with
  | .int k1 m=>match p6 env y with
   | .int k2 n=>match decide (k1=k2) with
    | true=>match b2z op m n with
     | some r=>some (.bool r)
     | none=>match b2v k1 op m n with
      | some r=>some (.int k1 r)
      | none=>none
    | false=>none
   | _=>none
  | _=>none
 | .extract x i=>match p6 env x with
  | .tup ds=>ds[i]?
  | _=>none
 | .makeFunc fn ⟨[]⟩ cap=>some (.fn fn (cap.toList.map (p6 env)))
 | _=>none
theorem a3e{P:Program}{b:TB}(hb:b.Ok P){env:Nat→PV}{σ:Nat→Option Row}{dst:Option Tmp}{op:Op}{d:PV}(h:a34 b env σ op=some d):u6 P σ (p6 env) dst op d .none:=by
 cases op <;> simp only[a34] at h
 case move x=>cases h;exact .move x
 case assign x=>cases h;exact .assign x
 case load T x=>
  split at h
  ·rename_i l i f hx;split at h
   ·rename_i r hl;split at h
    ·rename_i y hy;split at h
     ·rename_i ha;exact .a1r T x l i f r y d hx hl hy (hb.ag ha) h
     ·rename_i ha;split at h
      ·rename_i n hn;split at h
       ·rename_i hle;cases h;exact .a2w T x l i f r y n hx hl hy (hb.ag ha) (hb.si hn) (Nat.le_of_ble_eq_true hle)
       ·cases h
      ·cases h
     ·cases h
    ·cases h
   ·cases h
  ·rename_i cs hx;split at h
   ·rename_i ha;exact .Y9 T x cs d hx (hb.ag ha) h
   ·rename_i ha;split at h
    ·rename_i n hn;split at h
     ·rename_i hle;cases h;exact .Y8 T x cs n hx (hb.ag ha) (hb.si hn) (Nat.le_of_ble_eq_true hle)
     ·cases h
    ·cases h
   ·cases h
  ·cases h
 case fieldAddr T x f=>
  split at h
  ·rename_i l i q hx;split at h
   ·rename_i p hp;cases h;exact .fieldAddrP T x f l i q p.1 p.2 hx (hb.fo hp)
   ·cases h
  ·rename_i cs hx;split at h
   ·rename_i p hp;cases h;exact .fieldAddrR T x f cs p.1 p.2 hx (hb.fo hp)
   ·cases h
  ·cases h
 case field T x f=>
  split at h
  ·rename_i cs hx;split at h
   ·rename_i p hp;split at h
    ·rename_i ha;exact .fieldS T x f cs p.1 p.2 d hx (hb.fo hp) (hb.ag ha) h
    ·rename_i ha;split at h
     ·rename_i n hn;split at h
      ·rename_i hle;cases h;exact .fieldA T x f cs p.1 p.2 n hx (hb.fo hp) (hb.ag ha) (hb.si hn) (Nat.le_of_ble_eq_true hle)
      ·cases h
     ·cases h
    ·cases h
   ·cases h
  ·cases h
 case extract x i=>
  split at h
  ·rename_i ds hx;exact .extract x i ds d hx h
  ·cases h
 case unOp op t x=>
  cases op <;> simp only[a34] at h
  case not=>
   split at h
   ·rename_i v hx;cases h;exact .not t x v hx
   ·cases h
  all_goals cases h
 case binOp op t x y u=>
  split at h
  ·rename_i k1 m hx;split at h
   ·rename_i k2 n hy;split at h
    ·rename_i hk;have hk:=of_decide_eq_true hk;subst hk;split at h
     ·rename_i r hr;cases h;exact .cmp op t u x y k1 m n r hx hy hr
     ·split at h
      ·rename_i r hr;cases h;exact .ari op t u x y k1 m n r hx hy hr
      ·cases h
    ·cases h
   ·cases h
  ·cases h
 case makeFunc fn first cap=>
  obtain⟨l⟩:=first
  cases l <;> simp only[a34] at h
  case nil=>cases h;exact .mkFunc fn cap
  all_goals cases h
 all_goals cases h
def ev1{β:Type}(b:TB)(o:Oper)(env:Nat→PV)(σ:Nat→Option Row)(k:(Nat→PV)→(Nat→Option Row)→Option β):Option β:=
 match o.guard with
 | some _=>none
 | none=>match o.dst with
  | some t=>match o.op with
   | .box T x=>match σ t with
    | some _=>none
    | none=>fc (p6 env x) λd=>match d.el with
     | true=>fcB d.Y3 λc=>k (o0 env t (.ptr t 0 0)) (o0 σ t (some ⟨[d],0,false,d.cells.length,c⟩))
     | false=>none
   | .alloc T=>match σ t with
    | some _=>none
    | none=>match tk T b.z with
     | some d=>match d.el with
      | true=>k (o0 env t (.ptr t 0 0)) (o0 σ t (some ⟨[d],0,false,d.cells.length,true⟩))
      | false=>none
     | none=>none
   | op=>match a34 b env σ op with
    | some d=>fc d λd=>k (o0 env t d) σ
    | none=>none
  | none=>match o.op with
   | .store T x y=>match p6 env x with
    | .ptr l 0 q=>match σ l with
     | some r=>match r.els with
      | [x0]=>match r.lo with
       | 0=>match tk T b.s with
        | some n=>fc (p6 env y).w1 λd=>
         match d.el&&(Nat.ble 1 n&&(Nat.beq d.cells.length n&&(Nat.ble (q+n) x0.cells.length&&d.cells.all PV.sc))) with
         | true=>fc (R7 x0 q d.cells) λx'=>fcB (r.cl&&d.cells.all PV.K1) λc=>k env (o0 σ l (some ⟨[x'],0,r.opn,r.z,c⟩))
         | false=>none
        | none=>none
       | _+1=>none
      | _=>none
     | none=>none
    | _=>none
   | _=>none
theorem b1U{β:Type}{P:Program}{b:TB}(hb:b.Ok P){ops:Array Oper}{T:List Nat}{c:Nat}{o:Oper}{env:Nat→PV}{σ:Nat→Option Row}{k:(Nat→PV)→(Nat→Option Row)→Option β}{r:β}(h:ev1 b o env σ k=some r) :
  ∃env' σ',Stp P ops false T c o ⟨env,σ⟩ ⟨env',σ'⟩∧k env' σ'=some r:=by
 obtain⟨dst,op,ty,pos,after,gd⟩:=o;unfold ev1 at h;simp only at h;cases gd with
 | some g=>cases h
 | none=>
 simp only at h;have hw:∀dst,s9 ops env ⟨dst,op,ty,pos,after,none⟩=some true:=λ_=>rfl;cases dst with
 | some t=>
  simp only at h;have hlook:∀d,a34 b env σ op=some d→k (o0 env t d) σ=some r→∃env' σ',Stp P ops false T c ⟨some t,op,ty,pos,after,none⟩ ⟨env,σ⟩ ⟨env',σ'⟩∧k env' σ'=some r:=λd hd hk=>
   ⟨o0 env t d,σ,.run d .none (hw _) (a3e hb hd) ⟨y6.refl _,w9.refl _⟩ trivial (λq=>nomatch q) (λq=>nomatch q),hk⟩
  split at h
  ·rename_i T' x;split at h;·cases h
   ·rename_i hf;rw[a7e] at h;split at h
    ·rename_i hel;rw[b0N] at h;exact⟨_,_,.run (.ptr t 0 0) (.new t ⟨[p6 env x],0,false,(p6 env x).cells.length,(p6 env x).Y3⟩) (hw _) (.box T' x t rfl hel) ⟨y6.refl _,w9.refl _⟩ hf (λq=>nomatch q) (λq=>nomatch q),h⟩
    ·cases h
  ·rename_i T';split at h;·cases h
   ·rename_i hf;split at h
    ·rename_i d hd;split at h
     ·rename_i hel;have:=hb.ze hd;cases hz:r4 P T' with
      | none=>rw[hz] at this;cases this
      | some v=>
       rw[hz] at this;simp only[Option.map_some,Option.some.injEq] at this;subst this;exact⟨_,_,.run (.ptr t 0 0) (.new t ⟨[PV.ofV v],0,false,(PV.ofV v).cells.length,true⟩) (hw _) (.alloc T' t v rfl hz hel) ⟨y6.refl _,w9.refl _⟩ hf (λq=>nomatch q) (λq=>nomatch q),h⟩
     ·cases h
    ·cases h
  ·split at h
   ·rename_i d hd;rw[a7e] at h;exact hlook d hd h
   ·cases h
 | none=>
  simp only at h;split at h
  ·rename_i T' x y;split at h
   ·rename_i l q hx;split at h
    ·rename_i rw hl;obtain⟨els,lo,opn,z,cl⟩:=rw;simp only at h;split at h
     ·rename_i x0;split at h
      ·split at h
       ·rename_i n hn;rw[a7e] at h;split at h
        ·rename_i hc;simp only[Bool.and_eq_true] at hc;obtain⟨h1,h2,h3,h4,h5⟩:=hc;have h3:=Nat.eq_of_beq_eq_true h3;rw[a7e,b0N] at h;have hop:u6 P σ (p6 env) none (.store T' x y) (.tup []) (.sto l 0 q (p6 env y).w1.cells):=a3D hx (.inr rfl) rfl h1 (hb.si hn) (Nat.le_of_ble_eq_true h2) h3;refine⟨env,_,?_,h⟩;have:=a4L.run (P:=P) (ops:=ops) (dr:=false) (T:=T) (c:=c) (σF:=σ) (o:=⟨none,.store T' x y,ty,pos,after,none⟩) (st:=⟨env,σ⟩) (.tup []) (.sto l 0 q (p6 env y).w1.cells) (hw _) hop ⟨y6.refl _,w9.refl _⟩ ⟨_,x0,hl,rfl,Nat.le_refl _,by rw[h3];exact Nat.le_of_ble_eq_true h4,h5⟩ (λq=>nomatch q) (λq=>nomatch q);simp only[G8.apply,hl] at this;exact this
        ·cases h
       ·cases h
      ·cases h
     ·cases h
    ·cases h
   ·cases h
  ·cases h
def run(b:TB):Nat→List Oper→(Nat→PV)→(Nat→Option Row)→Option (List Oper × (Nat→PV) × (Nat→Option Row))
 | 0,l,env,σ=>some (l,env,σ)
 | _+1,[],_,_=>none
 | n+1,o::l,env,σ=>ev1 b o env σ λenv σ=>run b n l env σ
section
variable{X:Ctx}{ops:Array Oper}{K:Ctx→St→Prop}
theorem seg{b:TB}(hb:b.Ok X.P):∀(n:Nat) {i:Nat} {l l':List Oper} {env env':Nat→PV} {σ σ':Nat→Option Row},run b n l env σ=some (l',env',σ')→Sq X ops (i+n) l' K ⟨env',σ'⟩→Sq X ops i l K ⟨env,σ⟩
 | 0,i,l,l',env,env',σ,σ',h,k=>by cases h;exact k
 | n+1,i,[],l',env,env',σ,σ',h,k=>by cases h
 | n+1,i,o::l,l',env,env',σ,σ',h,k=>by
  obtain⟨env1,σ1,h1,h2⟩:=b1U hb h;refine a2D h1 (seg hb n h2 ?_);rw[Nat.add_assoc,Nat.add_comm 1 n];exact k
end
end Go.Pw
namespace Go.Pw
open Go.RowKit Go.Sh
section
variable{X:Ctx}{Q:PX→Ctx→St→Prop}{st:St}
theorem cN{c:Operand}{x y:Code}{α:Type}{b:Bool}{A B:Option α}{r:α}(h:(if b then A else B)=some r)(hx:b=true→A=some r→J1 X x Q st)(hy:b=false→B=some r→J1 X y Q st)(hc:p6 st.env c = .bool b:=by rfl):J1 X (.cond c x y) Q st:=
 y7 b hc (λq=>hx q (ifT h q)) λq=>hy q (ifF h q)
theorem jq{J R:Type}{x y:Code}{k:J→Option R}{b:(J→Option R)→Option R}{r:R}(h:jn k b=some r)(F:J→St)(hk:∀j,k j=some r→J1 X y Q (F j))
  (hx:∀κ,b κ=some r→J1 X x (a0Y (λX' s=>X'=X∧∃j,κ j=some r∧Wk s (F j)) Q) st):J1 X (.seq x y) Q st:=b5S F hk (hx k h)
theorem jqE{J R:Type}{x:Code}{k:J→Option R}{b:(J→Option R)→Option R}{r:R}(h:jn k b=some r)(F:J→St)(hk:∀j,k j=some r→Q .normal X (F j))
  (hx:∀κ,b κ=some r→J1 X x (a0Y (λX' s=>X'=X∧∃j,κ j=some r∧Wk s (F j)) Q) st):J1 X x Q st:=b5T F hk (hx k h)
theorem jqR{J R:Type}{x:Code}{k:J→Option R}{b:(J→Option R)→Option R}{r:R}(h:jn k b=some r)(F:J→St)(hk:∀j,k j=some r→Q .normal X (F j)∧Q .ret X (F j))
  (hx:∀κ,b κ=some r→J1 X x (b5v (λX' s=>X'=X∧∃j,κ j=some r∧Wk s (F j))) st):J1 X x Q st:=b5U F hk (hx k h)
theorem lq{S E R:Type}{f:S→Option (S ⊕ E)}{s0:S}{k:E→Option R}{r:R}{c:Code}(h:(lp f s0).bind k=some r)(F:S→St)(h0:Wk st (F s0))
  (hr:∀s x,f s=some x→(∀e',x = .inr e'→k e'=some r)→J1 X c (a0Y (λX' s'=>X'=X∧∃s2,x = .inl s2∧Wk s' (F s2)) Q) (F s)):J1 X (.loop c) Q st:=by
 obtain⟨e,h1,h2⟩:=a1l h;exact b5V F h1 h0 λs x hf hx=>hr s x hf λe' q=>by rw[hx e' q];exact h2
theorem lqS{S E R:Type}{f:S→Option (S ⊕ E)}{s0:S}{k:E→Option R}{r:R}{l:Nat}{c:Code}(h:(lp f s0).bind k=some r)(F:S→St)(h0:Wk st (F s0))
  (hr:∀s x,f s=some x→(∀e',x = .inr e'→k e'=some r)→J1 X c (a97 l (λX' s'=>X'=X∧∃s2,x = .inl s2∧Wk s' (F s2)) Q) (F s)):J1 X (.scope (.seq (.label l) c)) Q st:=by
 obtain⟨e,h1,h2⟩:=a1l h;exact b5W F h1 h0 λs x hf hx=>hr s x hf λe' q=>by rw[hx e' q];exact h2
theorem eJ{J R:Type}{κ:J→Option R}{r:R}{F:J→St}{s:St}{j:J}(h:κ j=some r)(w:Wk s (F j)):X=X∧∃j,κ j=some r∧Wk s (F j):=⟨rfl,j,h,w⟩
theorem eL{S E:Type}{x:S ⊕ E}{F:S→St}{s:St}{j:S}(h:some (.inl j)=some x)(w:Wk s (F j)):X=X∧∃s2,x = .inl s2∧Wk s (F s2):=⟨rfl,j,(Option.some.inj h).symm,w⟩
theorem eS{S E:Type}{x:S ⊕ E}{F:S→St}{s:St}{j:S}{l:Nat}(h:some (.inl j)=some x)(w:Wk s (F j)):l=l∧X=X∧∃s2,x = .inl s2∧Wk s (F s2):=⟨rfl,rfl,j,(Option.some.inj h).symm,w⟩
theorem xL{S E R:Type}{x:S ⊕ E}{k:E→Option R}{r:R}{e:E}(hx:∀e',x = .inr e'→k e'=some r)(h:some (.inr e)=some x):k e=some r:=hx e (Option.some.inj h).symm
abbrev PV.nl:PV:=.lst true []
abbrev vR(d:PV)(n:Nat):Row:=⟨[d],0,false,n,true⟩
abbrev vS(d:PV)(n:Nat):Row:=⟨[d],0,false,n,false⟩
theorem WE{s:St}(L:List (Nat × PV))(R:List (Nat × Row))(h:Ag R s L:=by (repeat first | refine⟨J,J,J,?_⟩ | refine⟨ct (by assumption),J,J,?_⟩);exact tr)
  (k:Ar R s R:=by (repeat first | refine⟨rS,?_⟩ | refine⟨W5 J J J (λq=>nomatch q) J J J J,?_⟩);exact tr):Wk s (St.of L R):=a5r L R h k
theorem WPE{s:St}(π:Nat→Nat)(L:List (Nat × PV))(R:List (Nat × Row))(h:AgP π R s L:=by (repeat first | refine⟨J,J,J,?_⟩ | refine⟨ct (by assumption),J,J,?_⟩);exact tr)
  (k:ArP π R s R:=by (repeat first | refine⟨rN,?_⟩ | refine⟨W5 J J J (λq=>nomatch q) J J J J,?_⟩);exact tr)
  (hi:(R.all λp=>R.all λq=>π p.1 != π q.1||p.1==q.1)=true:=by rfl):Wk s (St.of L R):=b04 π L R h k hi
theorem W{s:St}{L:List (Nat × PV)}{R:List (Nat × Row)}(h:Ag R s L:=by (repeat refine⟨J,J,J,?_⟩);exact tr)
  (k:Ar R s R:=by (repeat first | refine⟨rS,?_⟩ | refine⟨W5 J J J (λq=>nomatch q) J J J J,?_⟩);exact tr):Wk s (St.of L R):=a5r L R h k
theorem WP{s:St}(π:Nat→Nat){L:List (Nat × PV)}{R:List (Nat × Row)}(h:AgP π R s L:=by (repeat refine⟨J,J,J,?_⟩);exact tr)
  (k:ArP π R s R:=by (repeat first | refine⟨rN,?_⟩ | refine⟨W5 J J J (λq=>nomatch q) J J J J,?_⟩);exact tr)
  (hi:(R.all λp=>R.all λq=>π p.1 != π q.1||p.1==q.1)=true:=by rfl):Wk s (St.of L R):=b04 π L R h k hi
theorem f1{P:Program}{fn:Func}{d v:PV}(h:a7W P st fn.results.toList [v]:=by exact⟨J,tr⟩)(h2:(a0b [v]).vok st.σ=true:=by rfl)(h3:(a0b [v]).view st.σ=d∨((a0b [v]).view st.σ).w3=d:=by first | exact .inl rfl | exact .inr rfl):X=X∧Fin P fn d st:=⟨rfl,_,h,h2,h3⟩
theorem f2{P:Program}{fn:Func}{d v u:PV}(h:a7W P st fn.results.toList [v,u]:=by exact⟨J,J,tr⟩)(h2:(a0b [v,u]).vok st.σ=true:=by rfl)(h3:(a0b [v,u]).view st.σ=d∨((a0b [v,u]).view st.σ).w3=d:=by first | exact .inl rfl | exact .inr rfl):X=X∧Fin P fn d st:=⟨rfl,_,h,h2,h3⟩
theorem f3{P:Program}{fn:Func}{d v u w:PV}(h:a7W P st fn.results.toList [v,u,w]:=by exact⟨J,J,J,tr⟩)(h2:(a0b [v,u,w]).vok st.σ=true:=by rfl)(h3:(a0b [v,u,w]).view st.σ=d∨((a0b [v,u,w]).view st.σ).w3=d:=by first | exact .inl rfl | exact .inr rfl):X=X∧Fin P fn d st:=⟨rfl,_,h,h2,h3⟩
end
theorem pI{P:Program}{f:FuncId}{fn:Func}{c:Code}{ds:List PV}{d:PV}(hf:P.funcs[f]? = some fn)
  (h:∀(w0:WG P) imm0,J1 { P:=P,N:=fn.ntmps,ρ:=none,w0:=w0.1,imm0:=imm0,tab:=w0.2 } c (fnQ { P:=P,N:=fn.ntmps,ρ:=none,w0:=w0.1,imm0:=imm0,tab:=w0.2 } (Fin P fn d)) ⟨D3 ds,λ_=>none⟩)(hb:fn.body=some c:=by rfl)(hn:ds.length≤fn.ntmps:=by exact nl)(h6:fn.ntmps≤1000000:=by exact nl):E5 P f ds d:=b23 hf hb rfl hn h h6
theorem pIN{P:Program}{f:FuncId}{fn:Func}{c:Code}{ds:List PV}{r:Row}(hf:P.funcs[f]? = some fn)
  (h:∀(w0:WG P) imm0,J1 { P:=P,N:=fn.ntmps,ρ:=none,w0:=w0.1,imm0:=imm0,tab:=w0.2 } c (fnQ { P:=P,N:=fn.ntmps,ρ:=none,w0:=w0.1,imm0:=imm0,tab:=w0.2 } (b2e P fn r)) ⟨D3 ds,λ_=>none⟩)(hb:fn.body=some c:=by rfl)(hn:ds.length≤fn.ntmps:=by exact nl)(h6:fn.ntmps≤1000000:=by exact nl):a1E P f ds r:=b14 hf hb rfl hn h h6
end Go.Pw
namespace Go.Pw
open Go.RowKit Go.Sh
def PO(P:Program)(f:FuncId)(ds:List PV){α:Type}(x:Option α)(d:α→PV):Prop:=o7 P f∧∀r,x=some r→E5 P f ds (d r)
def PON(P:Program)(f:FuncId)(ds:List PV){α:Type}(x:Option α)(d:α→Row):Prop:=o7 P f∧∀r,x=some r→a1E P f ds (d r)
theorem pO{P:Program}{f:FuncId}{fn:Func}{c:Code}{ds:List PV}{α:Type}{x:Option α}{d:α→PV}(hf:P.funcs[f]? = some fn)
  (h:∀r,x=some r→∀(w0:WG P) imm0,J1 { P:=P,N:=fn.ntmps,ρ:=none,w0:=w0.1,imm0:=imm0,tab:=w0.2 } c (fnQ { P:=P,N:=fn.ntmps,ρ:=none,w0:=w0.1,imm0:=imm0,tab:=w0.2 } (Fin P fn (d r))) ⟨D3 ds,λ_=>none⟩)
  (hb:fn.body=some c:=by rfl)(hn:ds.length≤fn.ntmps:=by exact nl)(h6:fn.ntmps≤1000000:=by exact nl)(hm:fn.name ≠ "runtime.NumGoroutine" := by decide):PO P f ds x d:=⟨⟨fn,c,hf,hb,hm⟩,λr q=>pI hf (h r q) hb hn h6⟩
theorem pON{P:Program}{f:FuncId}{fn:Func}{c:Code}{ds:List PV}{α:Type}{x:Option α}{d:α→Row}(hf:P.funcs[f]? = some fn)
  (h:∀r,x=some r→∀(w0:WG P) imm0,J1 { P:=P,N:=fn.ntmps,ρ:=none,w0:=w0.1,imm0:=imm0,tab:=w0.2 } c (fnQ { P:=P,N:=fn.ntmps,ρ:=none,w0:=w0.1,imm0:=imm0,tab:=w0.2 } (b2e P fn (d r))) ⟨D3 ds,λ_=>none⟩)
  (hb:fn.body=some c:=by rfl)(hn:ds.length≤fn.ntmps:=by exact nl)(h6:fn.ntmps≤1000000:=by exact nl)(hm:fn.name ≠ "runtime.NumGoroutine" := by decide):PON P f ds x d:=⟨⟨fn,c,hf,hb,hm⟩,λr q=>pIN hf (h r q) hb hn h6⟩
theorem H3{P:Program}{σ:Nat→Option Row}{ρ:Operand→PV}{dst:Option Tmp}{α:Type}{z:Option α}{v:α}{d:α→PV}{f:FuncId}{args:Array Operand}{ts:Array TypeId}{x:Operand}{ds vs cap:List PV}(hx:ρ x = .fn (.func f) cap)(o:PO P f vs z d)(ha:args.toList.map ρ++cap=ds)(hz:z=some v)
  (hok:ds.all (PV.vok σ)=true:=by rfl)(hv:ds.map (PV.vw σ)=vs:=by rfl)(hfl:(d v).flat=true:=by rfl):u6 P σ ρ dst (.call { callee:=.value x,args,argTypes:=ts }) (d v) .none:=a5K hx o.1 ha (o.2 v hz) hok hv hfl
theorem u9{P:Program}{σ:Nat→Option Row}{ρ:Operand→PV}{dst:Option Tmp}{α:Type}{z:Option α}{v:α}{d:α→PV}{f:FuncId}{args:Array Operand}{ts:Array TypeId}{x:Operand}{ds vs cap:List PV}{ls:List Nat}(hx:ρ x = .fn (.func f) cap)(o:PO P f vs z d)(ha:args.toList.map ρ++cap=ds)(hz:z=some v)
  (hok:ds.all (PV.vok σ)=true:=by rfl)(hv:ds.map (PV.vw σ)=vs:=by rfl)(hl:ds.flatMap (PV.D0 σ)=ls:=by rfl):u6 P σ ρ dst (.call { callee:=.value x,args,argTypes:=ts }) (d v) (.frz ls):=a6K hx o.1 ha (o.2 v hz) hok hv hl
theorem a8G{P:Program}{σ:Nat→Option Row}{ρ:Operand→PV}{dst:Option Tmp}{α:Type}{z:Option α}{v:α}{d:α→Row}{f:FuncId}{args:Array Operand}{ts:Array TypeId}{x:Operand}{ds vs cap:List PV}{ls:List Nat}{l:Tmp}(hx:ρ x = .fn (.func f) cap)(o:PON P f vs z d)(ha:args.toList.map ρ++cap=ds)(hz:z=some v)
  (hd:dst=some l:=by rfl)(hok:ds.all (PV.vok σ)=true:=by rfl)(hv:ds.map (PV.vw σ)=vs:=by rfl)(hcl:(d v).cl=true:=by rfl)(hl:ds.flatMap (PV.D0 σ)=ls:=by rfl) :
  u6 P σ ρ dst (.call { callee:=.value x,args,argTypes:=ts }) (.sl l) (.frzN ls l (d v)):=b4g hx o.1 ha (o.2 v hz) hd hok hv hcl hl
section
variable{X:Ctx}{ops:Array Oper}{i:Nat}{os:List Oper}{K:Ctx→St→Prop}{env:Nat→PV}{σ:Nat→Option Row}{ty:TypeId}{pos:String}{after:Array Edge}{gd:Option (Nat × Bool)}{t:Tmp}{α β:Type}{z:Option α}{k:α→Option β}{r:β}
theorem cA{f:FuncId}{args:Array Operand}{ts:Array TypeId}{c:Operand}{ds vs cap:List PV}{d:α→PV}(h:z.bind k=some r)(o:PO X.P f vs z d)(hx:p6 env c = .fn (.func f) cap)(ha:args.toList.map (p6 env)++cap=ds)
  (kk:∀v,z=some v→k v=some r→Sq X ops (i+1) os K ⟨o0 env t (d v),σ⟩)(hw:s9 ops env ⟨some t,.call { callee:=.value c,args,argTypes:=ts },ty,pos,after,gd⟩=some true:=by rfl)(hok:ds.all (PV.vok σ)=true:=by rfl)(hv:ds.map (PV.vw σ)=vs:=by rfl)(hfl:∀v,(d v).flat=true:=by intro _;rfl) :
  Sq X ops i (⟨some t,.call { callee:=.value c,args,argTypes:=ts },ty,pos,after,gd⟩::os) K ⟨env,σ⟩:=by
 obtain⟨v,h1,h2⟩:=a1l h;exact y0 hw (a5K hx o.1 ha (o.2 v h1) hok hv (hfl v)) (kk v h1 h2)
theorem cF{f:FuncId}{args:Array Operand}{ts:Array TypeId}{c:Operand}{ds vs cap:List PV}{d:α→PV}(h:z.bind k=some r)(o:PO X.P f vs z d)(hx:p6 env c = .fn (.func f) cap)(ha:args.toList.map (p6 env)++cap=ds)
  (kk:∀v,z=some v→k v=some r→Sq X ops (i+1) os K ⟨o0 env t (d v),σ⟩)(hw:s9 ops env ⟨some t,.call { callee:=.value c,args,argTypes:=ts },ty,pos,after,gd⟩=some true:=by rfl)(hok:ds.all (PV.vok σ)=true:=by rfl)(hv:ds.map (PV.vw σ)=vs:=by rfl)(hl:ds.flatMap (PV.D0 σ) = []:=by rfl) :
  Sq X ops i (⟨some t,.call { callee:=.value c,args,argTypes:=ts },ty,pos,after,gd⟩::os) K ⟨env,σ⟩:=by
 obtain⟨v,h1,h2⟩:=a1l h;exact yc hw (a6K hx o.1 ha (o.2 v h1) hok hv hl) (kk v h1 h2)
theorem iL{γ:Type}{f:γ→PV}{xs:List γ}{k:γ→Option β}{n:Int}{T E:TypeId}{x y:Operand}{b:Bool}{kd:IntKind}{m:Nat}(h:(ix xs n).bind k=some r)(hx:p6 env x = .lst b (xs.map f))(hy:p6 env y = .int kd n)
  (hE:r5 X.P T=some E)(hz:l5 X.P E=some m)(kk:∀v,ix xs n=some v→k v=some r→Sq X ops (i+1) os K ⟨o0 env t (.rptr (f v).cells),σ⟩)(hl:∀v,(f v).cells.length=m:=by intro _;rfl)(hw:s9 ops env ⟨some t,.indexAddr T x y,ty,pos,after,gd⟩=some true:=by rfl) :
  Sq X ops i (⟨some t,.indexAddr T x y,ty,pos,after,gd⟩::os) K ⟨env,σ⟩:=by
 obtain⟨v,h1,h2⟩:=a1l h;exact y0 hw (B4 h1 hx hy hE hz rfl (hl v)) (kk v h1 h2)
theorem nL{γ:Type}{f:γ→PV}{xs:List γ}{x:Operand}{T E:TypeId}{b:Bool}(hx:p6 env x = .lst b (xs.map f))(hE:r5 X.P T=some E)(kk:Sq X ops (i+1) os K ⟨o0 env t (.int .i64 xs.length),σ⟩)(hw:s9 ops env ⟨some t,.call { callee:=.builtin .len,args:=#[x],argTypes:=#[T] },ty,pos,after,gd⟩=some true:=by rfl) :
  Sq X ops i (⟨some t,.call { callee:=.builtin .len,args:=#[x],argTypes:=#[T] },ty,pos,after,gd⟩::os) K ⟨env,σ⟩:=y0 hw (a3g hx hE) kk
end
theorem d4{P:Program}{ops:Array Oper}{bar:List Nat}{i:Nat}{os:List Oper}{K:St→Prop}{env:Nat→PV}{σ:Nat→Option Row}{ty:TypeId}{pos:String}{after:Array Edge}{gd:Option (Nat × Bool)}{op:Op}{t:Tmp}{d:PV}(hw:s9 ops env ⟨some t,op,ty,pos,after,gd⟩=some true)(h:u6 P σ (p6 env) (some t) op d .none)(hc:cls bar i op=4)(k:Ex P ops bar true (i+1) os ⟨o0 env t d,σ⟩ K) :
  Ex P ops bar true i (⟨some t,op,ty,pos,after,gd⟩::os) ⟨env,σ⟩ K:=x0 hw h (λ_=>by rw[hc];trivial) k
def b2L:Op→Bool
 | .load .. => true
 | _=>false
theorem b1Z{b:TB}{env:Nat→PV}{σ σ':Nat→Option Row}{op:Op}(h:b2L op=false):a34 b env σ op=a34 b env σ' op:=by
 cases op <;> first | rfl | cases h | skip
 case unOp o _ _=>cases o <;> rfl
 case makeFunc _ l _=>
  obtain⟨l⟩:=l;cases l <;> rfl
def evD{γ:Type}(b:TB)(bar:List Nat)(i:Nat)(o:Oper)(env:Nat→PV)(σ:Nat→Option Row)(k:(Nat→PV)→(Nat→Option Row)→Option γ):Option γ:=
 match o.guard with
 | some _=>none
 | none=>match o.dst with
  | none=>none
  | some t=>match o.op with
   | .box T x=>match σ t with
    | some _=>none
    | none=>match Nat.beq (cls bar i (.box T x)) 1 with
     | false=>none
     | true=>fc (p6 env x) λd=>match d.el with
      | true=>fcB d.Y3 λc=>match (kept bar).contains t with
       | true=>none
       | false=>k (o0 env t (.ptr t 0 0)) (o0 σ t (some ⟨[d],0,false,d.cells.length,c⟩))
      | false=>none
   | .alloc T=>match σ t with
    | some _=>none
    | none=>match Nat.beq (cls bar i (.alloc T)) 1 with
     | false=>none
     | true=>match tk T b.z with
      | some d=>match d.el with
       | true=>match (kept bar).contains t with
        | true=>none
        | false=>k (o0 env t (.ptr t 0 0)) (o0 σ t (some ⟨[d],0,false,d.cells.length,true⟩))
       | false=>none
      | none=>none
   | op=>match b2L op with
    | true=>match Nat.beq (cls bar i op) 0 with
     | false=>none
     | true=>match a34 b env σ op with
      | some d=>fc d λd=>k (o0 env t d) σ
      | none=>none
    | false=>match Nat.beq (cls bar i op) 7 with
     | false=>none
     | true=>match a34 b env σ op with
      | some d=>fc d λd=>k (o0 env t d) σ
      | none=>none
theorem b1V{γ:Type}{P:Program}{b:TB}(hb:b.Ok P){ops:Array Oper}{bar:List Nat}{i:Nat}{o:Oper}{os:List Oper}{env:Nat→PV}{σ:Nat→Option Row}{k:(Nat→PV)→(Nat→Option Row)→Option γ}{r:γ}(h:evD b bar i o env σ k=some r) :
  ∃env' σ',k env' σ'=some r∧∀K,Ex P ops bar true (i+1) os ⟨env',σ'⟩ K→Ex P ops bar true i (o::os) ⟨env,σ⟩ K:=by
 obtain⟨dst,op,ty,pos,after,gd⟩:=o;unfold evD at h;simp only at h;cases gd with
 | some g=>cases h
 | none=>
 simp only at h;cases dst with
 | none=>cases h
 | some t=>
 simp only at h;split at h
 ·rename_i T' x;split at h;·cases h
  ·rename_i hf;split at h;·cases h
   ·rename_i hc;have hc:=Nat.eq_of_beq_eq_true hc;rw[a7e] at h;split at h
    ·rename_i hel;rw[b0N] at h;split at h;·cases h
     ·rename_i hk;exact⟨_,_,h,λK q=>d1 rfl (.box T' x t rfl hel) hf (by simp only[G8.off];rw[hk];rfl) hc q⟩
    ·cases h
 ·rename_i T';split at h;·cases h
  ·rename_i hf;split at h;·cases h
   ·rename_i hc;have hc:=Nat.eq_of_beq_eq_true hc;split at h
    ·rename_i d hd;split at h
     ·rename_i hel;split at h;·cases h
      ·rename_i hk;have:=hb.ze hd;cases hz:r4 P T' with
       | none=>rw[hz] at this;cases this
       | some v=>
        rw[hz] at this;simp only[Option.map_some,Option.some.injEq] at this;subst this;exact⟨_,_,h,λK q=>d1 rfl (.alloc T' t v rfl hz hel) hf (by simp only[G8.off];rw[hk];rfl) hc q⟩
     ·cases h
    ·cases h
 ·split at h
  ·rename_i hl;split at h;·cases h
   ·rename_i hc;split at h
    ·rename_i d hd;rw[a7e] at h;exact⟨_,_,h,λK q=>d0 rfl (a3e hb hd) (Nat.eq_of_beq_eq_true hc) q⟩
    ·cases h
  ·rename_i hl;split at h;·cases h
   ·rename_i hc;split at h
    ·rename_i d hd;rw[a7e] at h;exact⟨_,_,h,λK q=>d7 rfl (λσ' _=>a3e hb ((b1Z hl).trans hd)) (Nat.eq_of_beq_eq_true hc) q⟩
    ·cases h
def b4v(b:TB)(bar:List Nat):Nat→Nat→List Oper→(Nat→PV)→(Nat→Option Row)→Option (List Oper × (Nat→PV) × (Nat→Option Row))
 | 0,_,l,env,σ=>some (l,env,σ)
 | _+1,_,[],_,_=>none
 | n+1,i,o::l,env,σ=>evD b bar i o env σ λenv σ=>b4v b bar n (i+1) l env σ
section
variable{P:Program}{ops:Array Oper}{bar:List Nat}{K:St→Prop}
theorem dG{b:TB}(hb:b.Ok P):∀(n:Nat) {i:Nat} {l l':List Oper} {env env':Nat→PV} {σ σ':Nat→Option Row},b4v b bar n i l env σ=some (l',env',σ')→Ex P ops bar true (i+n) l' ⟨env',σ'⟩ K→Ex P ops bar true i l ⟨env,σ⟩ K
 | 0,i,l,l',env,env',σ,σ',h,k=>by cases h;exact k
 | n+1,i,[],l',env,env',σ,σ',h,k=>by cases h
 | n+1,i,o::l,l',env,env',σ,σ',h,k=>by
  obtain⟨env1,σ1,h1,h2⟩:=b1V (P:=P) (ops:=ops) (os:=l) hb h;refine h2 _ (dG hb n h1 ?_);rw[Nat.add_assoc,Nat.add_comm 1 n];exact k
end
end Go.Pw
namespace Go.Sh
structure Ifc where
 t:Nat
 xs:List Int
def ifG(e:Ifc)(A k:Nat):Int:=if e.t=A then e.xs.getD k 0 else 0
end Go.Sh
namespace Go.Pw
open Go.RowKit Go.Sh
def ifV(n:Nat→Nat)(e:Ifc):Value:=.iface e.t (.agg ((List.range (n e.t)).map λk=>Value.int .i64 (e.xs.getD k 0)).toArray)
def ifE(n:Nat→Nat)(e:Ifc):PV:=.abs λ_ _ v=>v=ifV n e
def a4y(P:Program)(T:TypeId):Bool:=match P.underlying T with | some (.interface _)=>false | some _=>true | none=>false
theorem a99{P:Program}{T:TypeId}(h:a4y P T=true):∃u,P.underlying T=some u∧∀m,u ≠ .interface m:=by
 unfold a4y at h;cases hu:P.underlying T with
 | none=>rw[hu] at h;cases h
 | some u=>
  rw[hu] at h;refine⟨u,rfl,λm e=>?_⟩;subst e;cases h
theorem b6D{w:World}{imm:Nat→Nat→Prop}{n:Nat→Nat}{e:Ifc}:Rd0 w imm (ifV n e) (ifE n e):=.abs _ _ rfl λ_ _ _=>rfl
theorem b1A{w:World}{imm:Nat→Nat→Prop}{v:Value}{xs:List Int}(h:Rd0 w imm v (.agg (xs.map (PV.int .i64)))):v = .agg (xs.map (Value.int .i64)).toArray:=by
 cases h with
 | agg vs cs hsc hn h=>
  congr 1;apply Array.ext;·simpa using hn
  ·intro i h1 h2;have hx:i<xs.length:=by simpa using h2
   have:=h i vs[i] (.int .i64 xs[i]) (Array.getElem?_eq_getElem h1) (by simp[hx]);generalize hv:vs[i]=v at this;cases this;rw[List.getElem_toArray,List.getElem_map]
theorem b0S(xs:List Int)(n:Nat)(h:xs.length=n):(List.range n).map (λk=>xs.getD k 0)=xs:=by
 subst h;apply List.ext_getElem (by simp);intro i h1 h2;simp[h2]
theorem b5Y{w:World}{imm:Nat→Nat→Prop}{m:Nat}{f:Nat→Int}{b:Bool}:Rd0 w imm (.tuple #[.agg ((List.range m).map λk=>Value.int .i64 (f k)).toArray,.bool b]) (.tup [.agg ((List.range m).map λk=>.int .i64 (f k)),.bool b]):=by
 refine .tup _ _ rfl λi v c hv hc=>?_;match i with
 | 0=>
  simp at hv hc;subst hv hc;refine .agg _ _ (by simp[PV.sc]) (by simp) λi v c hv hc=>?_;have hi:i<m:=by
   have:=r6 hc;simpa using this
  simp[hi] at hv hc;subst hv hc;exact .int _ _
 | 1=>
  simp at hv hc;subst hv hc;exact .bool _
 | _+2=>simp at hc
theorem b0T{P:Program}{σ:Nat→Option Row}{ρ:Operand→PV}{dst:Option Tmp}{n:Nat→Nat}{T:TypeId}{x:Operand}{xs:List Int}(hx:ρ x = .agg (xs.map (PV.int .i64)))(hT:a4y P T=true)(hn:xs.length=n T)(hc:(PV.agg (xs.map (PV.int .i64))).Y3=true:=by rfl) :
  u6 P σ ρ dst (.makeInterface T x) (ifE n ⟨T,xs⟩) .none:=by
 refine .pureV _ _ (λ_=>nofun) (λ_ _=>nofun) λo w imm μ j2 ev ho hr=>?_;have h1:=hr x (by simp[Op.operands]);rw[hx] at h1;have h2:=b1A (h1.Y3 hc);have e:ifV n ⟨T,xs⟩ = .iface T (ev x):=by
  rw[h2];show Value.iface T (.agg ((List.range (n T)).map λk=>Value.int .i64 (xs.getD k 0)).toArray)=_;rw[show (List.range (n T)).map (λk=>Value.int .i64 (xs.getD k 0))=((List.range (n T)).map λk=>xs.getD k 0).map (Value.int .i64) by rw[List.map_map];rfl,b0S xs _ hn]
 refine⟨ifV n ⟨T,xs⟩,?_,.cl b6D⟩;rw[e];obtain⟨u,hu,hi⟩:=a99 hT;simp only[execOp,ho,Instr.makeInterface,Sem.run_bind,run_underlying hu,Result.andThen_ok];rfl
theorem a9p{P:Program}{σ:Nat→Option Row}{ρ:Operand→PV}{dst:Option Tmp}{n:Nat→Nat}{xT A:TypeId}{x:Operand}{e:Ifc}{zv:Value}{m:Nat}{d:PV}(hx:ρ x=ifE n e)(hA:a4y P A=true)(hz:r4 P A=some zv)
  (hzv:zv = .agg (List.replicate m (.int .i64 0)).toArray)(hm:n A=m)(hd:PV.tup [.agg ((List.range m).map λk=>.int .i64 (ifG e A k)),.bool (decide (e.t=A))]=d):u6 P σ ρ dst (.typeAssert x xT A true) d .none:=by
 subst hd;refine .pureV _ _ (λ_=>nofun) (λ_ _=>nofun) λo w imm μ j2 ev ho hr=>?_;have h1:=hr x (by simp[Op.operands]);rw[hx] at h1;have h2:ev x=ifV n e:=by
  have:=h1.Y3 rfl;generalize ev x=v at this;unfold ifE at this;cases this with
  | abs R v ho h=>exact h w imm (.refl _ _)
 obtain⟨u,hu,hi⟩:=a99 hA;refine⟨.tuple #[.agg ((List.range m).map λk=>Value.int .i64 (ifG e A k)).toArray,.bool (decide (e.t=A))],?_,.cl b5Y⟩;by_cases q:e.t=A
 ·have hg:((List.range (n A)).map λk=>Value.int .i64 (e.xs.getD k 0))=(List.range m).map λk=>Value.int .i64 (ifG e A k):=by
   rw[hm];refine List.map_congr_left λk _=>?_;unfold ifG;rw[if_pos q]
  simp only[execOp,ho,Instr.typeAssert,Sem.run_bind,run_underlying hu,Result.andThen_ok,h2,ifV,q,if_true,decide_true,hg];rfl
 ·have hg:List.replicate m (Value.int .i64 0)=(List.range m).map λk=>Value.int .i64 (ifG e A k):=by
   apply List.ext_getElem (by simp);intro i h1 h2;simp[ifG,q]
  simp only[execOp,ho,Instr.typeAssert,Sem.run_bind,run_underlying hu,Result.andThen_ok,h2,ifV,q,if_false,if_true,decide_false,a1v hz,hzv,hg];rfl
section
variable{X:Ctx}{g:Gh}{st:St}{a:Act}{w:World}{n:Nat}{K:Act→World→Prop}{Q:Exit→Act→World→Prop}{ρ:Option Nat}{P:Program}
theorem b4q{o:Oper}{T:TypeId}{x y:Operand}{l i f:Nat}(h:r7 X g st a w)(ho:o.op = .store T x y)(hdst:∀t,o.dst=some t→t<X.N)(hx:p6 st.env x = .ptr l i f)(hy:p6 st.env y = .agg [])(hs:l5 X.P T=some 0)
  (hK:∀g' a' w',r7 X g' ⟨F3 st.env o.dst (.tup []),st.σ⟩ a' w'→K a' w'):o.wpIn (FX ρ) n X.P a w K Q:=by
 have h1:=h.eval x;have h2:=h.eval y;rw[hx] at h1;rw[hy] at h2;have e2:a.eval y = .agg #[]:=b1A (xs:=[]) (h2.Y3 rfl);have e1:∃b,a.eval x = .pointer (some b):=by
  generalize a.eval x=u at h1;cases h1 with
  | ptr l i f b s hp hA=>exact⟨_,rfl⟩
  | cl h=>cases h
 obtain⟨b,e1⟩:=e1;refine a5M (w':=w) (λc=>by rw[ho];simp) ?_ (hK g _ _ (h.put hdst (.cl (.tup #[] [] rfl λi v c _ hc=>by simp at hc))));have hr:(Instr.storeAt T (a.eval x) (a.eval y)).run X.P w = .ok () w:=by
  rw[e1,e2];simp only[Instr.storeAt,Instr.sureAddr,Sem.run_bind,Sem.run_pure,Result.andThen_ok,storeVar,w4 hs,Value.cells];rfl
 obtain⟨dst,op,ty,pos,after,guard⟩:=o;simp only at ho;subst ho;exact b1F hr
end
section
variable{X:Ctx}{ops:Array Oper}{i:Nat}{os:List Oper}{K:Ctx→St→Prop}{env:Nat→PV}{σ:Nat→Option Row}{ty:TypeId}{pos:String}{after:Array Edge}{gd:Option (Nat × Bool)}
theorem b6c{x y:Operand}{T:TypeId}{l j f:Nat}(hw:s9 ops env ⟨none,.store T x y,ty,pos,after,gd⟩=some true)(hx:p6 env x = .ptr l j f)(hy:p6 env y = .agg [])(hs:l5 X.P T=some 0)
  (k:Sq X ops (i+1) os K ⟨env,σ⟩):Sq X ops i (⟨none,.store T x y,ty,pos,after,gd⟩::os) K ⟨env,σ⟩:=B7 λho=>by
 intro hd n g a w next Qo hsm hq;unfold wpOpIn;rw[ho];simp only;rw[if_pos (F9 hsm hw)];exact b4q (ρ:=X.ρ) hsm rfl (y8 hd ho) hx hy hs λg' a' w' hs'=>hq X _ _ _ _ hs' ⟨⟨rfl,rfl⟩,rfl⟩ k
end
end Go.Pw
namespace Go.Pw
open Go.RowKit Go.Sh
section
variable{P:Program}{ops:Array Oper}{bar:List Nat}{i:Nat}{os:List Oper}{K:St→Prop}{env:Nat→PV}{σ:Nat→Option Row}{ty:TypeId}{pos:String}{after:Array Edge}{gd:Option (Nat × Bool)}
end
end Go.Pw
namespace Go.Pw
open Go.RowKit Go.Sh
section
variable{X:Ctx}{ops:Array Oper}{i:Nat}{os:List Oper}{K:Ctx→St→Prop}{env:Nat→PV}{σ:Nat→Option Row}{ty:TypeId}{pos:String}{after:Array Edge}{gd:Option (Nat × Bool)}{t:Tmp}
end
end Go.Pw
