/- A part. -/
import Derived.Test.YtbdapcapkocckaaGreatQ22rPwA
import Derived.Test.YtbdapcapkocckaaGreatQ22rSh0
set_option linter.unusedVariables false
set_option linter.unusedSimpArgs false
set_option linter.unusedSectionVars false
namespace Go.Pw
open Go.RowKit
section
variable{X:Ctx}{g:Gh}{st:St}{a:Act}{w:World}{n:Nat}{K:Act->World->Prop}{Q:Exit->Act->World->Prop}{ρ:Option Nat}{P:Program}
theorem bp{o:Oper}{b:Builtin}{xs:Array Operand}{ts:Array TypeId}(ho:o.op = .call { callee:=.builtin b,args:=xs,argTypes:=ts }) :
  ∃cs,execOp a.eval o=builtin b ts o.type cs (xs.map a.eval):=by
 obtain⟨dst,op,ty,pos,after,guard⟩:=o;simp only at ho;subst ho;exact⟨_,rfl⟩
variable {o:Oper}{x:Operand}{T:TypeId}{ts:Array TypeId}{σF:Nat->Option Row}{v:Value}
theorem VV{t:Bool}{xs:List PV}(h:u7 X g st a w)(ho:o.op = .call { callee:=.builtin .len,args:=#[x],argTypes:=ts })
  (hx:B8 st.env x = .lst t xs)(hT:(B7 X.P T).isSome=true)(hts:ts[0]? = some T) :
  ∃u,(execOp a.eval o).run X.P w = .ok (.value u) w/\Rd w g.imm g.μ st.p6 u (.int .i64 xs.length):=by
 have hv:=h.eval x;rw[hx] at hv;obtain⟨A,c,j,u,e,_⟩:=hv.gp;obtain⟨E,hE⟩:=zal.1 hT;obtain⟨cs,hc⟩:=bp (a:=a) ho;refine⟨.int .i64 xs.length,?_,.cl (.int _ _)⟩;rw[hc];refine N8 ?_;simp[Builtin.len_,hts,e,zR (P5 hE),goInt]
theorem VW{l:Nat}{r:Row}(h:u7 X g st a w)(ho:o.op = .call { callee:=.builtin .len,args:=#[x],argTypes:=ts })
  (hx:B8 st.env x = .sl l)(hl:st.σ l=some r)(hT:(B7 X.P T).isSome=true)(hts:ts[0]? = some T) :
  ∃u,(execOp a.eval o).run X.P w = .ok (.value u) w/\Rd w g.imm g.μ st.p6 u (.int .i64 r.els.length):=by
 have hv:=h.eval x;rw[hx] at hv;obtain⟨_,e⟩:=hv.fC;obtain⟨E,hE⟩:=zal.1 hT;obtain⟨cs,hc⟩:=bp (a:=a) ho;refine⟨.int .i64 r.els.length,?_,.cl (.int _ _)⟩;rw[hc];refine N8 ?_;simp[Builtin.len_,hts,e,zR (P5 hE),goInt,(h.rows l r hl).n]
theorem VX{s:ByteArray}(h:u7 X g st a w)(ho:o.op = .call { callee:=.builtin .len,args:=#[x],argTypes:=ts })
  (hx:B8 st.env x = .str s)(hT:X.P.underlying T=some .string)(hts:ts[0]? = some T) :
  ∃u,(execOp a.eval o).run X.P w = .ok (.value u) w/\Rd w g.imm g.μ st.p6 u (.int .i64 s.size):=by
 have hv:=h.eval x;rw[hx] at hv;obtain⟨cs,hc⟩:=bp (a:=a) ho;refine⟨.int .i64 s.size,?_,.cl (.int _ _)⟩;rw[hc];refine N8 ?_;simp[Builtin.len_,hts,hv.pF,zR hT,goInt]
theorem Zl{y:Operand}{k:IntKind}{p q:Int}(h:u7 X g st a w)(ho:o.op = .call { callee:=.builtin .min,args:=#[x,y],argTypes:=ts })
  (hx:B8 st.env x = .int k p)(hy:B8 st.env y = .int k q) :
  ∃u,(execOp a.eval o).run X.P w = .ok (.value u) w/\Rd w g.imm g.μ st.p6 u (.int k (if q<p then q else p)):=by
 have hv:=h.eval x;have hu:=h.eval y;rw[hx] at hv;rw[hy] at hu;obtain⟨cs,hc⟩:=bp (a:=a) ho;refine⟨_,?_,.cl (.int _ _)⟩;rw[hc];refine N8 ?_;simp[Builtin.min_,Builtin.min2,hv.U3,hu.U3]
theorem Zk{y:Operand}{k:IntKind}{p q:Int}(h:u7 X g st a w)(ho:o.op = .call { callee:=.builtin .max,args:=#[x,y],argTypes:=ts })
  (hx:B8 st.env x = .int k p)(hy:B8 st.env y = .int k q) :
  ∃u,(execOp a.eval o).run X.P w = .ok (.value u) w/\Rd w g.imm g.μ st.p6 u (.int k (if q > p then q else p)):=by
 have hv:=h.eval x;have hu:=h.eval y;rw[hx] at hv;rw[hy] at hu;obtain⟨cs,hc⟩:=bp (a:=a) ho;refine⟨_,?_,.cl (.int _ _)⟩;rw[hc];refine N8 ?_;simp[Builtin.max_,Builtin.max2,hv.U3,hu.U3]
theorem VU{o:Oper}{x y:Operand}{T U E:TypeId}{l z:Nat}{r:Row}{ys:List PV}(h:u7 X g st a w)(ho:o.op = .call { callee:=.builtin .copy,args:=#[x,y],argTypes:=#[T,U] })(F:∀t,o.dst=some t->t<X.N)
  (hx:B8 st.env x = .sl l)(hl:st.σ l=some r)(hcl:r.cl=true)(hlo:r.lo=0)(hy:Src st.σ (B8 st.env y) ys true)(hE:B7 X.P T=some E)(hz:u5 X.P E=some z)(hrz:r.z=z)(hel:∀e∈ys,e.cells.length=z)(hn:ys.length<=r.els.length)(hzp:0<z)
  (hK:∀g' a' w',u7 X g' ⟨Z7 st.env o.dst (.int .i64 ys.length),(aj.AE l ys).apply st.σ⟩ a' w'->K a' w'):o.wpIn (FX ρ) n X.P a w K Q:=by
 simp only[aj.apply,hl] at hK;have hv:=h.eval x;have hu:=h.eval y;rw[hx] at hv;obtain⟨hp,e⟩:=hv.fC;have m:=h.rows l r hl;have R:(g.μ l).z=z:=by rw[m.z,hrz]
 obtain⟨B,cB,vals,eB,hyel,p,hvr,hone,hvc⟩:=Src.reads h hu hy (z:=z) hel;have hu':=P5 hE;have hnn:=m.n;have G:Nat.min ys.length (g.μ l).n=ys.length:=zcl Δ;obtain⟨cs,hc⟩:=bp (a:=a) ho;have hfc:(Builtin.firstCells z ys.length (a.eval y)).run X.P w = .ok vals.toArray w:=by
  rw[eB];rcases zah ys.length with q | q
  .have h0:vals = []:=ul (by rw[p,q,zcu]);subst h0;rw[q];cases B <;> simp[Builtin.firstCells,loadCells,loadCellsFrom]
  .obtain⟨bB,sB,rfl,hBc⟩:=hvc q;exact run_firstCells_some (P:=X.P) w z ys.length ⟨bB,sB,none⟩ ys.length cB vals p (λj u hj=>ΩC)
 have H:∀w',(∀A,(g.μ l).A=some A->(storeCells A vals).run X.P w = .ok () w')->((g.μ l).A=none->w'=w)->(Builtin.copy_ #[T,U] o.type #[.slice (g.μ l).A (g.μ l).n (g.μ l).C,a.eval y]).run X.P w = .ok (.int .i64 ys.length) w':=by
  intro w' h1 h2;have hle:(Builtin.lenOf (a.eval y)).run X.P w = .ok ys.length w:=by rw[eB];rfl
  cases hA:(g.μ l).A with
  | none=>
   have:=h2 hA;subst this;simp only[Builtin.copy_,zy,zR hu',zm,hle,G,J0 hz,hfc,List.getElem?_toArray,za6,zbu];rfl
  | some A=>
   have:=h1 A hA;simp only[Builtin.copy_,zy,zR hu',zm,hle,G,J0 hz,hfc,List.getElem?_toArray,za6,zbu,this];rfl
 have hargs:(#[x,y]:Array Operand).map a.eval = #[.slice (g.μ l).A (g.μ l).n (g.μ l).C,a.eval y]:=by simp[e]
 rcases zah vals.length with S | S
 .have h0:vals = []:=ul S;subst h0;have hr:=H w (λA _=>rfl) (λ_=>rfl);refine I0 (λc=>Ωg) (v:=.int .i64 ys.length) (w':=w) (by rw[hc,hargs];exact N8 hr) ?_;have hsame:u7 X g ⟨st.env,A3 st.σ l (some { r with els:=ys++r.els.drop ys.length })⟩ a w:=by
   by_cases V:ys = []
   .subst V;simp only[zcm,zag,List.drop_zero];rw[show A3 st.σ l (some { r with els:=r.els })=st.σ from by funext i;unfold A3;split <;> simp_all];exact h
   .have hz0:z=0:=by
     have h0:ys.length*z=0:=Ω p.symm
     rcases Nat.mul_eq_zero.1 h0 with q | q
     .exact absurd (ul q) V
     .exact q
    omega
  exact hK g _ _ (hsame.put F (.cl (.int _ _)))
 .have hC:=m.C;have V:0<ys.length:=by
   rcases zah ys.length with q | q
   .rw[q,zcu] at p;omega
   .exact q
  obtain⟨b,s,hA⟩:=m.spot Δ;have hmine:∀j,j<vals.length->M1 (g.μ l) r b (s+j):=λj hj=>⟨s,hA,by rw[hlo];omega,by
   have:ys.length*z<=(if r.opn then (g.μ l).C else (g.μ l).n)*(g.μ l).z:=by rw[R];exact zp _ ΩZ
   omega⟩
  have hst:=run_storeCells_cells (P:=X.P) b s vals 0 w (λj hj=>Ω ((m.own b _ (hmine j hj)).2.1)) (λj hj=>Ω ((m.own b _ (hmine j hj)).2.2)) (λu hu=>by rw[<-KU];exact hone u hu);simp only[zbf] at hst;have hr:=H (w.setCells b s vals) (λA hA'=>by rw[hA] at hA';cases hA';exact hst) (λq=>by rw[hA] at q;cases q);refine I0 (λc=>Ωg) (v:=.int .i64 ys.length) (w':=w.setCells b s vals) (by rw[hc,hargs];exact N8 hr) ?_;have hW:=h.write (l:=l) (r:=r) (b:=b) (o:=s) (vs:=vals) (els:=ys++r.els.drop ys.length) (cl:=r.cl) hl hmine Ξ
   (λx hx=>by
    rcases zH.1 hx with q | q
    .exact⟨hyel x q,by rw[hrz];exact hel x q⟩
    .exact m.el x (za7 q))
   (λi x j y hx hy=>by
    rcases zI i ys.length with q | q
    .rw[zX q] at hx;have hxz:=hel x (zk hx);have hj:=PV.G5 hy;have hlt:i*z+j<vals.length:=by
      have:(i+1)*z<=ys.length*z:=zp _ Δ;rw[wt,zbc] at this;omega
     have hrd:=hvr i x j y _ hx hy (zc hlt);have hin:=zaw b vals s w (λj' hj'=>(m.own b _ (hmine j' hj')).2.1) _ hlt;rw[<-t8] at hin;exact⟨b,s,_,hA,by rw[R];exact hin,hrd.1,λq'=>Δ,λ_=>hrd.2 rfl⟩
    .rw[zW q,zao,show ys.length+(i-ys.length)=i by omega] at hx;obtain⟨b',s',u,k1,k2,k3,k4,k5⟩:=m.cell i x j y hx hy;rw[hA] at k1;cases k1;refine⟨b,s,u,hA,?_,k3,k4,k5⟩;rw[zam b vals s w _ λ_ _=>?_];·exact k2
     .right;have:ys.length*z<=i*(g.μ l).z:=by rw[R];exact zp _ q
      simp only;omega) S
  exact hK g _ _ (hW.put F (.cl (.int _ _)))
theorem Rd0.flat{w:World}{imm:Nat->Nat->Prop}{v:Value}{d:PV}(h:Rd0 w imm v d)(hf:d.flat=true)(w':World)(imm':Nat->Nat->Prop):Rd0 w' imm' v d:=by
 have A:∀ {v:Value} {d:PV},Rd0 w imm v d->d.BG=true->Rd0 w' imm' v d:=by
  intro v d h hf;cases h <;> first | (simp[PV.BG] at hf;done) | skip
  .exact .bool _
  .exact .int _ _
  .exact .str _
 cases h <;> first | (simp[PV.flat,PV.BG] at hf;done) | skip
 case bool b=>exact .bool b
 case int k m=>exact .int k m
 case str s=>exact .str s
 case agg vs cs hsc hn hc=>exact .agg vs cs hsc hn λi v c hv j=>A (hc i v c hv j) (by simp only[PV.flat,zg] at hf;exact hf c (zk j))
 case tup vs cs hn hc=>
  refine .tup vs cs hn λi v c hv j=>?_;have F:=hc i v c hv j;simp only[PV.flat,zg] at hf;have p:=hf c (zk j);by_cases e:∃es,c = .agg es
  .obtain⟨es,rfl⟩:=e;cases F with
   | agg us _ hsc C B=>exact .agg us es hsc C λi v c hv q=>A (B i v c hv q) (by simp only[PV.Xk,zg] at p;exact p c (zk q))
  .exact A F (by cases c <;> first | exact p | exact absurd ⟨_,rfl⟩ e)
theorem nh{o:Oper}{x:Operand}{args:Array Operand}{ts:Array TypeId}{f:FuncId}{vs:Array Value}(ho:o.op = .call { callee:=.value x,args,argTypes:=ts })(hx:a.eval x = .func (.func f) #[] vs)
  (hb:∃fn c,P.funcs[f]? = some fn/\fn.body=some c/\fn.name ≠ "runtime.NumGoroutine"):(execOp a.eval o).run P w = .ok (.enter f (args.map a.eval++vs)) w:=by
 obtain⟨fn,c,m,p,q⟩:=hb;obtain⟨dst,op,ty,pos,after,guard⟩:=o;simp only at ho;subst ho;have j:(fn.name == "runtime.NumGoroutine")=false:=Ω q
 simp only[execOp,resolve,hx,Deferred.ofValue,zy,zau,zm,invoke,callFunc,program,Sem.run,m,j,p];simp
theorem mN{w:World}{imm:Nat->Nat->Prop}{μ:Nat->O0}{p6:Nat->Prop}{v:Value}{f:Fn}{cap:List PV}(h:Rd w imm μ p6 v (.fn f cap)) :
  ∃vs:Array Value,v = .func f #[] vs/\vs.size=cap.length/\∀(i:Nat) v c,vs[i]? = some v->cap[i]? = some c->Rd w imm μ p6 v c:=by
 cases h with
 | cl h=>cases h with | fn _ vs _ hn h=>exact⟨vs,rfl,hn,λi v c hv hc=>.cl (h i v c hv hc)⟩
 | fn _ vs _ hn h=>exact⟨vs,rfl,hn,h⟩
theorem wO{σ:Nat->Option Row}(hs:I8 σ σF){w:World}{imm:Nat->Nat->Prop}{μ:Nat->O0}{d:PV}(hr:Rd w imm μ (λl=>∃r,σ l=some r) v d) :
  d.v0 σF=d.v0 σ/\d.gV σF=d.gV σ:=by
 cases d <;> first | exact⟨rfl,rfl⟩ | skip
 rename_i l;obtain⟨⟨r,hl⟩,_⟩:=hr.fC;obtain⟨r',c,j,p,m⟩:=hs l r hl;simp only[PV.v0,PV.gV,hl,c,j,m,and_self]
theorem AW{σF:Nat->Option Row}(h:u7 X g st a w)(hs:I8 st.σ σF){v:Value}{d:PV}(hr:Rd w g.imm g.μ st.p6 v d) :
  d.v2 σF=d.v2 st.σ/\d.pG σF=d.pG st.σ/\d.W1 σF=d.W1 st.σ:=by
 by_cases hd:∃l i f,d = .ptr l i f
 .obtain⟨l,i,f,rfl⟩:=hd;obtain⟨⟨r,hl⟩,b,s,hA,_⟩:=hr.cM;obtain⟨r',C,F,G,H⟩:=hs l r hl;simp only[PV.v2,PV.pG,PV.W1,hl,C,F];cases hx:r.els[i]? with
  | none=>exact⟨rfl,rfl,trivial⟩
  | some x=>
   simp only;have c:∀y∈x.cells.drop f,y.v0 σF=y.v0 st.σ/\y.gV σF=y.gV st.σ:=by
    intro y hy;obtain⟨j,hj⟩:=zb7 hy;obtain⟨u,_,k2,_⟩:=h.lX hl hx (Bx hj) hA;exact wO hs k2
   have hok:∀(L:List PV),(∀y∈L,y.v0 σF=y.v0 st.σ/\y.gV σF=y.gV st.σ)->(L.all λy=>y.gV σF&&y.sc)=(L.all λy=>y.gV st.σ&&y.sc):=by
    intro L m;induction L with
    | nil=>rfl
    | cons y L ih=>
     simp only[List.all_cons];rw[(m y Ψ).2,ih λz hz=>m z (by simp[hz])]
   exact⟨by rw[zt λy hy=>(c y hy).1],hok _ c,trivial⟩
 .have e:d.v2 σF=d.v0 σF:=by cases d <;> first | rfl | exact absurd ⟨_,_,_,rfl⟩ hd
  have p:d.v2 st.σ=d.v0 st.σ:=by cases d <;> first | rfl | exact absurd ⟨_,_,_,rfl⟩ hd
  have q:d.pG σF=d.gV σF:=by cases d <;> first | rfl | exact absurd ⟨_,_,_,rfl⟩ hd
  have A:d.pG st.σ=d.gV st.σ:=by cases d <;> first | rfl | exact absurd ⟨_,_,_,rfl⟩ hd
  have B:d.W1 σF=d.W1 st.σ:=by cases d <;> first | rfl | exact absurd ⟨_,_,_,rfl⟩ hd
  rw[e,p,q,A,B];exact⟨(wO hs hr).1,(wO hs hr).2,rfl⟩
theorem oz{α:Type}{p q:α->Bool}:∀ {L:List α},(∀y∈L,p y=q y)->L.all p=L.all q
 | [],_=>rfl
 | y::L,h=>by rw[List.all_cons,List.all_cons,h y Ψ,oz λz hz=>h z (by simp[hz])]
theorem aH{α β:Type}{p q:α->List β}:∀ {L:List α},(∀y∈L,p y=q y)->L.flatMap p=L.flatMap q
 | [],_=>rfl
 | y::L,h=>by rw[zbv,zbv,h y Ψ,aH λz hz=>h z (by simp[hz])]
theorem AX(h:u7 X g st a w)(hs:I8 st.σ σF){d:PV}(hr:Rd w g.imm g.μ st.p6 v d) :
  d.v3 σF=d.v3 st.σ/\d.qp σF=d.qp st.σ/\d.cC σF=d.cC st.σ:=by
 have p:∀ {vs:Array Value} {cs:List PV},vs.size=cs.length->(∀(i:Nat) v c,vs[i]? = some v->cs[i]? = some c->Rd w g.imm g.μ st.p6 v c)->∀y∈cs,∃v,Rd w g.imm g.μ st.p6 v y:=by
  intro vs cs hn hc y hy;obtain⟨j,hj⟩:=zb7 hy;have q:=C6 hj;exact⟨_,hc j _ y (zq Δ) hj⟩
 cases d;case agg cs=>
  obtain⟨vs,_,hn,hc⟩:=hr.iT;have m:=p hn hc;simp only[PV.v3,PV.qp,PV.cC];exact⟨by rw[zt λy hy=>(wO hs (m y hy).choose_spec).1],oz λy hy=>by rw[(wO hs (m y hy).choose_spec).2],trivial⟩
 case fn f cap=>
  obtain⟨vs,_,hn,hc⟩:=mN hr;have m:=p hn hc;simp only[PV.v3,PV.qp,PV.cC];exact⟨by rw[zt λy hy=>(AW h hs (m y hy).choose_spec).1],oz λy hy=>by rw[(AW h hs (m y hy).choose_spec).2.1],
   aH λy hy=>(AW h hs (m y hy).choose_spec).2.2⟩
 all_goals exact AW h hs hr
theorem Py(h:u7 X g st a w)(hs:I8 st.σ σF){d:PV}(hr:Rd w g.imm g.μ st.p6 v d) :
  d.view σF=d.view st.σ/\d.pY σF=d.pY st.σ/\d.T9 σF=d.T9 st.σ:=by
 have p:∀ {vs:Array Value} {cs:List PV},vs.size=cs.length->(∀(i:Nat) v c,vs[i]? = some v->cs[i]? = some c->Rd w g.imm g.μ st.p6 v c)->∀y∈cs,∃v,Rd w g.imm g.μ st.p6 v y:=by
  intro vs cs hn hc y hy;obtain⟨j,hj⟩:=zb7 hy;have q:=C6 hj;exact⟨_,hc j _ y (zq Δ) hj⟩
 cases d;case tup cs=>
  obtain⟨vs,_,hn,hc⟩:=hr.AV;have m:=p hn hc;simp only[PV.view,PV.pY,PV.T9];exact⟨by rw[zt λy hy=>(AX h hs (m y hy).choose_spec).1],oz λy hy=>(AX h hs (m y hy).choose_spec).2.1,
   aH λy hy=>(AX h hs (m y hy).choose_spec).2.2⟩
 all_goals exact AX h hs hr
theorem Ay(h:u7 X g st a w){args:Array Operand}{vs:Array Value}{cap:List PV}(hn:vs.size=cap.length)(hc:∀(i:Nat) v c,vs[i]? = some v->cap[i]? = some c->Rd w g.imm g.μ st.p6 v c) :
  (args.map a.eval++vs).size=(args.toList.map (B8 st.env)++cap).length/\∀(i:Nat) v d,(args.map a.eval++vs)[i]? = some v->(args.toList.map (B8 st.env)++cap)[i]? = some d->Rd w g.imm g.μ st.p6 v d:=by
 refine⟨by simp[hn],λi v d hv hd=>?_⟩;rcases zI i args.size with q | q
 .rw[qr (Ω q)] at hv;rw[zX (Ω q)] at hd;simp[zch,zq q] at hv hd;rw[<-hv,<-hd];exact h.eval _
 .rw[zaj (Ω q)] at hv;rw[zW (Ω q)] at hd;simp at hv hd;exact hc _ v d hv hd
theorem nY{σF:Nat->Option Row}(h:u7 X g st a w)(hs:I8 st.σ σF){imm2:Nat->Nat->Prop}(hx:Ext w g.imm w imm2){vs:Array Value}{ds:List PV}(hn:vs.size=ds.length)
  (hr:∀(i:Nat) v d,vs[i]? = some v->ds[i]? = some d->Rd w g.imm g.μ st.p6 v d)(hok:ds.all (PV.pY σF)=true)
  (p:∀l∈ds.flatMap (PV.T9 σF),∀r,st.σ l=some r->Shown imm2 (g.μ l) r):HQ w imm2 vs (ds.map (PV.view σF)):=by
 refine⟨by simp[hn],λi v d hv hd=>?_⟩;rw[zD] at hd;cases c:ds[i]? with
 | none=>rw[c] at hd;cases hd
 | some d0=>
  rw[c] at hd;cases hd;have hm:=zk c;have j:=hr i v d0 hv c;obtain⟨q,A,B⟩:=Py h hs j;rw[q];refine h.view hx j (by rw[<-A];exact zg.1 hok d0 hm) λl hl r m=>p l (zae.2 ⟨d0,hm,by rw[B];exact hl⟩) r m
theorem u7.called(h:u7 X g st a w){w':World}(hb:nb w.heap.size w w')(N:Nat->Nat->Prop) :
  u7 X ⟨λb o=>g.imm b o\/(N b o/\w.heap.size<=b/\b<w'.heap.size),g.μ⟩ st a w':=by
 refine h.move ⟨λ_ _ q=>.inl q,λb o q=>hb.cell (p:=⟨b,o,none⟩) (h.immlt b o q),λb o x q hx _=>by rw[hb.block b (h.immlt b o q)];exact hx⟩
  (λl r b o hl ho=>⟨hb.cell (p:=⟨b,o,none⟩) (h.fz hl ho).2,hb.frozen (p:=⟨b,o,none⟩) (h.fz hl ho).2,?_⟩) (λb o q=>?_) (λb o q=>?_) (h.below.trans (hb.mono h.below.size))
  (λk x hx _=>by rw[hb.block k (wp.1 hx).1];exact hx)
  (λb o x q hx _=>q.elim id λ⟨_,q,_⟩=>absurd (wp.1 hx).1 (Nat.not_lt.2 q))
 .rintro (q | ⟨_,q,_⟩);·exact h.ownimm l r b o hl ho q
  .have:=(h.fz hl ho).2;omega
 .rcases q with q | ⟨_,_,q⟩
  .exact zb3 (h.immlt b o q) hb.size
  .exact q
 .rcases q with q | ⟨_,q,_⟩
  .exact h.immsub b o q
  .right;have:=h.below.size;omega
end
end Go.Pw
namespace Go.Pw
open Go.RowKit
section
variable{X:Ctx}{g:Gh}{st:St}{a:Act}{w:World}{n:Nat}{K:Act->World->Prop}{Q:Exit->Act->World->Prop}{ρ:Option Nat}{P:Program}
theorem HQ.w2{w:World}{imm:Nat->Nat->Prop}{vs:Array Value}{ds:List PV}{σ:Nat->Option Row}(h:HQ w imm vs (ds.map (PV.view σ))):HQ w imm vs (ds.map (PV.vw σ)):=by
 refine⟨Ω h.1,λi v d hv hd=>?_⟩;obtain⟨c,k1,rfl⟩:=kl hd;exact (h.2 i v (c.view σ) hv (by rw[zD,k1];rfl)).w2
variable {o:Oper}{σF:Nat->Option Row}
theorem VS{x:Operand}{args:Array Operand}{ts:Array TypeId}{f:FuncId}{cap:List PV}{d:PV}(h:u7 X g st a w)(hs:I8 st.σ σF)(ho:o.op = .call { callee:=.value x,args,argTypes:=ts })
  (p:∀t,o.dst=some t->t<X.N)(hf:B8 st.env x = .fn (.func f) cap)(hb:∃fn c,X.P.funcs[f]? = some fn/\fn.body=some c/\fn.name ≠ "runtime.NumGoroutine")
  (hok:(args.toList.map (B8 st.env)++cap).all (PV.pY σF)=true)(hc:cd X.P f ((args.toList.map (B8 st.env)++cap).map (PV.vw σF)) d)(hfl:d.flat=true)
  (H:∀G F w',u7 X G ⟨Z7 st.env o.dst d,st.σ⟩ F w'->K F w'):o.wpIn (FX ρ) n X.P a w K Q:=by
 have hv:=h.eval x;rw[hf] at hv;obtain⟨vs,e,hn,m⟩:=mN hv;obtain⟨C,B⟩:=Ay h (args:=args) hn m;obtain⟨imm2,hF,S,A⟩:=h.V1 ((args.toList.map (B8 st.env)++cap).flatMap (PV.T9 σF));have hargs:=nY h hs S C B hok (λl hl r hr=>A l hl r hr) |>.w2;refine iP (λc=>Ωg) (nh ho e hb) ((hc w imm2 _ hF.immlt h.gt hargs).mono λev w' hr=>?_);obtain⟨v,rfl,j,q⟩:=hr;refine⟨v,rfl,?_⟩;have R:=h.called j (λ_ _=>False);exact H _ _ _ (R.put p (.cl (q.flat hfl _ _)))
theorem Si{x:Operand}{args:Array Operand}{ts:Array TypeId}{f:FuncId}{cap:List PV}{d:PV}(h:u7 X g st a w)(hs:I8 st.σ σF)(ho:o.op = .call { callee:=.value x,args,argTypes:=ts })
  (p:∀t,o.dst=some t->t<X.N)(hf:B8 st.env x = .fn (.func f) cap)(hb:∃fn c,X.P.funcs[f]? = some fn/\fn.body=some c/\fn.name ≠ "runtime.NumGoroutine")
  (hok:(args.toList.map (B8 st.env)++cap).all (PV.pY σF)=true)(hc:cd X.P f ((args.toList.map (B8 st.env)++cap).map (PV.vw σF)) d)
  (R:∀H G w',u7 X H ⟨Z7 st.env o.dst d,V1 st.σ ((args.toList.map (B8 st.env)++cap).flatMap (PV.T9 σF))⟩ G w'->K G w'):o.wpIn (FX ρ) n X.P a w K Q:=by
 have hv:=h.eval x;rw[hf] at hv;obtain⟨vs,e,hn,m⟩:=mN hv;obtain⟨F,C⟩:=Ay h (args:=args) hn m;obtain⟨imm2,hF,V,B⟩:=h.V1 ((args.toList.map (B8 st.env)++cap).flatMap (PV.T9 σF));have hargs:=nY h hs V F C hok (λl hl r hr=>B l hl r hr) |>.w2;refine iP (λc=>Ωg) (nh ho e hb) ((hc w imm2 _ hF.immlt h.gt hargs).mono λev w' hr=>?_);obtain⟨v,rfl,j,A⟩:=hr;refine⟨v,rfl,?_⟩;have S:=hF.called j (λ_ _=>True);refine R _ _ _ (S.put p (.cl (A.mono ⟨λb o q=>?_,λ_ _ _=>rfl,λ_ _ _ _ q _=>q⟩)));rcases q with q | ⟨q1,q2⟩
 .exact .inl q
 .exact .inr ⟨trivial,q1,q2⟩
theorem Sj{o:Oper}{x:Operand}{args:Array Operand}{ts:Array TypeId}{f:FuncId}{cap:List PV}{r:Row}{l:Nat}{σF:Nat->Option Row}(h:u7 X g st a w)(hs:I8 st.σ σF)(ho:o.op = .call { callee:=.value x,args,argTypes:=ts })
  (H:∀t,o.dst=some t->t<X.N)(hlm:l<MB)(hl:st.σ l=none)(hf:B8 st.env x = .fn (.func f) cap)(hb:∃fn c,X.P.funcs[f]? = some fn/\fn.body=some c/\fn.name ≠ "runtime.NumGoroutine")
  (hok:(args.toList.map (B8 st.env)++cap).all (PV.pY σF)=true)(hc:og X.P f ((args.toList.map (B8 st.env)++cap).map (PV.vw σF)) r)
  (S:∀g' a' w',u7 X g' ⟨Z7 st.env o.dst (.sl l),A3 (V1 st.σ ((args.toList.map (B8 st.env)++cap).flatMap (PV.T9 σF))) l (some r)⟩ a' w'->K a' w'):o.wpIn (FX ρ) n X.P a w K Q:=by
 have hv:=h.eval x;rw[hf] at hv;obtain⟨vs,e,hn,G⟩:=mN hv;obtain⟨hsz,hrd⟩:=Ay h (args:=args) hn G;generalize R:(args.toList.map (B8 st.env)++cap).flatMap (PV.T9 σF)=ls at S;obtain⟨imm2,hF,hX,B⟩:=h.V1 ls;have hargs:=nY h hs hX hsz hrd hok (λl hl r hr=>B l (by rw[<-R];exact hl) r hr) |>.w2;refine iP (λc=>Ωg) (nh ho e hb) ((hc w imm2 _ hF.immlt h.gt hargs).mono λev w' hr=>?_);obtain⟨m,rfl,F,p,A⟩:=hr;refine⟨_,rfl,?_⟩;have hS:=hF.called F (λb o=>¬M1 m r b o);have V:V1 st.σ ls l=none:=by
  clear hS p hargs B hF S hc R;revert hl
  generalize st.σ=σ;intro hl;induction ls generalizing σ with
  | nil=>exact hl
  | cons k ls ih=>
   refine ih (oK σ k) ?_;unfold oK;cases hk:σ k with
   | none=>exact hl
   | some q=>
    by_cases e:l=k
    .subst e;rw[hl] at hk;cases hk
    .simp only[o0 _ _ e];exact hl
 have hx2:Ext w' (λb o=>jU imm2 w w' b o/\¬M1 m r b o) w' (λb o=>imm2 b o\/(¬M1 m r b o/\w.heap.size<=b/\b<w'.heap.size)):=by
  refine⟨λb o q=>?_,λ_ _ _=>rfl,λ_ _ _ _ q _=>q⟩;rcases q with ⟨q | ⟨q1,q2⟩,q3⟩;·exact .inl q
  .exact .inr ⟨q3,q1,q2⟩
 have j:=p.mono (μ':=g.μ) (pres':=St.p6 ⟨st.env,V1 st.σ ls⟩) hx2 (λ_ q=>q.elim) (λb o ho=>⟨rfl,rfl⟩);have hbase:=h.below.size;have hN:=hS.row (l:=l) (m:=m) (r:=r) hlm V ⟨j.n,j.z,j.C,j.lo,j.el,j.nil,j.spot,j.cell,λb o ho=>⟨by have:=(j.own b o ho).1;omega,(j.own b o ho).2⟩⟩
  (λl' r' b o q ho k=>by have:=(hF.fz q ho).2;have:=A b o k;omega)
  (λb o q k=>by
   rcases k with k | ⟨k,_⟩
   .have:=hF.immlt b o k;have:=A b o q;omega
   .exact k q)
 exact S _ _ _ (hN.put H (gO ⟨_,p7 _ _ _⟩ (p7 _ _ _)))
theorem small(h:u7 X g st a w){dst:Option Tmp}(c:∀t,dst=some t->t<X.N){l:Nat}(hd:dst=some l):l<MB:=by
 exact zb3 (c l hd) (zQ h.big.1 Θ)
set_option maxHeartbeats 2000000 in
theorem Sk   {d:PV} {e:aj} (h:u7 X g st a w) (H:G4 X.P σF (B8 st.env) o.dst o.op d e) (hs:I8 st.σ σF) (hok:e.ok st.σ) (A:∀t,o.dst=some t->t<X.N)
  (B:∀g' a' w',u7 X g' ⟨Z7 st.env o.dst d,e.apply st.σ⟩ a' w'->K a' w'):o.wpIn (FX ρ) n X.P a w K Q:=by
 by_cases hl:match o.op with | .move _ | .assign _ | .pick .. | .load .. | .nilCheck _ | .unOp .. | .binOp .. | .convert .. | .fieldAddr .. | .field .. | .indexAddr .. | .extract .. | .makeFunc .. => True | _=>False
 .obtain⟨rfl,hu⟩:=VY h H hs hl;refine fZ h (λc q=>?_) A hu B;rw[q] at hl;exact hl
 obtain⟨dst,op,ty,pos,after,guard⟩:=o;simp only at H hl;have S:∀ {y:Operand} {ys:List PV} {cl:Bool},Src σF (B8 st.env y) ys cl->Src st.σ (B8 st.env y) ys cl:=λ{y ys cl} hy=>hy.same hs λl e=>by
  have:=h.eval y;rw[e] at this;exact this.fC.1
 have F:∀ {y:Operand} {l:Nat} {r:Row},B8 st.env y = .sl l->σF l=some r->∃V,st.σ l=some V/\V.els=r.els/\V.z=r.z/\V.cl=r.cl:=λ{y l r} e hr=>by
  have:=h.eval y;rw[e] at this;exact hs.at this.fC.1 hr
 cases H <;> first | (exact absurd trivial hl) | skip
 case pureV hnd hnl hc=>exact fZ h hnd A (hc _ w g.imm g.μ st.p6 a.eval rfl λx _=>h.eval x) B
 case box T x l hd hx=>exact Zj h rfl A (small h A hd) hok hx B
 case alloc T l v hd hz hx=>exact Se h rfl A (small h A hd) hok hz hx (GJ v) B
 case store T x y l i f d hx hd hy hsz hpos=>exact Sl h rfl A hx hd hy hsz hpos hok B
 case build T parts pl z zs cs gY hz hzs hsc hf=>exact fZ h (λc q=>Γ) A (Sf h rfl gY hz hzs hf hsc) B
 case mkSlice T x y l k k' m E z v hd hx hy h0 hE hz hv hel hvz b hb hbm hn=>exact KV h rfl A (small h A hd) hok hx hy h0 hE hz hv hel hvz hb hbm hn B
 case lenL x t xs T hx hT ts hts=>exact fZ h (λc q=>Γ) A (VV h rfl hx hT hts) B
 case lenR x l r T hx G hT ts hts=>
  obtain⟨V,k1,k2,_⟩:=F hx G;have:=VW h (o:=⟨dst,.call { callee:=.builtin .len,args:=#[x],argTypes:=ts },ty,pos,after,guard⟩) rfl hx k1 hT hts;rw[k2] at this;exact fZ h (λc q=>Γ) A this B
 case lenS x s T hx hT ts hts=>exact fZ h (λc q=>Γ) A (VX h rfl hx hT hts) B
 case min2 x y k p q ts hx hy=>exact fZ h (λc q=>Γ) A (Zl h rfl hx hy) B
 case max2 x y k p q ts hx hy=>exact fZ h (λc q=>Γ) A (Zk h rfl hx hy) B
 case call f args ts cap x hf hb C hc hfl=>exact VS h hs rfl A hf hb C hc hfl B
 case callF f args ts cap x hf hb C hc=>exact Si h hs rfl A hf hb C hc B
 case callN f args ts cap l r x hd hf hb C hc hcl=>exact Sj h hs rfl A (small h A hd) hok hf hb C hc B
 case appT x y T E xs ys cl z by_ l zv hd hx hy hE hz hb hzv hzz hel hfit h63=>exact VR h rfl A (small h A hd) hok hx (S hy) hE hz hb hzv hzz hel hfit h63 B
 case appR x y T E s r ys cl z by_ l zv hd hx R hy hE hz hb hzv hzz hel hrz hfit h63=>
  obtain⟨V,k1,k2,k3,k4⟩:=F hx R;obtain⟨G,q,hq,H⟩:=hok;rw[k1] at hq;cases hq;rw[<-k2,<-k4] at B;rw[<-k2] at hel hfit h63;rw[<-k3] at hrz;exact VQ h rfl A (small h A hd) G hx k1 H (S hy) hE hz hb hzv hzz hel hrz hfit h63 B
 case buildSlice T E parts len z l zv els cl hd hE hz hzv hlen hel hbig hf hcl=>exact DK h rfl A (small h A hd) hok hE hz hzv hlen hel hbig hf hcl B
 case buildI T E parts len z zv els hE hz hzv hlen hel hbig hf hcl=>exact OT h rfl A hE hz hzv hlen hel hbig hf hcl B
 case nilSlice T E parts l z hd hE hz hp=>
  subst hp;have hu:=P5 hE;refine I0 (v:=.slice (some ⟨w.heap.size,0,none⟩) 0 0) (w':=w.alloc (.cells #[] E)) (λc q=>Γ) ?_ (B g _ _ ((h.alloc _).put A (.cl ?_)))
  .refine N8 ?_;simp only[Instr.buildSlice,zy,zR hu,zm,J0 hz];simp[Instr.fill,newRow,Array.range_zero']
  .exact .lst (some ⟨w.heap.size,0,none⟩) 0 1 true [] (λ_ _=>undef) (zC _) (λ_=>rfl) (λq=>Γ) (λ_ q=>by simp at q) (λq=>absurd q (zb0 _)) (λi x j y q=>by simp at q)
 case sliceL T E z x lo hi mx t xs i j k hx hE hz hel hlo hhi hmx hmh hij hjk hk=>exact fZ h (λc q=>Γ) A (OV h rfl hx hE hz hel hlo hhi hmx hmh hij hjk hk) B
 case sliceR T E z x lo s r i l hd hx R hE hz hrz hlo hi=>
  obtain⟨V,k1,k2,k3,k4⟩:=F hx R;obtain⟨G,q,hq,H⟩:=hok;rw[k1] at hq;cases hq;rw[<-k2,<-k4] at B;rw[<-k2] at hi;rw[<-k3] at hrz;exact OW h rfl A (small h A hd) G hx k1 H hE hz hrz hlo hi B
 case sliceF T E z x lo hi s r i j hx R hcl hE hz hrz hlo hhi hij hj=>
  obtain⟨V,k1,k2,k3,k4⟩:=F hx R;rw[<-k2] at B hhi hj;rw[<-k3] at hrz;rw[<-k4] at hcl;exact OU h rfl A hx k1 hcl hE hz hrz hlo hhi hij hj B
 case copy x y T U E l r ys z hx G hcl hy hE hz hrz hel hn hzp=>
  obtain⟨V,k1,k2,k3,k4⟩:=F hx G;obtain⟨q,hq,hlo,_⟩:=hok;rw[k1] at hq;cases hq;rw[<-k2] at hn;rw[<-k3] at hrz;rw[<-k4] at hcl;exact VU h rfl A hx k1 hcl hlo (S hy) hE hz hrz hel hn hzp B
end
end Go.Pw
namespace Go.Pw
open Go.RowKit
theorem sH{σ σ':Nat->Option Row}(hs:I8 σ σ'){d:PV}(h:d.gV σ=true):d.v0 σ'=d.v0 σ/\d.gV σ'=true:=by
 cases d <;> first | exact⟨rfl,h⟩ | skip
 rename_i l;simp only[PV.gV] at h;cases hl:σ l with
 | none=>rw[hl] at h;cases h
 | some r=>
  rw[hl] at h;obtain⟨r',c,j,p,m⟩:=hs l r hl;simp only[PV.v0,PV.gV,hl,c,j,m];exact⟨trivial,h⟩
theorem aD{σ σ':Nat->Option Row}(hs:I8 σ σ'){d:PV}(h:d.pG σ=true):d.v2 σ'=d.v2 σ/\d.pG σ'=true/\d.W1 σ'=d.W1 σ:=by
 by_cases hd:∃l i f,d = .ptr l i f
 .obtain⟨l,i,f,rfl⟩:=hd;simp only[PV.pG] at h;cases hl:σ l with
  | none=>rw[hl] at h;cases h
  | some r=>
   rw[hl] at h;obtain⟨r',q,A,B,C⟩:=hs l r hl;simp only[PV.v2,PV.pG,PV.W1,hl,q,A];cases hx:r.els[i]? with
   | none=>simp only[hx] at h;cases h
   | some x=>
    simp only[hx,zg,zB] at h;simp only[zg,zB];exact⟨by rw[zt λy hy=>(sH hs (h y hy).1).1],λy hy=>⟨(sH hs (h y hy).1).2,(h y hy).2⟩,trivial⟩
 .have e:d.v2 σ'=d.v0 σ':=by cases d <;> first | rfl | exact absurd ⟨_,_,_,rfl⟩ hd
  have c:d.v2 σ=d.v0 σ:=by cases d <;> first | rfl | exact absurd ⟨_,_,_,rfl⟩ hd
  have j:d.pG σ'=d.gV σ':=by cases d <;> first | rfl | exact absurd ⟨_,_,_,rfl⟩ hd
  have m:d.pG σ=d.gV σ:=by cases d <;> first | rfl | exact absurd ⟨_,_,_,rfl⟩ hd
  have p:d.W1 σ'=d.W1 σ:=by cases d <;> first | rfl | exact absurd ⟨_,_,_,rfl⟩ hd
  rw[e,c,j,p];rw[m] at h;exact⟨(sH hs h).1,(sH hs h).2,rfl⟩
theorem ai{σ σ':Nat->Option Row}(hs:I8 σ σ'){d:PV}(h:d.qp σ=true):d.v3 σ'=d.v3 σ/\d.qp σ'=true/\d.cC σ'=d.cC σ:=by
 cases d;case agg cs=>
  simp only[PV.qp,zg,zB] at h;simp only[PV.v3,PV.qp,PV.cC,zg,zB];exact⟨by rw[zt λy hy=>(sH hs (h y hy).1).1],λy hy=>⟨(sH hs (h y hy).1).2,(h y hy).2⟩,trivial⟩
 case fn f cap=>
  simp only[PV.qp,zg] at h;simp only[PV.v3,PV.qp,PV.cC,zg];exact⟨by rw[zt λy hy=>(aD hs (h y hy)).1],λy hy=>(aD hs (h y hy)).2.1,aH λy hy=>(aD hs (h y hy)).2.2⟩
 case tup vs=>exact aD (d:=.tup vs) hs h
 case bool b=>exact aD (d:=.bool b) hs h
 case int k m=>exact aD (d:=.int k m) hs h
 case str s=>exact aD (d:=.str s) hs h
 case lst t xs=>exact aD (d:=.lst t xs) hs h
 case sl l=>exact aD (d:=.sl l) hs h
 case ptr l i f=>exact aD (d:=.ptr l i f) hs h
 case rptr cs=>exact aD (d:=.rptr cs) hs h
 case nilfn=>exact aD (d:=.nilfn) hs h
 case abs R=>exact aD (d:=.abs R) hs h
 case mp l=>exact aD (d:=.mp l) hs h
 case mapc es=>exact aD (d:=.mapc es) hs h
 case junk=>exact aD (d:=.junk) hs h
variable {σ σ':Nat->Option Row}{P:Program}{dst:Option Tmp}{e:aj}
theorem sK(hs:I8 σ σ'){d:PV}(h:d.pY σ=true):d.view σ'=d.view σ/\d.pY σ'=true/\d.T9 σ'=d.T9 σ:=by
 cases d;case tup cs=>
  simp only[PV.pY,zg] at h;simp only[PV.view,PV.pY,PV.T9,zg];exact⟨by rw[zt λy hy=>(ai hs (h y hy)).1],λy hy=>(ai hs (h y hy)).2.1,aH λy hy=>(ai hs (h y hy)).2.2⟩
 case bool b=>exact ai (d:=.bool b) hs h
 case int k m=>exact ai (d:=.int k m) hs h
 case str s=>exact ai (d:=.str s) hs h
 case lst t xs=>exact ai (d:=.lst t xs) hs h
 case sl l=>exact ai (d:=.sl l) hs h
 case ptr l i f=>exact ai (d:=.ptr l i f) hs h
 case rptr cs=>exact ai (d:=.rptr cs) hs h
 case nilfn=>exact ai (d:=.nilfn) hs h
 case abs R=>exact ai (d:=.abs R) hs h
 case mp l=>exact ai (d:=.mp l) hs h
 case mapc es=>exact ai (d:=.mapc es) hs h
 case junk=>exact ai (d:=.junk) hs h
 case agg cs=>exact ai (d:=.agg cs) hs h
 case fn f cap=>exact ai (d:=.fn f cap) hs h
theorem uG(hs:I8 σ σ'){ds:List PV}(h:ds.all (PV.pY σ)=true) :
  ds.map (PV.view σ')=ds.map (PV.view σ)/\ds.all (PV.pY σ')=true/\ds.flatMap (PV.T9 σ')=ds.flatMap (PV.T9 σ):=by
 rw[zg] at h;exact⟨zt λd hd=>(sK hs (h d hd)).1,zg.2 λd hd=>(sK hs (h d hd)).2.1,aH λd hd=>(sK hs (h d hd)).2.2⟩
theorem Dh(hs:I8 σ σ'){ds:List PV}(h:ds.all (PV.pY σ)=true):ds.map (PV.vw σ')=ds.map (PV.vw σ):=by
 rw[zg] at h;exact zt λd hd=>by unfold PV.vw;rw[(sK hs (h d hd)).1]
theorem Src.mono{σ σ':Nat->Option Row}(hs:I8 σ σ'){d:PV}{ys:List PV}{cl:Bool}(h:Src σ d ys cl):Src σ' d ys cl:=by
 rcases h with h | ⟨l,r,c,j,m,p⟩
 .exact .inl h
 .obtain⟨r',k1,k2,A,q⟩:=hs l r j;exact .inr ⟨l,r',c,k1,by rw[m,k2],by rw[p,q]⟩
theorem G4.mono{P:Program}{σ σ':Nat->Option Row}{ρ:Operand->PV}{dst:Option Tmp}{op:Op}{d:PV}{e:aj}(hs:I8 σ σ')(h:G4 P σ ρ dst op d e):G4 P σ' ρ dst op d e:=by
 cases h;case pQ T x l i f r y n hx hl hy ha m hf=>
  obtain⟨r',k1,k2,k3,A⟩:=hs l r hl;exact .pQ T x l i f r' y n hx k1 (by rw[k2];exact hy) ha m hf
 case pR T x l i f r y hx hl hy ha hf=>
  obtain⟨r',k1,k2,k3,A⟩:=hs l r hl;exact .pR T x l i f r' y _ hx k1 (by rw[k2];exact hy) ha hf
 case idxR T x y l r k n E hx hl hy h0 hn hE hz=>
  obtain⟨r',k1,k2,k3,A⟩:=hs l r hl;exact .idxR T x y l r' k n E hx k1 hy h0 (by rw[k2];exact hn) hE (by rw[k3];exact hz)
 case lenR x l r T hx hl hT ts hts=>
  obtain⟨r',k1,k2,k3,A⟩:=hs l r hl;rw[<-k2];exact .lenR x l r' T hx k1 hT ts hts
 case call f args ts cap x hf hb hok hc hfl=>
  obtain⟨k1,k2,k3⟩:=uG hs hok;exact .call f args ts cap _ x hf hb k2 Δl hfl
 case callF f args ts cap x hf hb hok hc=>
  obtain⟨k1,k2,k3⟩:=uG hs hok;rw[<-k3];exact .callF f args ts cap _ x hf hb k2 Δl
 case callN f args ts cap l r x hd hf hb hok hc hcl=>
  obtain⟨k1,k2,k3⟩:=uG hs hok;rw[<-k3];exact .callN f args ts cap l r x hd hf hb k2 Δl hcl
 case appT x y T E xs ys cl z by_ l zv hd hx hy hE hz hb hzv hzz hel hfit h63=>exact .appT x y T E xs ys cl z by_ l zv hd hx (hy.mono hs) hE hz hb hzv hzz hel hfit h63
 case appR x y T E s r ys cl z by_ l zv hd hx p hy hE hz hb hzv hzz hel hrz hfit h63=>
  obtain⟨r',k1,k2,k3,A⟩:=hs s r p;rw[<-k2,<-A];exact .appR x y T E s r' ys cl z by_ l zv hd hx k1 (hy.mono hs) hE hz hb hzv hzz (by rw[k2];exact hel) ΩV (by rw[k2];exact hfit) (by rw[k2];exact h63)
 case sliceR T E z x lo s r i l hd hx p hE hz hrz hlo hi=>
  obtain⟨r',k1,k2,k3,A⟩:=hs s r p;rw[<-k2,<-A];exact .sliceR T E z x lo s r' i l hd hx k1 hE hz ΩV hlo (by rw[k2];exact hi)
 case sliceF T E z x lo hi s r i j hx p hcl hE hz hrz hlo hhi hij hj=>
  obtain⟨r',k1,k2,k3,A⟩:=hs s r p;rw[<-k2];exact .sliceF T E z x lo hi s r' i j hx k1 (by rw[A];exact hcl) hE hz ΩV hlo (by rw[k2];exact hhi) hij (by rw[k2];exact hj)
 case copy x y T U E l r ys z hx hl hcl hy hE hz hrz hel hn hzp=>
  obtain⟨r',k1,k2,k3,A⟩:=hs l r hl;exact .copy x y T U E l r' ys z hx k1 (by rw[A];exact hcl) (hy.mono hs) hE hz ΩV hel (by rw[k2];exact hn) hzp
 case move x=>exact .move x
 case assign x=>exact .assign x
 case pick c a b t h=>exact .pick c a b t h
 case box T x l hd hx=>exact .box T x l hd hx
 case alloc T l v hd hz hx=>exact .alloc T l v hd hz hx
 case jN T x cs n hx ha m hf=>exact .jN T x cs n hx ha m hf
 case jO T x cs hx ha hf=>exact .jO T x cs _ hx ha hf
 case store T x y l i f d hx hd hy m hpos=>exact .store T x y l i f d hx hd hy m hpos
 case pureV hnd hnl h=>exact .pureV _ _ hnd hnl h
 case nilCheckP x l i f hx=>exact .nilCheckP x l i f hx
 case nilCheckR x cs hx=>exact .nilCheckR x cs hx
 case not t x b hx=>exact .not t x b hx
 case neg t x k n hx=>exact .neg t x k n hx
 case ari op t u x y k a b r hx hy hr=>exact .ari op t u x y k a b r hx hy hr
 case cmp op t u x y k a b r hx hy hr=>exact .cmp op t u x y k a b r hx hy hr
 case eqB t u x y a b hx hy ht=>exact .eqB t u x y a b hx hy ht
 case neB t u x y a b hx hy ht=>exact .neB t u x y a b hx hy ht
 case eqS t u x y a b hx hy=>exact .eqS t u x y a b hx hy
 case neS t u x y a b hx hy=>exact .neS t u x y a b hx hy
 case conv s t x k k' n hx B ht=>exact .conv s t x k k' n hx B ht
 case fieldAddrP T x f l i q off ft hx ho=>exact .fieldAddrP T x f l i q off ft hx ho
 case fieldAddrR T x f cs off ft hx ho=>exact .fieldAddrR T x f cs off ft hx ho
 case fieldA T x f cs off ft n hx ho ha m hn=>exact .fieldA T x f cs off ft n hx ho ha m hn
 case fieldS T x f cs off ft hx ho ha hd=>exact .fieldS T x f cs off ft _ hx ho ha hd
 case idxL T x y t xs k n e E hx hy h0 he hE hz=>exact .idxL T x y t xs k n e E hx hy h0 he hE hz
 case idxA T x y l i f k n len E z hx hy h0 hn hE hz=>exact .idxA T x y l i f k n len E z hx hy h0 hn hE hz
 case idxRA T x y cs k n len E z hx hy h0 hn hE hz=>exact .idxRA T x y cs k n len E z hx hy h0 hn hE hz
 case extract x i ds hx hd=>exact .extract x i ds _ hx hd
 case build T parts pl z zs cs gY hz hzs hsc hf=>exact .build T parts pl z zs cs gY hz hzs hsc hf
 case mkFunc fn cap=>exact .mkFunc fn cap
 case mkSlice T x y l k k' n E z v hd hx hy h0 hE hz hv hel hvz b hb hbm hn=>exact .mkSlice T x y l k k' n E z v hd hx hy h0 hE hz hv hel hvz b hb hbm hn
 case lenL x t xs T hx hT ts hts=>exact .lenL x t xs T hx hT ts hts
 case lenS x s T hx hT ts hts=>exact .lenS x s T hx hT ts hts
 case min2 x y k a b ts hx hy=>exact .min2 x y k a b ts hx hy
 case max2 x y k a b ts hx hy=>exact .max2 x y k a b ts hx hy
 case buildSlice T E parts len z l zv els cl hd hE hz hzv hlen hel hbig hf hcl=>exact .buildSlice T E parts len z l zv els cl hd hE hz hzv hlen hel hbig hf hcl
 case nilSlice T E parts l z hd hE hz hp=>exact .nilSlice T E parts l z hd hE hz hp
 case buildI T E parts len z zv els hE hz hzv hlen hel hbig hf hcl=>exact .buildI T E parts len z zv els hE hz hzv hlen hel hbig hf hcl
 case sliceL T E z x lo hi mx t xs i j k hx hE hz hel hlo hhi hmx hmh hij hjk hk=>exact .sliceL T E z x lo hi mx t xs i j k hx hE hz hel hlo hhi hmx hmh hij hjk hk
def aj.key:aj->Option Nat
 | .new l _ | .app _ l _ | .frzN _ l _=>some l
 | _=>Option.none
theorem G4.key{ρ:Operand->PV}{op:Op}{d:PV}(h:G4 P σ ρ dst op d e):∀l,e.key=some l->dst=some l:=by
 intro l hl;cases h <;> first | (cases hl;done) | (cases hl;assumption)
theorem Vi{env:Nat->PV}{dst:Option Tmp}{d:PV}{x:Operand}(h:∀t,dst=some t->x ≠ .tmp t):B8 (Z7 env dst d) x=B8 env x:=by
 cases dst with
 | none=>rfl
 | some t=>
  cases x with
  | tmp u=>
   have:u≠t:=λe=>h t rfl (by rw[e]);simp only[B8,Z7,o0 _ _ this]
  | _=>rfl
theorem G4.congr{P:Program}{σ:Nat->Option Row}{ρ ρ':Operand->PV}{dst:Option Tmp}{op:Op}{d:PV}{e:aj}(hρ:∀x∈op.operands,ρ x=ρ' x)(h:G4 P σ ρ dst op d e):G4 P σ ρ' dst op d e:=by
 have key:∃ρ'':Operand->PV,(∀x∈op.operands,ρ'' x=ρ' x)/\ρ''=ρ:=⟨ρ,hρ,rfl⟩;clear key;cases h;case move x=>rw[hρ x Ωa];exact .move x
 case assign x=>rw[hρ x Ωa];exact .assign x
 case pick c a b t h=>
  rw[hρ c Ωa] at h;rw[hρ a Ωa,hρ b Ωa];exact .pick c a b t h
 case box T x l hd hx=>
  rw[hρ x Ωa] at hx |-;exact .box T x l hd hx
 case alloc T l v hd hz hx=>exact .alloc T l v hd hz hx
 case pQ T x l i f r y n hx hl hy ha A hf=>exact .pQ T x l i f r y n Ωd hl hy ha A hf
 case pR T x l i f r y hx hl hy ha hf=>exact .pR T x l i f r y _ Ωd hl hy ha hf
 case jN T x cs n hx ha A hf=>exact .jN T x cs n Ωd ha A hf
 case jO T x cs hx ha hf=>exact .jO T x cs _ Ωd ha hf
 case store T x y l i f d hx hd hy A hpos=>
  rw[hρ y Ωa] at hd;exact .store T x y l i f d Ωd hd hy A hpos
 case pureV hnd hnl h=>
  exact .pureV _ _ hnd hnl λo w imm μ p6 ev ho hx=>h o w imm μ p6 ev ho λx hm=>by rw[hρ x hm];exact hx x hm
 case nilCheckP x l i f hx=>
  rw[hρ x Ωa] at hx |-;exact .nilCheckP x l i f hx
 case nilCheckR x cs hx=>
  rw[hρ x Ωa] at hx |-;exact .nilCheckR x cs hx
 case not t x b hx=>exact .not t x b Ωd
 case neg t x k n hx=>exact .neg t x k n Ωd
 case ari op t u x y k a b r hx hy hr=>exact .ari op t u x y k a b r Ωd Ωp hr
 case cmp op t u x y k a b r hx hy hr=>exact .cmp op t u x y k a b r Ωd Ωp hr
 case eqB t u x y a b hx hy ht=>exact .eqB t u x y a b Ωd Ωp ht
 case neB t u x y a b hx hy ht=>exact .neB t u x y a b Ωd Ωp ht
 case eqS t u x y a b hx hy=>exact .eqS t u x y a b Ωd Ωp
 case neS t u x y a b hx hy=>exact .neS t u x y a b Ωd Ωp
 case conv s t x k k' n hx C ht=>exact .conv s t x k k' n Ωd C ht
 case fieldAddrP T x f l i q off ft hx ho=>exact .fieldAddrP T x f l i q off ft Ωd ho
 case fieldAddrR T x f cs off ft hx ho=>exact .fieldAddrR T x f cs off ft Ωd ho
 case fieldA T x f cs off ft n hx ho ha A hn=>exact .fieldA T x f cs off ft n Ωd ho ha A hn
 case fieldS T x f cs off ft hx ho ha hd=>exact .fieldS T x f cs off ft _ Ωd ho ha hd
 case idxL T x y t xs k n e E hx hy h0 he hE hz=>exact .idxL T x y t xs k n e E Ωd Ωp h0 he hE hz
 case idxR T x y l r k n E hx hl hy h0 hn hE hz=>exact .idxR T x y l r k n E Ωd hl Ωp h0 hn hE hz
 case idxA T x y l i f k n len E z hx hy h0 hn hE hz=>exact .idxA T x y l i f k n len E z Ωd Ωp h0 hn hE hz
 case idxRA T x y cs k n len E z hx hy h0 hn hE hz=>exact .idxRA T x y cs k n len E z Ωd Ωp h0 hn hE hz
 case extract x i ds hx hd=>exact .extract x i ds _ Ωd hd
 case build T parts pl z zs cs gY hz hzs hsc hf=>
  refine .build T parts pl z zs cs gY hz hzs hsc ?_;rw[<-hf];congr 1;refine zt λp hp=>?_;rw[hρ p.2 Ω0]
 case mkFunc fn cap=>
  rw[zt λx hx=>hρ x (by simp only[Op.operands];simpa using hx)];exact .mkFunc fn cap
 case mkSlice T x y l k k' n E z v hd hx hy h0 hE hz hv hel hvz b hb hbm hn=>
  exact .mkSlice T x y l k k' n E z v hd Ωd Ωp h0 hE hz hv hel hvz b hb hbm hn
 case lenL x t xs T hx hT ts hts=>exact .lenL x t xs T Ωt hT ts hts
 case lenR x l r T hx hl hT ts hts=>exact .lenR x l r T Ωt hl hT ts hts
 case lenS x s T hx hT ts hts=>exact .lenS x s T Ωt hT ts hts
 case min2 x y k a b ts hx hy=>exact .min2 x y k a b ts Ωt ΩJ
 case max2 x y k a b ts hx hy=>exact .max2 x y k a b ts Ωt ΩJ
 case call f args ts cap x hf hb hok hc hfl=>
  have e:args.toList.map ρ=args.toList.map ρ':=zt λy hy=>hρ y Ω2;rw[e] at hok hc;exact .call f args ts cap _ x Ω1 hb hok hc hfl
 case callF f args ts cap x hf hb hok hc=>
  have e:args.toList.map ρ=args.toList.map ρ':=zt λy hy=>hρ y Ω2;rw[e] at hok hc |-;exact .callF f args ts cap _ x Ω1 hb hok hc
 case callN f args ts cap l r x hd hf hb hok hc hcl=>
  have e:args.toList.map ρ=args.toList.map ρ':=zt λy hy=>hρ y Ω2;rw[e] at hok hc |-;exact .callN f args ts cap l r x hd Ω1 hb hok hc hcl
 case appT x y T E xs ys cl z by_ l zv hd hx hy hE hz hb hzv hzz hel hfit h63=>
  exact .appT x y T E xs ys cl z by_ l zv hd Ωt ΩJ hE hz hb hzv hzz hel hfit h63
 case appR x y T E s r ys cl z by_ l zv hd hx B hy hE hz hb hzv hzz hel hrz hfit h63=>
  exact .appR x y T E s r ys cl z by_ l zv hd Ωt B ΩJ hE hz hb hzv hzz hel hrz hfit h63
 case buildSlice T E parts len z l zv els cl hd hE hz hzv hlen hel hbig hf hcl=>
  refine .buildSlice T E parts len z l zv els cl hd hE hz hzv hlen hel hbig ?_ hcl;rw[<-hf];congr 1;refine zt λp hp=>?_;rw[hρ p.2 Ω0]
 case buildI T E parts len z zv els hE hz hzv hlen hel hbig hf hcl=>
  refine .buildI T E parts len z zv els hE hz hzv hlen hel hbig ?_ hcl;rw[<-hf];congr 1;refine zt λp hp=>?_;rw[hρ p.2 Ω0]
 case nilSlice T E parts l z hd hE hz hp=>exact .nilSlice T E parts l z hd hE hz hp
 case sliceL T E z x lo hi mx t xs i j k hx hE hz hel hlo hhi hmx hmh hij hjk hk=>
  have hb:∀ {y:Option Operand} {d m:Nat},(∀o,y=some o->o∈(Op.slice T x lo hi mx).operands)->uH ρ y d m->uH ρ' y d m:=by
   intro y d m hm h;cases y with
   | none=>exact h
   | some o=>obtain⟨q,hq⟩:=h;exact⟨q,by rw[<-hρ o (hm o rfl)];exact hq⟩
  exact .sliceL T E z x lo hi mx t xs i j k Ωd hE hz hel (hb (λo e=>Δk) hlo) (hb (λo e=>Δk) hhi)
   (hb (λo e=>Δk) hmx) hmh hij hjk hk
 case sliceR T E z x lo s r i l hd hx B hE hz hrz hlo hi=>
  refine .sliceR T E z x lo s r i l hd Ωd B hE hz hrz ?_ hi;cases lo with
  | none=>exact hlo
  | some o=>obtain⟨q,hq⟩:=hlo;exact⟨q,Ω3⟩
 case sliceF T E z x lo hi s r i j hx B hcl hE hz hrz hlo hhi hij hj=>
  refine .sliceF T E z x lo hi s r i j Ωd B hcl hE hz hrz ?_ ?_ hij hj
  .cases lo with
   | none=>exact hlo
   | some o=>obtain⟨q,hq⟩:=hlo;exact⟨q,Ω3⟩
  .cases hi with
   | none=>exact hhi
   | some o=>obtain⟨q,hq⟩:=hhi;exact⟨q,Ω3⟩
 case copy x y T U E l r ys z hx hl hcl hy hE hz hrz hel hn hzp=>
  exact .copy x y T U E l r ys z Ωt hl hcl ΩJ hE hz hrz hel hn hzp
def C9(ops:Array Oper)(env:Nat->PV)(o:Oper):Option Bool:=
 match o.guard with
 | none=>some true
 | some (j,want)=>match (ops[j]?).bind (·.dst) with
  | some t=>match B8 env (.tmp t) with
   | .bool b=>some (b==want)
   | .tup []=>some false
   | _=>none
  | none=>none
def cls(bar:List Nat)(i:Nat):Op->Nat
 | .move _ | .assign _ | .pick .. | .nilCheck _ | .unOp .. | .binOp .. | .convert .. | .fieldAddr .. | .field .. | .extract .. | .makeFunc .. | .build .. => 7
 | .load .. | .indexAddr .. | .slice .. => if bar.contains i then 7 else 0
 | .lookup .. => if bar.contains i then 7 else 4
 | .alloc _ | .box .. | .buildSlice .. | .makeSlice .. => 1
 | .call { callee:=.builtin .len,.. }=>if bar.contains i then 7 else 0
 | .call { callee:=.builtin .min,.. } | .call { callee:=.builtin .max,.. }=>7
 | .call { callee:=.builtin .append,.. }=>3
 | .call { callee:=.value _,.. }=>if bar.contains i then 5 else 2
 | _=>4
def fY:Nat->aj->Prop->Prop
 | 0,e,_=>e = .none
 | 1,e,_=>e = .none\/∃l r,e = .new l r
 | 2,e,_=>e = .none\/e = .oe []\/∃l r,e = .frzN [] l r
 | 3,e,_=>(∃l r,e = .new l r)\/∃s l r,e = .app s l r
 | 5,e,_=>e = .none\/(∃ls,e = .oe ls)\/∃ls l r,e = .frzN ls l r
 | 7,e,F=>e = .none/\F
 | _,_,_=>True
def allowed:Nat->Nat->Bool
 | 7,_ | _,7=>true
 | 0,0 | 0,1 | 1,0 | 0,2 | 2,0 | 1,1 | 1,2 | 2,1 | 0,3 | 3,0 | 3,1 | 0,5 | 5,0 | 5,1=>true
 | _,_=>false
def kept(bar:List Nat):List Nat:=bar.filterMap λn=>if 1000<=n then some (n-1000) else none
def core(r:Row):List PV × Nat × Bool:=(r.els,r.z,r.cl)
def H4(T:List Nat)(σ σ':Nat->Option Row):Prop:=∀l,T.contains l=true->(σ l).map core=(σ' l).map core
theorem H4.refl{T:List Nat}(σ:Nat->Option Row):H4 T σ σ:=λ_ _=>rfl
theorem H4.symm{T:List Nat}{σ σ':Nat->Option Row}(h:H4 T σ σ'):H4 T σ' σ:=λl q=>(h l q).symm
theorem H4.trans{T:List Nat}{σ'':Nat->Option Row}(h:H4 T σ σ')(k:H4 T σ' σ''):H4 T σ σ'':=λl q=>(h l q).trans (k l q)
def aj.off(T:List Nat):aj->Bool
 | .none | .oe _=>true
 | .new l _ | .app _ l _ | .frzN _ l _ | .sto l _ _ _ | .AE l _ => !T.contains l
theorem OE(σ:Nat->Option Row)(l k:Nat):((oK σ l) k).map core=(σ k).map core:=by
 unfold oK;cases hl:σ l with
 | none=>rfl
 | some q=>
  by_cases e:k=l
  .subst e;simp[p7,hl,core]
  .simp only;rw[o0 _ _ e]
theorem xx(ls:List Nat):∀(σ:Nat->Option Row) (k:Nat),((V1 σ ls) k).map core=(σ k).map core:=by
 induction ls with
 | nil=>intro σ k;rfl
 | cons l ls ih=>intro σ k;exact (ih (oK σ l) k).trans (OE σ l k)
theorem aj.a06{T:List Nat}{σ:Nat->Option Row}{e:aj}(h:e.off T=true):H4 T σ (e.apply σ):=by
 intro l hl;have ne:∀ {k:Nat},(!T.contains k)=true->l≠k:=λ{k} q e=>by subst e;rw[hl] at q;cases q
 cases e with
 | none=>rfl
 | new k r=>simp only[aj.apply];rw[o0 _ _ (ne h)]
 | app s k r=>
  simp only[aj.apply];rw[o0 _ _ (ne h)];cases hs:σ s with
  | none=>rfl
  | some q=>
   by_cases e:l=s
   .subst e;simp[p7,hs,core]
   .simp only;rw[o0 _ _ e]
 | sto k i f cs=>
  simp only[aj.apply];cases σ k with
  | none=>rfl
  | some q=>cases c:q.els[i]? with
   | none=>simp only[c]
   | some x=>simp only[c];rw[o0 _ _ (ne h)]
 | AE k ys=>
  simp only[aj.apply];cases σ k with
  | none=>rfl
  | some q=>simp only;rw[o0 _ _ (ne h)]
 | oe ls=>exact (xx ls σ l).symm
 | frzN ls k r=>simp only[aj.apply];rw[o0 _ _ (ne h)];exact (xx ls σ l).symm
inductive uN (P:Program) (ops:Array Oper) (dr:Bool) (T:List Nat) (c:Nat) (σF:Nat->Option Row) (o:Oper) (st:St):St->Prop
 | run (d e) (hw:C9 ops st.env o=some true) (h:G4 P σF (B8 st.env) o.dst o.op d e) (hs:I8 st.σ σF/\H4 T st.σ σF) (hok:e.ok st.σ) (ht:dr=true->e.off T=true)
  (hc:dr=true->fY c e (∀σ',H4 T σF σ'->G4 P σ' (B8 st.env) o.dst o.op d e)):uN P ops dr T c σF o st ⟨Z7 st.env o.dst d,e.apply st.σ⟩
 | skip (hw:C9 ops st.env o=some false):uN P ops dr T c σF o st ⟨Z7 st.env o.dst (.tup []),st.σ⟩
abbrev TL(P:Program)(ops:Array Oper)(dr:Bool)(T:List Nat)(c:Nat)(o:Oper)(st st':St):Prop:=uN P ops dr T c st.σ o st st'
theorem kJ{env:Nat->PV}{x y:Option Tmp}{d d':PV}(h:∀t,x=some t->y≠some t):Z7 (Z7 env x d) y d'=Z7 (Z7 env y d') x d:=by
 cases x with
 | none=>rfl
 | some t=>cases y with
  | none=>rfl
  | some u=>exact gU _ _ _ (λe=>h t rfl (by rw[e]))
theorem eY{ops:Array Oper}{env:Nat->PV}{o:Oper}{dst:Option Tmp}{d:PV}(h:∀t,dst=some t->t∉o.looksAt ops):C9 ops (Z7 env dst d) o=C9 ops env o:=by
 unfold C9;cases c:o.guard with
 | none=>rfl
 | some p=>
  obtain⟨j,want⟩:=p;simp only;cases hd:(ops[j]?).bind (·.dst) with
  | none=>rfl
  | some t=>
   simp only;have:Z7 env dst d t=env t:=by
    cases dst with
    | none=>rfl
    | some u=>
     refine o0 _ _ (λe=>?_);subst e;refine h t rfl ?_;unfold Oper.looksAt;rw[c];simp[hd]
   have this2:B8 (Z7 env dst d) (.tmp t)=B8 env (.tmp t):=by simp only[B8,this]
   rw[this2]
theorem iD{ops:Array Oper}{env:Nat->PV}{o:Oper}{d d':PV}(h:∀t,dst=some t->t∉o.looksAt ops) :
  G4 P σ (B8 (Z7 env dst d)) o.dst o.op d' e↔G4 P σ (B8 env) o.dst o.op d' e:=by
 have hx:∀x∈o.op.operands,B8 (Z7 env dst d) x=B8 env x:=λx hx=>Vi λt ht e=>by
  subst e;refine h t ht ?_;unfold Oper.looksAt;exact rx _ (List.mem_filterMap.2 ⟨.tmp t,Ω hx,rfl⟩)
 exact⟨λh=>h.congr hx,λh=>h.congr λx q=>(hx x q).symm⟩
def ML:aj->Bool
 | .sto .. | .AE .. => false
 | _=>true
theorem OG(σ:Nat->Option Row)(l:Nat):I8 σ (oK σ l):=by
 intro k r hk;unfold oK;cases hl:σ l with
 | none=>exact⟨r,hk,rfl,rfl,rfl⟩
 | some q=>
  by_cases e:k=l
  .subst e;rw[hl] at hk;cases hk;exact⟨_,p7 _ _ _,rfl,rfl,rfl⟩
  .exact⟨r,by simp only[o0 _ _ e];exact hk,rfl,rfl,rfl⟩
theorem I8.trans{σ'':Nat->Option Row}(h:I8 σ σ')(k:I8 σ' σ''):I8 σ σ'':=by
 intro l r hl;obtain⟨r',c,j,m,p⟩:=h l r hl;obtain⟨r'',k1,k2,q,A⟩:=k l r' c;exact⟨r'',k1,by rw[k2,j],by rw[q,m],by rw[A,p]⟩
theorem Ey(ls:List Nat):∀(σ:Nat->Option Row),I8 σ (V1 σ ls):=by
 induction ls with
 | nil=>exact λσ=>I8.refl σ
 | cons l ls ih=>exact λσ=>(OG σ l).trans (ih (oK σ l))
theorem W0{l:Nat}{r:Row}(h:σ l=none):I8 σ (A3 σ l (some r)):=λk q hk=>by
 have:k≠l:=λe=>by subst e;rw[h] at hk;cases hk
 exact⟨q,by rw[o0 _ _ this];exact hk,rfl,rfl,rfl⟩
theorem OF{σ:Nat->Option Row}{l k:Nat}(h:σ l=none):oK σ k l=none:=by
 unfold oK;cases hk:σ k with
 | none=>exact h
 | some q=>
  have:l≠k:=λe=>by subst e;rw[h] at hk;cases hk
  simp only[o0 _ _ this];exact h
theorem Ew{l:Nat}:∀ {ls:List Nat} {σ:Nat->Option Row},σ l=none->V1 σ ls l=none
 | [],_,h=>h
 | k::ls,σ,h=>Ew (ls:=ls) (σ:=oK σ k) (OF h)
theorem aj.same{σ:Nat->Option Row}{e:aj}(hk:ML e=true)(hok:e.ok σ):I8 σ (e.apply σ):=by
 cases e with
 | none=>exact I8.refl σ
 | new l r=>exact W0 hok
 | app s l r=>
  obtain⟨m,q,c,_⟩:=hok;simp only[aj.apply,c];have h:l≠s:=λe=>by subst e;rw[m] at c;cases c
  intro k p hp;have j:k≠l:=λe=>by subst e;rw[m] at hp;cases hp
  rw[o0 _ _ j];by_cases e:k=s
  .subst e;rw[c] at hp;cases hp;exact⟨_,p7 _ _ _,rfl,rfl,rfl⟩
  .exact⟨p,by rw[o0 _ _ e];exact hp,rfl,rfl,rfl⟩
 | sto l i f cs=>cases hk
 | AE l ys=>cases hk
 | oe ls=>exact Ey ls σ
 | frzN ls l r=>exact (Ey ls σ).trans (W0 (Ew hok))
theorem oD{c:Nat}{e:aj}{F:Prop}(h:fY c e F)(hc:c≠4)(j:c<=5):ML e=true:=by
 match c,hc,j,h with
 | 0,_,_,h=>rw[show e = .none from h];rfl
 | 1,_,_,h=>rcases h with rfl | ⟨l,r,rfl⟩ <;> rfl
 | 2,_,_,h=>rcases h with rfl | rfl | ⟨l,r,rfl⟩ <;> rfl
 | 3,_,_,h=>rcases h with ⟨l,r,rfl⟩ | ⟨s,l,r,rfl⟩ <;> rfl
 | 5,_,_,h=>rcases h with rfl | ⟨ls,rfl⟩ | ⟨ls,l,r,rfl⟩ <;> rfl
theorem PV.Dd{σ:Nat->Option Row}{d:PV}(h:d.gV σ=true):∀k∈d.fD,σ k≠none:=by
 intro k hk q;cases d <;> first | (simp[PV.fD] at hk;done) | skip
 rename_i l;simp only[PV.fD,zu] at hk;subst hk;have h':(match σ k with | some r=>r.cl | none=>false)=true:=h;rw[q] at h';cases h'
theorem PV.De{σ:Nat->Option Row}{d:PV}(h:d.pG σ=true):∀k∈d.W1 σ,σ k≠none:=by
 intro k hk q;cases d <;> first | (simp[PV.W1,PV.fD] at hk;done) | exact PV.Dd (d:=.sl _) h k hk q | skip
 rename_i l i f;have h':(match σ l with | some r=>(match r.els[i]? with | some x=>(x.cells.drop f).all λy=>y.gV σ&&y.sc | none=>false) | none=>false)=true:=h;have c:k∈l::(match σ l with | some r=>(match r.els[i]? with | some x=>(x.cells.drop f).flatMap PV.fD | none=>[]) | none=>[]):=hk;cases hl:σ l with
 | none=>rw[hl] at h';cases h'
 | some r=>
  rw[hl] at h' c;dsimp only at h' c;cases hx:r.els[i]? with
  | none=>rw[hx] at h';cases h'
  | some x=>
   rw[hx] at h' c;dsimp only at h' c;rcases zJ.1 c with e | c
   .rw[e,hl] at q;cases q
   .obtain⟨y,hy,c⟩:=zae.1 c;have:=zg.1 h' y hy;rw[zB] at this;exact PV.Dd this.1 k c q
theorem PV.nW{σ:Nat->Option Row}{d:PV}(h:d.qp σ=true):∀k∈d.cC σ,σ k≠none:=by
 intro k hk q;cases d <;> first | (simp[PV.cC,PV.W1,PV.fD] at hk;done) | exact PV.De (d:=.sl _) h k hk q | exact PV.De (d:=.ptr _ _ _) h k hk q | skip
 .obtain⟨y,hy,hk⟩:=zae.1 hk;have:=zg.1 h y hy;rw[zB] at this;exact PV.Dd this.1 k hk q
 .obtain⟨y,hy,hk⟩:=zae.1 hk;exact PV.De (zg.1 h y hy) k hk q
theorem PV.WO{d:PV}(h:d.pY σ=true):∀k∈d.T9 σ,σ k≠none:=by
 intro k hk q;cases d <;> first | (simp[PV.T9,PV.cC,PV.W1,PV.fD] at hk;done) | exact PV.nW (d:=.sl _) h k hk q | exact PV.nW (d:=.ptr _ _ _) h k hk q | exact PV.nW (d:=.agg _) h k hk q | exact PV.nW (d:=.fn _ _) h k hk q | skip
 .obtain⟨y,hy,hk⟩:=zae.1 hk;exact PV.nW (zg.1 h y hy) k hk q
 .rename_i f cap;have h':PV.qp σ (.fn f cap)=true:=h;have c:k∈PV.cC σ (.fn f cap):=hk;exact PV.nW h' k c q
theorem G4.there{ρ:Operand->PV}{op:Op}{d:PV}(h:G4 P σ ρ dst op d e):∀ls,(e = .oe ls\/∃l r,e = .frzN ls l r)->∀k∈ls,σ k≠none:=by
 have all:∀ {ds:List PV} {k:Nat},ds.all (PV.pY σ)=true->k∈ds.flatMap (PV.T9 σ)->σ k≠none:=λ{ds k} h hk=>by
  obtain⟨y,hy,hk⟩:=zae.1 hk;exact PV.WO (zg.1 h y hy) k hk
 intro ls he k hk;cases h <;> first | (exfalso;rcases he with he | ⟨_,_,he⟩ <;> cases he;done) | skip
 all_goals rcases he with he | ⟨_,_,he⟩ <;> cases he
 all_goals first | exact all ΩI hk | skip
 all_goals
  rw[zu] at hk;subst hk;simp_all
theorem BL{l:Nat}{x:Option Row}:∀(ls:List Nat) (σ:Nat->Option Row),l∉ls->V1 (A3 σ l x) ls=A3 (V1 σ ls) l x
 | [],_,_=>rfl
 | k::ls,σ,h=>by
  have hk:k≠l:=λe=>h (by rw[e];exact zh ..);have c:oK (A3 σ l x) k=A3 (oK σ k) l x:=by
   unfold oK;rw[o0 _ _ hk];cases σ k with
   | none=>rfl
   | some r=>first | exact gU _ _ _ hk | exact gU _ _ _ (zaz hk) | exact (gU _ _ _ hk).symm | exact (gU _ _ _ (zaz hk)).symm
  show V1 (oK (A3 σ l x) k) ls=A3 (V1 (oK σ k) ls) l x;rw[c];exact BL ls _ λq=>h (zw _ q)
theorem QR{σ:Nat->Option Row}{cj cx:Nat}{ej ex:aj}{Fj Fx:Prop}(h7j:cj≠7)(h7x:cx≠7)(ha:allowed cj cx=true)(hj:fY cj ej Fj)(hx:fY cx ex Fx)(c:ej.ok σ)(j:ex.ok (ej.apply σ))(B:∀l,ej.key=some l->ex.key≠some l)(V:∀ls,(ej = .oe ls\/∃l r,ej = .frzN ls l r)->∀k∈ls,σ k≠none) :
  ex.ok σ/\ej.ok (ex.apply σ)/\ej.apply (ex.apply σ)=ex.apply (ej.apply σ)/\I8 σ (ej.apply σ)/\I8 σ (ex.apply σ):=by
 have e0:∀(σ:Nat->Option Row),(aj.oe []).apply σ=σ:=λ_=>rfl;have e1:∀(σ:Nat->Option Row) l r,(aj.frzN [] l r).apply σ=(aj.new l r).apply σ:=λ_ _ _=>rfl;have simple:∀ {e:aj},(e = .none\/e = .oe []\/(∃l r,e = .new l r)\/∃l r,e = .frzN [] l r)->(∀σ,e.apply σ=σ/\e.ok σ)\/∃l r,e.key=some l/\(∀σ,e.apply σ=A3 σ l (some r))/\(∀σ,e.ok σ↔σ l=none):=by
  rintro e (rfl | rfl | ⟨l,r,rfl⟩ | ⟨l,r,rfl⟩);·exact .inl λ_=>⟨rfl,trivial⟩
  .exact .inl λ_=>⟨rfl,trivial⟩
  .exact .inr ⟨l,r,rfl,λ_=>rfl,λ_=>Iff.rfl⟩
  .exact .inr ⟨l,r,rfl,λ_=>rfl,λ_=>Iff.rfl⟩
 have s0:∀ {e:aj} {F:Prop},fY 0 e F->(e = .none\/e = .oe []\/(∃l r,e = .new l r)\/∃l r,e = .frzN [] l r):=λh=>.inl h;have s1:∀ {e:aj} {F:Prop},fY 1 e F->(e = .none\/e = .oe []\/(∃l r,e = .new l r)\/∃l r,e = .frzN [] l r):=λh=>h.elim .inl λh=>.inr (.inr (.inl h));have s2:∀ {e:aj} {F:Prop},fY 2 e F->(e = .none\/e = .oe []\/(∃l r,e = .new l r)\/∃l r,e = .frzN [] l r):=λh=>h.elim .inl λh=>h.elim (λh=>.inr (.inl h)) λh=>.inr (.inr (.inr h));have both:(ej = .none\/ej = .oe []\/(∃l r,ej = .new l r)\/∃l r,ej = .frzN [] l r)->(ex = .none\/ex = .oe []\/(∃l r,ex = .new l r)\/∃l r,ex = .frzN [] l r) ->
   ex.ok σ/\ej.ok (ex.apply σ)/\ej.apply (ex.apply σ)=ex.apply (ej.apply σ)/\I8 σ (ej.apply σ)/\I8 σ (ex.apply σ):=by
  intro hj hx;rcases simple hj with kj | ⟨l,r,kj0,C,G⟩ <;> rcases simple hx with kx | ⟨l',r',kx0,H,N⟩
  .rw[(kj σ).1,(kx σ).1];exact⟨(kx σ).2,(kj σ).2,by rw[(kj σ).1],I8.refl _,I8.refl _⟩
  .rw[(kj σ).1] at j |-;rw[H];exact⟨j,(kj _).2,(kj _).1,I8.refl _,W0 ((N σ).1 j)⟩
  .exact⟨(kx σ).2,by rw[(kx σ).1];exact c,by rw[(kx σ).1,(kx _).1],by rw[C];exact W0 ((G σ).1 c),by rw[(kx σ).1];exact I8.refl _⟩
  .have m:l≠l':=λe=>B l kj0 (by rw[kx0,e]);have hl:=(G σ).1 c;have S:σ l'=none:=by
    have:=(N _).1 j;rw[C,o0 _ _ (zaz m)] at this;exact this
   rw[C,H,C,H];exact⟨(N σ).2 S,(G _).2 (by rw[o0 _ _ m];exact hl),gU _ _ _ (zaz m),W0 hl,W0 S⟩
 have lookj:ej = .none->ex.ok σ/\ej.ok (ex.apply σ)/\ej.apply (ex.apply σ)=ex.apply (ej.apply σ)/\I8 σ (ej.apply σ)/\(ML ex=true->I8 σ (ex.apply σ)):=by
  rintro rfl;exact⟨j,trivial,rfl,I8.refl _,λq=>aj.same q j⟩
 have lookx:ex = .none->ML ej=true->ex.ok σ/\ej.ok (ex.apply σ)/\ej.apply (ex.apply σ)=ex.apply (ej.apply σ)/\I8 σ (ej.apply σ)/\I8 σ (ex.apply σ):=by
  rintro rfl q;exact⟨trivial,c,rfl,aj.same q c,I8.refl _⟩
 have look0:fY cj ej Fj->cj=0->cx≠4->cx<=5->ex.ok σ/\ej.ok (ex.apply σ)/\ej.apply (ex.apply σ)=ex.apply (ej.apply σ)/\I8 σ (ej.apply σ)/\I8 σ (ex.apply σ):=by
  intro h q h4 h5;subst q;obtain⟨k1,k2,k3,k4,k5⟩:=lookj h;exact⟨k1,k2,k3,k4,k5 (oD hx h4 h5)⟩
 unfold allowed at ha;split at ha;·exact absurd rfl h7j
 .exact absurd rfl h7x
 .exact both (s0 hj) (s0 hx)
 .exact both (s0 hj) (s1 hx)
 .exact both (s1 hj) (s0 hx)
 .exact both (s0 hj) (s2 hx)
 .exact both (s2 hj) (s0 hx)
 .exact both (s1 hj) (s1 hx)
 .exact both (s1 hj) (s2 hx)
 .exact both (s2 hj) (s1 hx)
 .exact look0 hj rfl Δ Δ
 .exact lookx hx (oD hj Δ Δ)
 .-- an append,and a row that is new
  rcases hj with ⟨l,r,rfl⟩ | ⟨s,l,r,rfl⟩;·exact both (.inr (.inr (.inl ⟨l,r,rfl⟩))) (s1 hx)
  .rcases hx with rfl | ⟨l',r',rfl⟩
   .exact lookx rfl rfl
   .obtain⟨h1,q,R,h3⟩:=c;have m:l≠l':=λe=>B l rfl (by rw[e];rfl);have hsl:s≠l:=λe=>by subst e;rw[h1] at R;cases R
    have A:A3 (A3 σ s (some { q with lo:=q.els.length,opn:=false })) l (some r) l'=none:=by
     have:=j;simp only[aj.ok,aj.apply,R] at this;exact this
    rw[o0 _ _ (zaz m)] at A;have p:s≠l':=λe=>by subst e;rw[p7] at A;cases A
    rw[o0 _ _ (zaz p)] at A;refine⟨A,⟨by simp only[aj.apply];rw[o0 _ _ m];exact h1,q,by simp only[aj.apply];rw[o0 _ _ p];exact R,h3⟩,?_,aj.same rfl ⟨h1,q,R,h3⟩,W0 A⟩;simp only[aj.apply,o0 _ _ p,R];rw[gU _ _ _ (zaz p),gU _ _ _ (zaz m)]
 .exact look0 hj rfl Δ Δ
 .exact lookx hx (oD hj Δ Δ)
 .-- what shows rows,and a row that is new
  rcases hx with rfl | ⟨l',r',rfl⟩
  .exact lookx rfl (oD hj Δ Δ)
  .have back:∀ls,V1 σ ls l'=none->σ l'=none:=λls q=>by
    have:=xx ls σ l';rw[q] at this;cases e:σ l' with
    | none=>rfl
    | some r=>rw[e] at this;cases this
   rcases hj with rfl | ⟨ls,rfl⟩ | ⟨ls,l,r,rfl⟩
   .obtain⟨k1,k2,k3,k4,k5⟩:=lookj rfl;exact⟨k1,k2,k3,k4,k5 rfl⟩
   .have h0:=back ls j;have hn:l'∉ls:=λq=>V ls (.inl rfl) l' q h0;exact⟨h0,trivial,BL ls σ hn,aj.same rfl c,W0 h0⟩
   .have m:l≠l':=λe=>B l rfl (by rw[e];rfl);have hx1:A3 (V1 σ ls) l (some r) l'=none:=j;rw[o0 _ _ (zaz m)] at hx1;have h0:=back ls hx1;have hn:l'∉ls:=λq=>V ls (.inr ⟨l,r,rfl⟩) l' q h0;refine⟨h0,?_,?_,aj.same rfl c,W0 h0⟩
    .show A3 σ l' (some r') l=none;rw[o0 _ _ m];exact c
    .show A3 (V1 (A3 σ l' (some r')) ls) l (some r)=A3 (A3 (V1 σ ls) l (some r)) l' (some r');rw[BL ls σ hn];exact gU _ _ _ (zaz m)
 .cases ha
theorem Pr{P:Program}{ops:Array Oper}{T:List Nat}{cj cx:Nat}{oj ox:Oper}{st s s':St}{σF:Nat->Option Row}(hap:oj.apart ops ox=true)(ha:allowed cj cx=true)
  (hj:TL P ops true T cj oj st s)(hx:uN P ops true T cx σF ox s s'):∃σF' st',uN P ops true T cx σF' ox st st'/\TL P ops true T cj oj st' s':=by
 obtain⟨R,S,a3⟩:=Oper.apart_spec hap;have rr:∀σ:Nat->Option Row,I8 σ σ/\H4 T σ σ:=λσ=>⟨I8.refl _,H4.refl _⟩;have weak:∀ {c:Nat} {e:aj} {F G:Prop},(c=7->F->G)->fY c e F->fY c e G:=λ{c e F G} hne q=>by
  unfold fY at q |-;split at q <;> first | exact q | exact⟨q.1,hne rfl q.2⟩ | trivial
 cases hj with
 | run d e hw h hs hok ht hc=>
  cases hx with
  | run d' B j h' p m N H=>
   simp only at j h' p m |-;have hkey:∀l,e.key=some l->B.key≠some l:=λl q C=>S l (h.key l q) (h'.key l C);have near1:H4 T st.σ (e.apply st.σ):=aj.a06 (ht rfl);rw[eY R] at j;by_cases h7x:cx=7
   .subst h7x;obtain⟨rfl,hfree⟩:=H rfl;have hfree':∀σ',H4 T st.σ σ'->G4 P σ' (B8 st.env) ox.dst ox.op d' .none:=λσ' q=>(iD R).1 (hfree σ' ((near1.trans p.2).symm.trans q));refine⟨st.σ,_,.run d' .none j (hfree' _ (H4.refl _)) (rr _) trivial (λ_=>rfl) (λ_=>⟨rfl,hfree'⟩),?_⟩;have:=uN.run (P:=P) (ops:=ops) (dr:=true) (T:=T) (c:=cj) (σF:=st.σ) (o:=oj) (st:=⟨Z7 st.env ox.dst d',st.σ⟩) d e ΩE ((iD a3).2 h) (rr _) hok ht
     (λq=>weak (λ_ f σ' A=>(iD a3).2 (f σ' A)) (hc q))
    rw[kJ (x:=ox.dst) (y:=oj.dst) λt q C=>S t C q] at this;exact this
   by_cases V:cj=7
   .subst V;obtain⟨rfl,hfree⟩:=hc rfl;rw[iD R] at h';have near2:H4 T st.σ (B.apply st.σ):=aj.a06 (N rfl);refine⟨σF,_,.run d' B j h' p m N (λq=>weak (λ_ f σ' A=>(iD R).1 (f σ' A)) (H q)),?_⟩;have:=uN.run (P:=P) (ops:=ops) (dr:=true) (T:=T) (c:=7) (σF:=B.apply st.σ) (o:=oj) (st:=⟨Z7 st.env ox.dst d',B.apply st.σ⟩) d .none ΩE ((iD a3).2 (hfree _ near2)) (rr _) trivial (λ_=>rfl)
     (λ_=>⟨rfl,λσ' q=>(iD a3).2 (hfree σ' (near2.trans q))⟩)
    rw[kJ (x:=ox.dst) (y:=oj.dst) λt q C=>S t C q] at this;exact this
   .have fj:fY cj e True:=weak (λ_ _=>trivial) (hc rfl);have fx:fY cx B True:=weak (λ_ _=>trivial) (H rfl);obtain⟨k1,k2,k3,k4,k5⟩:=QR V h7x ha fj fx hok m hkey λls he=>h.there ls he;rw[iD R] at h';refine⟨σF,_,.run d' B j h' ⟨k4.trans p.1,near1.trans p.2⟩ k1 N (λ_=>weak (λq=>absurd q h7x) fx),?_⟩;have:=uN.run (P:=P) (ops:=ops) (dr:=true) (T:=T) (c:=cj) (σF:=B.apply st.σ) (o:=oj) (st:=⟨Z7 st.env ox.dst d',B.apply st.σ⟩) d e ΩE ((iD a3).2 (h.mono k5)) (rr _) k2 ht (λ_=>weak (λq=>absurd q V) fj);rw[k3,kJ (x:=ox.dst) (y:=oj.dst) λt q C=>S t C q] at this;exact this
  | skip j=>
   simp only at j |-;rw[eY R] at j;refine⟨st.σ,_,.skip j,?_⟩;have:=uN.run (P:=P) (ops:=ops) (dr:=true) (T:=T) (c:=cj) (σF:=st.σ) (o:=oj) (st:=⟨Z7 st.env ox.dst (.tup []),st.σ⟩) d e ΩE ((iD a3).2 h) (rr _) hok ht
    (λq=>weak (λ_ f σ' A=>(iD a3).2 (f σ' A)) (hc q))
   rw[kJ (x:=ox.dst) (y:=oj.dst) λt q C=>S t C q] at this;exact this
 | skip hw=>
  cases hx with
  | run d' B j h' p m N H=>
   simp only at j h' p m |-;rw[eY R] at j;rw[iD R] at h';refine⟨σF,_,.run d' B j h' p m N (λq=>weak (λ_ f σ' A=>(iD R).1 (f σ' A)) (H q)),?_⟩;have:=uN.skip (P:=P) (ops:=ops) (dr:=true) (T:=T) (c:=cj) (σF:=B.apply st.σ) (o:=oj) (st:=⟨Z7 st.env ox.dst d',B.apply st.σ⟩) ΩE;rw[kJ (x:=ox.dst) (y:=oj.dst) λt q C=>S t C q] at this;exact this
  | skip j=>
   simp only at j |-;rw[eY R] at j;refine⟨st.σ,_,.skip j,?_⟩;have:=uN.skip (P:=P) (ops:=ops) (dr:=true) (T:=T) (c:=cj) (σF:=st.σ) (o:=oj) (st:=⟨Z7 st.env ox.dst (.tup []),st.σ⟩) ΩE;rw[kJ (x:=ox.dst) (y:=oj.dst) λt q C=>S t C q] at this;exact this
def HS(P:Program)(ops:Array Oper)(bar:List Nat)(dr:Bool):List Nat->St->St->Prop
 | [],st,st'=>st=st'
 | i::is,st,st'=>∃o s,ops[i]? = some o/\TL P ops dr (kept bar) (cls bar i o.op) o st s/\HS P ops bar dr is s st'
theorem CN{P:Program}{ops:Array Oper}{bar:List Nat}{x:Nat}{ox:Oper}(m:ops[x]? = some ox):∀(c1 c2:List Nat) (st s':St),
  (∀j∈c1,∀oj,ops[j]? = some oj->oj.apart ops ox=true/\allowed (cls bar j oj.op) (cls bar x ox.op)=true)->HS P ops bar true (c1++x::c2) st s' ->
  ∃σF st',uN P ops true (kept bar) (cls bar x ox.op) σF ox st st'/\HS P ops bar true (c1++c2) st' s':=by
 intro c1;induction c1 with
 | nil=>
  intro c2 st s' _ h;obtain⟨o,s,ho,hs,hr⟩:=h;rw[m] at ho;cases ho;exact⟨_,s,hs,hr⟩
 | cons j c1 ih=>
  intro c2 st s' hj h;obtain⟨oj,s,c,hs,hr⟩:=h;obtain⟨σF,s1,p,q⟩:=ih c2 s s' (λk hk=>hj k (zw _ hk)) hr;obtain⟨k1,k2⟩:=hj j (zh ..) oj c;obtain⟨σF',st',A,B⟩:=Pr k1 k2 hs p;exact⟨σF',st',A,oj,s1,c,B,q⟩
end Go.Pw
namespace Go.Pw
open Go.RowKit
section
variable{X:Ctx}{g:Gh}{st:St}{a:Act}{w:World}{n:Nat}{K:Act->World->Prop}{Q:Exit->Act->World->Prop}{ρ:Option Nat}{ops:Array Oper}
theorem ax(h:u7 X g st a w){o:Oper}{b:Bool}(hw:C9 ops st.env o=some b):Region.wanted o (yielded ops a.tmps)=b:=by
 unfold C9 at hw;unfold Region.wanted;cases q:o.guard with
 | none=>rw[q] at hw;simpa using hw
 | some p=>
  obtain⟨j,want⟩:=p;rw[q] at hw;simp only at hw |-;cases hd:(ops[j]?).bind (·.dst) with
  | none=>rw[hd] at hw;cases hw
  | some t=>
   rw[hd] at hw;simp only at hw;have ht:=h.QS t;cases he:B8 st.env (.tmp t) <;> rw[he] at hw ht <;> first | (cases hw;done) | skip
   case bool m=>
    simp only[wd] at hw;have hv:=ht.eD;have:a.tmps[t]? = some (.bool m):=by
     rw[zO] at hv;cases c:a.tmps[t]? with
     | none=>rw[c] at hv;cases hv
     | some v=>rw[c] at hv;simp only[un] at hv;rw[hv]
    have hy:yielded ops a.tmps j=some m:=by
     unfold yielded;rw[hd];simp only[zcv,this]
    rw[hy,<-hw];rfl
   case tup vs=>
    cases vs with
    | cons _ _=>cases hw
    | nil=>
     simp only[wd] at hw;subst hw;obtain⟨us,hv,_⟩:=ht.AV;have hy:yielded ops a.tmps j=none:=by
      unfold yielded;rw[hd];simp only[zcv];rw[zO] at hv;cases c:a.tmps[t]? with
      | none=>rfl
      | some v=>rw[c] at hv;simp only[un] at hv;rw[hv]
     rw[hy];rfl
theorem yg{c:Nat}{T:List Nat}{dr:Bool}{σF:Nat->Option Row}{o:Oper}{st':St}{i:Nat}(hi:ops[i]? = some o)(h:u7 X g st a w)(hs:uN X.P ops dr T c σF o st st')(j:∀t,o.dst=some t->t<X.N)
  (p:∀q m w',u7 X q st' m w'->K m w'):wpOpIn (FX ρ) n X.P ops Q i K a w:=by
 unfold wpOpIn;rw[hi];simp only;cases hs with
 | run d e hw ho hsame hok ht hc=>
  rw[zb (ax h hw)];exact Sk h ho hsame.1 hok j p
 | skip hw=>
  rw[za (by rw[ax h hw];simp)];exact⟨λ_ _=>trivial,p g _ w (h.put j (.cl (.tup #[] [] rfl λi v c _ hc=>Ωj)))⟩
def jg(N:Nat)(ops:Array Oper):Bool:=ops.toList.all λo=>match o.dst with | some t=>decide (t<N) | none=>true
theorem Q5{N:Nat}(h:jg N ops=true){i:Nat}{o:Oper}(hi:ops[i]? = some o):∀t,o.dst=some t->t<N:=by
 intro t ht;have hm:o∈ops.toList:=by
  have:ops.toList[i]? = some o:=Ω hi
  exact zk this
 have:=zg.1 h o hm;rw[ht] at this;simpa using this
def a0Y(M:Array Nat)(es:List Edge):Nat:=es.foldl (λs e=>if Region.binds .any e then s ||| (2 ^ e.on ||| M.getD e.on 0) else s) 0
theorem EL(M:Array Nat)(j:Nat):∀(es:List Edge) (s:Nat),(es.foldl (λs e=>if Region.binds .any e then s ||| (2 ^ e.on ||| M.getD e.on 0) else s) s).testBit j=true ->
  s.testBit j=true\/∃e∈es,Region.binds .any e=true/\(e.on=j\/(M.getD e.on 0).testBit j=true)
 | [],s,h=>.inl h
 | e::es,s,h=>by
  rw[ww] at h;rcases EL M j es _ h with q | ⟨c,m,p⟩
  .split at q
   .rename_i hb;rw[Nat.testBit_or,Nat.testBit_or,zbx,zbx] at q;rcases q with q | q | q
    .exact .inl q
    .refine .inr ⟨e,zh ..,hb,.inl ?_⟩;rw[Nat.testBit_two_pow] at q;simpa using q
    .exact .inr ⟨e,zh ..,hb,.inr q⟩
   .exact .inl q
  .exact .inr ⟨c,zw _ m,p⟩
def tH(ops:Array Oper)(bar:List Nat)(M:Array Nat):Bool:=
 (List.range ops.size).all λx=>match ops[x]? with
  | some ox=>(M.getD x 0==a0Y M ox.after.toList)&&(ox.after.toList.all λe => !Region.binds .any e||decide (e.on<x)) &&
   ((List.range x).all λj=>(M.getD x 0).testBit j||(match ops[j]? with
    | some oj=>oj.apart ops ox&&allowed (cls bar j oj.op) (cls bar x ox.op)
    | none=>true))
  | none=>true
theorem dg{bar:List Nat}{M:Array Nat}(h:tH ops bar M=true){x:Nat}{ox:Oper}(hx:ops[x]? = some ox) :
  (∀j,(M.getD x 0).testBit j=true->∃e∈ox.after,Region.binds .any e=true/\(e.on=j\/(M.getD e.on 0).testBit j=true))/\(∀e∈ox.after,Region.binds .any e=true->e.on<x) /\
  (∀j oj,j<x->ops[j]? = some oj->(M.getD x 0).testBit j=true\/(oj.apart ops ox=true/\allowed (cls bar j oj.op) (cls bar x ox.op)=true)):=by
 have c:x<ops.size:=by
  rcases zI x ops.size with q | q
  .exact q
  .rw[zci q] at hx;cases hx
 have:=zg.1 h x (Ω c);rw[hx] at this;simp only[zB,zak] at this;obtain⟨⟨p,A⟩,B⟩:=this;refine⟨λj hj=>?_,λe he hb=>?_,λj oj hj m=>?_⟩
 .rw[p] at hj;rcases EL M j _ _ hj with q | ⟨e,C,F⟩
  .simp at q
  .exact⟨e,Ω C,F⟩
 .simpa[hb] using zg.1 A e (Ω he)
 .have:=zg.1 B j (Ω hj);rw[m] at this;simp only[zbx,zB] at this;exact this
def ia(n:Nat)(listed:Array Bool):List Nat:=(List.range n).filter λi => !listed.getD i true
theorem jD(n:Nat)(listed:Array Bool):(ia n listed).Pairwise (· < ·):=zb9 _ List.pairwise_lt_range
theorem CF{n:Nat}{listed:Array Bool}{i:Nat}{c1 c2:List Nat}(m:listed.size=n)(hi:i<n)(h:ia n listed=c1++i::c2):ia n (listed.setIfInBounds i true)=c1++c2:=by
 have hs:=jD n listed;rw[h] at hs;rw[za8] at hs;obtain⟨B,p,A⟩:=hs;rw[or] at p;have e:ia n (listed.setIfInBounds i true)=(ia n listed).filter λj=>decide (j≠i):=by
  unfold ia;rw[zat];refine zaf λj hj=>?_;have c:j<n:=Ω hj
  by_cases q:j=i
  .subst q;simp[zO,m,c]
  .rw[getD_set_ne (listed:=listed) (i:=i) (j:=j) true (zaz q)];simp[q]
 rw[e,h,zai,pm,za Ψ];congr 1;·exact zav.2 λj hj=>by have:=A j hj i (zh ..);simp;omega
 .exact zav.2 λj hj=>by have:=p.1 j hj;simp;omega
theorem Oi{bar:List Nat}{M:Array Nat}{stF:St}(hd:jg X.N ops=true)(hr:tH ops bar M=true)(hQ:∀g' a' w',u7 X g' stF a' w'->Q .normal a' w') :
  ∀(fuel:Nat) (listed:Array Bool) (g:Gh) (st:St) (a:Act) (w:World),u7 X g st a w->listed.size=ops.size->(ia ops.size listed).length=fuel ->
   (∀i o,listed.getD i false=true->ops[i]? = some o->∀e∈o.after,Region.binds .any e=true->listed.getD e.on false=true) ->
   HS X.P ops bar true (ia ops.size listed) st stF->wpAnyIn (FX ρ) n X.P .any ops Q fuel listed a w:=by
 intro fuel;have hfirst:∀(listed:Array Bool),listed.size=ops.size->∀i c,ia ops.size listed=i::c->i∈Region.ready .any ops listed:=by
  intro listed B i c h;have hmem:i∈ia ops.size listed:=by rw[h];simp
  obtain⟨S,hi2⟩:=zj.1 hmem;have hi:i<ops.size:=Ω S
  refine zj.2 ⟨S,?_⟩;rw[hi2,zax,zq hi];simp only[rg,un];rw[zbl];intro e he;cases hb:Region.binds .any e with
  | false=>rfl
  | true=>
  have hlt:=(dg hr (zq hi)).2.1 e he hb;show (!true||_)=true;rw[zbx];right;cases C:listed.getD e.on false with
  | true=>rfl
  | false=>
   exfalso;have hon:e.on∈ia ops.size listed:=zj.2 ⟨Ξ,by
    have:listed.getD e.on true=false:=by
     have hlt':e.on<listed.size:=Δ
     simp[zO,hlt'] at C |-;exact C
    rw[this];rfl⟩
   have hs:=jD ops.size listed;rw[h] at hs hon;rw[or] at hs;rcases zJ.1 hon with q | q
   .omega
   .have:=hs.1 _ q;omega
 induction fuel with
 | zero=>
  intro listed g st a w h B hf _ A;have hnil:ia ops.size listed = []:=ul hf;rw[hnil] at A;have:st=stF:=A;subst this;refine⟨?_,hQ g a w h⟩;cases C:Region.ready .any ops listed with
  | nil=>rfl
  | cons i l=>
   exfalso;have hm:i∈Region.ready .any ops listed:=by rw[C];simp
   obtain⟨k1,k2⟩:=zj.1 hm;rw[zB] at k2;have:i∈ia ops.size listed:=zj.2 ⟨k1,k2.1⟩;rw[hnil] at this;cases this
 | succ fuel ih=>
  intro listed g st a w h B hf hdown A;refine⟨λhnil=>?_,λi hi=>?_⟩
  .exfalso;cases C:ia ops.size listed with
   | nil=>rw[C] at hf;simp at hf
   | cons j c=>
    have:=hfirst listed B j c C;rw[hnil] at this;cases this
  .obtain⟨k1,k2⟩:=zj.1 hi;rw[zB] at k2;have V:i<ops.size:=by simpa using k1
   have p:=zq V;have hirem:i∈ia ops.size listed:=zj.2 ⟨k1,k2.1⟩;obtain⟨c1,c2,hc⟩:=List.append_of_mem hirem;have hs:=jD ops.size listed;rw[hc] at hs A;rw[za8] at hs;have hafter:∀e∈ops[i].after,Region.binds .any e=true->listed.getD e.on false=true:=by
    have:=k2.2;rw[p] at this;simp only[rg,un] at this;rw[zbl] at this;intro e he hb;have:=this e he;rw[hb] at this;simpa using this
   have hnotl:∀j∈c1,listed.getD j false=false:=by
    intro j hj;have:j∈ia ops.size listed:=by rw[hc];simp[hj]
    obtain⟨q1,q2⟩:=zj.1 this;have q2':listed.getD j true=false:=Ω q2
    rw[zO] at q2' |-;cases C:listed[j]? with
    | none=>rfl
    | some b=>rw[C] at q2';exact q2'
   have hwait:∀j,(M.getD i 0).testBit j=true->listed.getD j false=true:=by
    have key:∀(m k:Nat) (o:Oper),k<m->ops[k]? = some o->(∀e∈o.after,Region.binds .any e=true->listed.getD e.on false=true)->∀j,(M.getD k 0).testBit j=true->listed.getD j false=true:=by
     intro m;induction m with
     | zero=>intro k o hk;omega
     | succ m ihm=>
      intro k o hk ho haf j hj;obtain⟨e,H,R,G⟩:=(dg hr ho).1 j hj;have hl:=haf e H R;rcases G with rfl | G
      .exact hl
      .have hlt:=(dg hr ho).2.1 e H R;have hklt:k<ops.size:=by
        rcases zI k ops.size with q | q
        .exact q
        .rw[zci q] at ho;cases ho
       exact ihm e.on _ Δ (zq (show e.on<ops.size by omega)) (λe' h1 h2=>hdown e.on _ hl (zq (show e.on<ops.size by omega)) e' h1 h2) j G
    exact key (i+1) i _ Δ p hafter
   have hind:∀j∈c1,∀oj,ops[j]? = some oj->oj.apart ops ops[i]=true/\allowed (cls bar j oj.op) (cls bar i ops[i].op)=true:=by
    intro j hj oj hoj;have hji:=hs.2.2 j hj i (zh ..);rcases (dg hr p).2.2 j oj hji hoj with q | q
    .have:=hwait j q;rw[hnotl j hj] at this;cases this
    .exact q
   obtain⟨σF,st',hst,hrest⟩:=CN p c1 c2 st stF hind A;refine yg p h hst (Q5 hd p) λg' a' w' h'=>?_;have F:=CF B V hc;refine ih _ g' st' a' w' h' (Ω B) ?_ ?_ (by rw[F];exact hrest)
   .rw[F];rw[hc] at hf;simp at hf |-;omega
   .intro k o hk ho e he hb;by_cases q:k=i
    .subst q;rw[p] at ho;cases ho;exact getD_set_true (hafter e he hb)
    .rw[getD_set_ne (listed:=listed) (i:=i) (j:=k) false (zaz q)] at hk;exact getD_set_true (hdown k o hk ho e he hb)
end
end Go.Pw
namespace Go.Pw
open Go.RowKit
inductive PX where
 | normal
 | exit (id:Nat)
 | goto (l:Nat)
 | ret
def lift(X:Ctx)(Q:PX->Ctx->St->Prop):Exit->Act->World->Prop
 | .normal,a,w=>∃X' g st,u7 X' g st a w/\(X'.P=X.P/\X'.ρ=X.ρ)/\Q .normal X' st
 | .exit id,a,w=>∃X' g st,u7 X' g st a w/\(X'.P=X.P/\X'.ρ=X.ρ)/\Q (.exit id) X' st
 | .goto l,a,w=>∃X' g st,u7 X' g st a w/\(X'.P=X.P/\X'.ρ=X.ρ)/\Q (.goto l) X' st
 | .ret,a,w=>∃X' g st,u7 X' g st a w/\(X'.P=X.P/\X'.ρ=X.ρ)/\Q .ret X' st
 | .panic _,_,_=>False
 | .outgrown,_,_=>False
def aA(X:Ctx)(c:Code)(Q:PX->Ctx->St->Prop)(st:St):Prop:=∀(n:Nat) (g:Gh) (a:Act) (w:World),u7 X g st a w->c.wpIn (FX X.ρ) n X.P (lift X Q) a w
section
variable{X:Ctx}{Q:PX->Ctx->St->Prop}{st:St}
theorem aA.mono{c:Code}{Q':PX->Ctx->St->Prop}(h:aA X c Q st)(B:∀e X' s,Q e X' s->Q' e X' s):aA X c Q' st:=λn g a w hs=>zb1 (h n g a w hs) λe C w' q=>by
 cases e <;> simp only[lift] at q |- <;> first | exact q | (obtain⟨X',j,st',m,A,p⟩:=q;exact⟨X',j,st',m,A,B _ _ _ p⟩)
theorem Z(h:Q .normal X st):aA X .skip Q st:=λn g a w hs=>wpIn_skip ⟨X,g,st,hs,⟨rfl,rfl⟩,h⟩
theorem Jk{l:Nat}(h:Q .normal X st):aA X (.label l) Q st:=λn g a w hs=>wpIn_label ⟨X,g,st,hs,⟨rfl,rfl⟩,h⟩
theorem n9{id:Nat}(h:Q (.exit id) X st):aA X (.exit id) Q st:=λn g a w hs=>wpIn_exit ⟨X,g,st,hs,⟨rfl,rfl⟩,h⟩
theorem Nk{l:Nat}(h:Q (.goto l) X st):aA X (.goto l) Q st:=λn g a w hs=>wpIn_goto ⟨X,g,st,hs,⟨rfl,rfl⟩,h⟩
theorem M(h:Q .ret X st):aA X .ret Q st:=λn g a w hs=>wpIn_ret ⟨X,g,st,hs,⟨rfl,rfl⟩,h⟩
def mB(N:Ctx->St->Prop)(Q:PX->Ctx->St->Prop):PX->Ctx->St->Prop
 | .normal,X,s=>N X s
 | e,X,s=>Q e X s
theorem vI{X X':Ctx}(h:X'.P=X.P/\X'.ρ=X.ρ):lift X' Q=lift X Q:=by
 funext e a w
 cases e <;> simp only[lift,h.1,h.2]
theorem g6{x y:Code}(h:aA X x (mB (λX'=>aA X' y Q) Q) st):aA X (.seq x y) Q st:=λn g a w hs=>wpIn_seq (zb1 (h n g a w hs) λe j w' q=>by
 cases e <;> simp only[lift,mB,Exit.then] at q |- <;> first | exact q | (
  obtain⟨X',m,st',p,c,A⟩:=q;have:=A n m j w' p;rw[vI c,c.1,c.2] at this;exact this))
theorem J9{c:Operand}{x y:Code}(b:Bool)(hc:B8 st.env c = .bool b)(hx:b=true->aA X x Q st)(hy:b=false->aA X y Q st):aA X (.cond c x y) Q st:=λn g a w hs=>by
 have hv:=hs.eval c;rw[hc] at hv;refine wpIn_cond hv.eD ?_;cases b;·exact hy rfl n g a w hs
 .exact hx rfl n g a w hs
def xn(id:Nat)(Q:PX->Ctx->St->Prop):PX->Ctx->St->Prop
 | .exit id',X,s=>if id'=id then Q .normal X s else Q (.exit id') X s
 | e,X,s=>Q e X s
theorem c9 {id : Nat} {c : Code} (h : aA X c (xn id Q) st) : aA X (.block id c) Q st := fun n g a w hs => wpIn_block (zb1 (h n g a w hs) fun e B w' q => by
  cases e <;> simp only [lift, xn, Exit.inBlock] at q |- <;> first
    | exact q
    | (obtain ⟨X', m, st', p, A, j⟩ := q
       split;· rename_i e; rw [zb e] at j; exact ⟨X', m, st', p, A, j⟩
       . rename_i e; rw [za e] at j; exact ⟨X', m, st', p, A, j⟩))
theorem vi{p:Nat->Prop}(h:∃m,p m):∃m,p m/\∀k,p k->m<=k:=by
 obtain⟨m,hm⟩:=h;induction m using Nat.strongRecOn with
 | _ m ih=>
  by_cases q:∃k,k<m/\p k
  .obtain⟨k,c,j⟩:=q;exact ih k c j
  .exact⟨m,hm,λk hk=>Nat.le_of_not_lt λh=>q ⟨k,h,hk⟩⟩
theorem Wj{id:Nat}{ops:Array Oper}(bar:List Nat)(hm:X.P.follows .mixedOrders=true)(hd:jg X.N ops=true)(hr:tH ops bar (Region.before ops)=true)
  (h:∃s,HS X.P ops bar true (List.range ops.size) st s/\Q .normal X s):aA X (.region id ops true) Q st:=by
 intro n g a w hs;obtain⟨s,j,p⟩:=h;have c:ia ops.size (Array.replicate ops.size false)=List.range ops.size:=zav.2 λi hi=>by
  have:i<ops.size:=Ω hi
  simp[zO,this]
 refine wpIn_region_any hm (Oi hd hr (λm q w' h'=>⟨X,m,s,h',⟨rfl,rfl⟩,p⟩) _ _ g st a _ hs.drew Ψ (by rw[c];simp) (λi o hi=>?_) (by rw[c];exact j));exfalso;rw[zO,zbr] at hi;split at hi <;> cases hi
end
def O6(ds:List PV):Nat->PV:=λi=>ds.getD i (.tup [])
def XI(P:Program)(st:St):ResultVar->PV->Prop
 | .tmp t,d=>B8 st.env (.tmp t)=d
 | .cell t T,d=>G4 P st.σ (B8 st.env) none (.load T (.tmp t)) d .none
def Dy(P:Program)(st:St):List ResultVar->List PV->Prop
 | [],[]=>True
 | r::c,d::ds=>XI P st r d/\Dy P st c ds
 | _,_=>False
def ke:List PV->PV
 | [d]=>d
 | ds=>.tup ds
def Fin(P:Program)(fn:Func)(d:PV)(st:St):Prop:=
 ∃c,Dy P st fn.results.toList c/\(ke c).pY st.σ=true/\((ke c).view st.σ=d\/((ke c).view st.σ).w3=d)
def NM(P:Program)(fn:Func)(r:Row)(st:St):Prop:=
 ∃t l,fn.results = #[.tmp t]/\B8 st.env (.tmp t) = .sl l/\st.σ l=some r/\r.cl=true
def PC(X:Ctx)(F:St->Prop):PX->Ctx->St->Prop
 | .normal,X',s | .ret,X',s=>X'=X/\F s
 | _,_,_=>False
section
variable{X:Ctx}{g:Gh}{st:St}{a:Act}{w:World}
def rn(tmps:Array Value):ResultVar->Sem Value
 | .tmp t=>pure (tmps.getD t undef)
 | .cell t T=>do loadVar T (<-asAddr (tmps.getD t undef))
theorem lA(fn:Func)(tmps:Array Value):results fn tmps=(do let vs <-fn.results.mapM (rn tmps);pure (if h:vs.size=1 then vs[0] else .tuple vs)):=by
 have:(λx:ResultVar=>match x with
   | .tmp t=>(pure (tmps.getD t undef):Sem Value)
   | .cell a t=>do loadVar t (<-asAddr (tmps.getD a undef)))=rn tmps:=by
  funext r
  cases r <;> rfl
 unfold results;rw[<-this];rfl
theorem Nx(h:u7 X g st a w){r:ResultVar}{d:PV}(hr:XI X.P st r d) :
  ∃v,(rn a.tmps r).run X.P w = .ok v w/\Rd w g.imm g.μ st.p6 v d:=by
 cases r with
 | tmp t=>
  have:B8 st.env (.tmp t)=d:=hr;subst this;exact⟨_,rfl,h.QS t⟩
 | cell t T=>
  have hv:=h.QS t;have A:G4 X.P st.σ (B8 st.env) none (.load T (.tmp t)) d .none:=hr;have key:∀(b o:Nat) (u:Value),a.tmps.getD t undef = .pointer (some ⟨b,o,none⟩)->(Instr.loadAt T (a.tmps.getD t undef)).run X.P w = .ok u w ->
    (do loadVar T (<-asAddr (a.tmps.getD t undef)):Sem Value).run X.P w = .ok u w:=by
   intro b o u e j;rw[e] at j |-;exact j
  cases A with
  | pureV _ _ hnd hnl h=>exact absurd rfl (hnl _ _)
  | pQ _ _ l i f r y n hx hl hy ha q hf=>
   have c:B8 st.env (.tmp t) = .ptr l i f:=hx;rw[c] at hv;obtain⟨u,m,p⟩:=h.pQ hv hl hy ha q hf;obtain⟨_,b,s,_,e⟩:=hv.cM;exact⟨u,key _ _ u e m,p⟩
  | pR _ _ l i f r y _ hx hl hy ha hf=>
   have c:B8 st.env (.tmp t) = .ptr l i f:=hx;rw[c] at hv;obtain⟨u,m,p⟩:=h.pR hv hl hy ha hf;obtain⟨_,b,s,_,e⟩:=hv.cM;exact⟨u,key _ _ u e m,p⟩
  | jN _ _ cs n hx ha q hf=>
   have c:B8 st.env (.tmp t) = .rptr cs:=hx;rw[c] at hv;obtain⟨u,m,p⟩:=h.jN hv ha q hf;obtain⟨b,o,_,e,_⟩:=hv.gM;exact⟨u,key _ _ u e m,p⟩
  | jO _ _ cs _ hx ha hf=>
   have c:B8 st.env (.tmp t) = .rptr cs:=hx;rw[c] at hv;obtain⟨u,m,p⟩:=h.jO hv ha hf;obtain⟨b,o,_,e,_⟩:=hv.gM;exact⟨u,key _ _ u e m,p⟩
theorem wB(h:u7 X g st a w):∀ {c:List ResultVar} {ds:List PV},Dy X.P st c ds ->
  ∃vs:List Value,(c.mapM (rn a.tmps)).run X.P w = .ok vs w/\vs.length=ds.length /\
   ∀(i:Nat) v d,vs[i]? = some v->ds[i]? = some d->Rd w g.imm g.μ st.p6 v d
 | [],[],_=>⟨[],rfl,rfl,λi v d hv=>by simp at hv⟩
 | r::c,d::ds,hr=>by
  obtain⟨v,j,m⟩:=Nx h hr.1;obtain⟨vs,k1,k2,p⟩:=wB h hr.2;refine⟨v::vs,?_,by simp[k2],λi q d' hv hd=>?_⟩
  .rw[List.mapM_cons,zy,j,zm,zy,k1,zm];rfl
  .cases i with
   | zero=>simp at hv hd;subst hv hd;exact m
   | succ i=>exact p i q d' (Ω hv) (Ω hd)
 | [],_::_,hr=>hr.elim
 | _::_,[],hr=>hr.elim
theorem Nw(h:u7 X g st a w){fn:Func}{ds:List PV}(hr:Dy X.P st fn.results.toList ds):∃v,(results fn a.tmps).run X.P w = .ok v w/\Rd w g.imm g.μ st.p6 v (ke ds):=by
 obtain⟨vs,k1,k2,j⟩:=wB h hr;have hm:(fn.results.mapM (rn a.tmps)).run X.P w = .ok vs.toArray w:=by
  rw[Array.mapM_eq_mapM_toList];simp only[<-bind_pure_comp];rw[zy,k1];rfl
 by_cases m:vs.length=1
 .match vs,m,k1,k2,j,hm with
  | [v],_,k1,k2,j,hm=>
   match ds,k2,j with
   | [d],_,j=>
    refine⟨v,?_,j 0 v d rfl rfl⟩;rw[lA,zy,hm];rfl
 .refine⟨.tuple vs.toArray,?_,?_⟩
  .rw[lA,zy,hm];simp only[zm];rw[dif_neg (Ω m)];rfl
  .have:ke ds = .tup ds:=by
    match ds,k2 with
    | [],_=>rfl
    | [d],k2=>simp at k2;exact absurd k2 m
    | _::_::_,_=>rfl
   rw[this];exact .tup _ _ (Ω k2) λi v c hv hc=>j i v c (Ω hv) hc
theorem qR{fn:Func}{tmps:Array Value}{R:Ending->World->Prop}{P:Program}{n:Nat}{base:Nat}{v:Value}:∀(m:List Nat) (w:World),m.Nodup ->
  (∀r∈m,w.heap[r]? = some (.deferred (some []))/\base<=r)->(∀w',nb base w w'->(∀(b o:Nat),w'.cell? ⟨b,o,none⟩=w.cell? ⟨b,o,none⟩/\w'.frozen? ⟨b,o,none⟩=w.frozen? ⟨b,o,none⟩)->w'.heap.size=w.heap.size->(∀(k:Nat) x,w.heap[k]? = some x->dS x=true->w'.heap[k]? = some x)->(results fn tmps).run P w' = .ok v w'/\R (.returned v) w') ->
  LeavesInM Fence.wide n P fn tmps R (m.map λr=>{ target:=.collected r,args:=#[] }) .returning w
 | [],w,_,_,A=>by
  obtain⟨h,p⟩:=A w (nb.refl _ _) (λ_ _=>⟨rfl,rfl⟩) rfl (λ_ _ q _=>q);exact⟨v,h,p⟩
 | r::m,w,hn,hm,A=>by
  rw[me] at hn;have hr:=hm r Ψ;have j:=(wp.1 hr.1).1;have hcell:∀b o,(w.putObj r (.deferred none)).cell? ⟨b,o,none⟩=w.cell? ⟨b,o,none⟩:=by
   intro b o;by_cases e:b=r
   .subst e;unfold World.cell?;simp only;rw[World.putObj_heap_same j,hr.1]
   .exact World.cell?_of_block Δg
  have c:∀b o,(w.putObj r (.deferred none)).frozen? ⟨b,o,none⟩=w.frozen? ⟨b,o,none⟩:=by
   intro b o;by_cases e:b=r
   .subst e;unfold World.frozen?;simp only;rw[World.putObj_heap_same j,hr.1]
   .unfold World.frozen?;simp only;rw[World.putObj_heap_other e]
  have hb:nb base w (w.putObj r (.deferred none)):=⟨⟨rfl,rfl,rfl,Ψ,λk hk=>World.putObj_heap_other Δ⟩,zC _⟩;refine⟨(by intro q;cases q),.inl ⟨r,w.putObj r (.deferred none),rfl,?_,qR (base:=base) (v:=v) m _ hn.2 (λk hk=>?_) λw' h p B C=>?_⟩⟩;·exact run_takeDeferred hr.1
  .rw[World.putObj_heap_other (λe=>hn.1 (by rw[<-e];exact hk))];exact hm k (by simp[hk])
  .exact A w' (hb.trans h) (λb o=>⟨(p b o).1.trans (hcell b o),(p b o).2.trans (c b o)⟩) (by rw[B];simp) (λk x hx hm=>C k x (by
    rw[World.putObj_heap_other (λe=>by rw[e,hr.1] at hx;cases hx;cases hm)];exact hx) hm)
theorem OY{P:Program}{f:FuncId}{fn:Func}{c:Code}{ds:List PV}{d:PV}(hf:P.funcs[f]? = some fn)(hb:fn.body=some c)(hn:ds.length<=fn.ntmps)(h6:fn.ntmps<=1000000)
  (h:∀X:Ctx,X.P=P->X.N=fn.ntmps->X.ρ=none->X.ext=(λ_=>undef)->X.obs = []->X.calm=false->aA X c (PC X (Fin P fn d)) ⟨O6 ds,λ_=>none⟩):cd P f ds d:=by
 intro w imm vs hlt hG hargs;let X:Ctx:={ P:=P,N:=fn.ntmps,ρ:=none,w0:=w,imm0:=imm,ext:=λ_=>undef,tab:=hG }
 let a0:Act:={ tmps:=vs++Array.replicate (fn.ntmps-vs.size) undef,defers:=[] }
 have hsim:u7 X ⟨imm,λ_=>⟨none,0,0,0⟩⟩ ⟨O6 ds,λ_=>none⟩ a0 w:=by
  refine⟨?_,λi=>?_,(λl r q=>Γ),(λl l' r r' _ q=>Γ),(λl r b o q=>Γ),hlt,λb o q=>.inl q,λb o q=>q,nb.refl _ _,⟨[],zb4,rfl,λr hr=>by cases hr⟩,λp hp=>(by cases hp),⟨h6,λ_=>rfl⟩,⟨λl r _ q=>Γ,λl l' r r' _ _ _ q=>Γ⟩⟩
  .have:=hargs.1;simp only[a0,X,zbt,Array.size_replicate];omega
  .by_cases q6:i<1000000
   rotate_left
   .simp only[a0,O6,Ctx.val,za q6,X];rw[zd,zab Δ];exact .cl (.tup #[] [] rfl λi v c _ hc=>Ωj)
   simp only[a0,O6,Ctx.val,zb q6];rw[zO,zd];rcases zI i vs.size with q | q
   .rw[qr q,zq q,zc ΩD];exact .cl (hargs.2 i _ _ (zq q) (zc ΩD))
   .rw[zaj q,zab ΩD,zbr];split;·exact .cl (.tup #[] [] rfl λi v c _ hc=>Ωj)
    .exact .cl (.tup #[] [] rfl λi v c _ hc=>Ωj)
 have key:∀(g:Gh) (st:St) (a:Act) (w':World),u7 X g st a w'->Fin P fn d st ->
   LeavesInM Fence.wide 0 P fn a.tmps (λe w'=>∃v,e = .returned v/\nb w.heap.size w w'/\Rd0 w' (jU imm w w') v d) a.defers .returning w':=by
  intro g st a w' hs hfin;obtain⟨H,hnd,hdef,hmk⟩:=hs.marks;rw[hdef];have hbase:∃v,∀w'',nb w.heap.size w' w''->(∀b o,w''.cell? ⟨b,o,none⟩=w'.cell? ⟨b,o,none⟩)->w''.heap.size=w'.heap.size->(∀(k:Nat) x,w'.heap[k]? = some x->dS x=true->w''.heap[k]? = some x) ->
    (results fn a.tmps).run P w'' = .ok v w''/\Rd0 w'' (jU imm w w'') v d:=by
   obtain⟨ds',G,hok,hd⟩:=hfin;obtain⟨v,hrun,hrd⟩:=Nw hs G;refine⟨v,λw'' hbl hc hz hmaps=>?_⟩;have hrun':(results fn a.tmps).run P w'' = .ok v w'':=by
    have same:∀(r:ResultVar) (u:Value),r∈fn.results.toList->(rn a.tmps r).run P w' = .ok u w'->(∃d',XI P st r d')->(rn a.tmps r).run P w'' = .ok u w'':=by
     rintro r u _ hu ⟨d',hr'⟩;cases r with
     | tmp t=>cases hu;rfl
     | cell t T=>
      have hr2:G4 P st.σ (B8 st.env) none (.load T (.tmp t)) d' .none:=hr';have B:=hs.QS t;have look:∀(b o:Nat),a.tmps.getD t undef = .pointer (some ⟨b,o,none⟩)->(loadVar T ⟨b,o,none⟩).run P w' = .ok u w' ->
        ((∃n,K5 P T=some true/\u5 P T=some n/\∀j,j<n->∃q,w'.cell? ⟨b,o+j,none⟩=some q)\/(K5 P T=some false/\∃q,w'.cell? ⟨b,o,none⟩=some q)) ->
        (rn a.tmps (.cell t T)).run P w'' = .ok u w'':=by
       intro b o e hl hcase;have goal:(loadVar T ⟨b,o,none⟩).run P w'' = .ok u w'':=by
        rcases hcase with ⟨n,A,F,S⟩ | ⟨A,q,S⟩
        .have e1:=ff (w:=w') A F (λj=>(w'.cell? ⟨b,o+j,none⟩).getD undef) (λj hj=>by obtain⟨q,V⟩:=S j hj;rw[V];rfl);have e2:=ff (w:=w'') A F (λj=>(w'.cell? ⟨b,o+j,none⟩).getD undef) (λj hj=>by obtain⟨q,V⟩:=S j hj;rw[hc,V];rfl);rw[e1] at hl;cases hl;exact e2
        .have e1:=fg (w:=w') A S;have e2:=fg (w:=w'') A (by rw[hc];exact S);rw[e1] at hl;cases hl;exact e2
       simp only[rn,e];exact goal
      have R:∀(b o:Nat),a.tmps.getD t undef = .pointer (some ⟨b,o,none⟩)->(loadVar T ⟨b,o,none⟩).run P w' = .ok u w':=by
       intro b o e;simp only[rn,e] at hu;exact hu
      cases hr2 with
      | pureV _ _ hnd hnl h=>exact absurd rfl (hnl _ _)
      | pQ _ _ l i f r y n m hl hy ha hsz hf=>
       have C:B8 st.env (.tmp t) = .ptr l i f:=m;rw[C] at B;obtain⟨_,b,s,hA,e⟩:=B.cM;refine look _ _ e (R _ _ e) (.inl ⟨n,ha,hsz,λj hj=>?_⟩);obtain⟨q,A,_⟩:=hs.lX hl hy (zc (show f+j<y.cells.length by omega)) hA;exact⟨q,by rw[t8 _ f j];exact A⟩
      | pR _ _ l i f r y _ m hl hy ha hf=>
       have C:B8 st.env (.tmp t) = .ptr l i f:=m;rw[C] at B;obtain⟨_,b,s,hA,e⟩:=B.cM;obtain⟨q,A,_⟩:=hs.lX hl hy hf hA;exact look _ _ e (R _ _ e) (.inr ⟨ha,q,A⟩)
      | jN _ _ cs n m ha hsz hf=>
       have C:B8 st.env (.tmp t) = .rptr cs:=m;rw[C] at B;obtain⟨b,o,q,e,_,V⟩:=B.gM;exact look _ _ e (R _ _ e) (.inl ⟨n,ha,hsz,λj hj=>⟨_,(V j _ (zc (show j<cs.length by omega))).2.1⟩⟩)
      | jO _ _ cs _ m ha hf=>
       have C:B8 st.env (.tmp t) = .rptr cs:=m;rw[C] at B;obtain⟨b,o,q,e,_,V⟩:=B.gM;exact look _ _ e (R _ _ e) (.inr ⟨ha,_,Ω ((V 0 _ hf).2.1)⟩)
    have all:∀(H:List ResultVar) (ds:List PV) (vs:List Value),(∀r∈H,r∈fn.results.toList)->Dy P st H ds->(H.mapM (rn a.tmps)).run P w' = .ok vs w'->(H.mapM (rn a.tmps)).run P w'' = .ok vs w'':=by
     intro H;induction H with
     | nil=>intro ds vs _ _ q;cases q;rfl
     | cons r H ih=>
      intro ds vs hm hr q;cases ds with
      | nil=>exact hr.elim
      | cons d' ds=>
       obtain⟨u,A,_⟩:=Nx (X:=X) hs hr.1;obtain⟨us,k1,_,_⟩:=wB (X:=X) hs hr.2;have h1':(rn a.tmps r).run P w' = .ok u w':=A;have k1':(H.mapM (rn a.tmps)).run P w' = .ok us w':=k1;rw[List.mapM_cons,zy,h1',zm,zy,k1',zm] at q;rw[List.mapM_cons,zy,same r u (hm r Ψ) h1' ⟨d',hr.1⟩,zm,zy,ih ds us (λr hr=>hm r (by simp[hr])) hr.2 k1',zm];cases q;rfl
    obtain⟨us,k1,k2,_⟩:=wB (X:=X) hs G;have k1':(fn.results.toList.mapM (rn a.tmps)).run P w' = .ok us w':=k1;have k3:=all fn.results.toList ds' us (λ_ q=>q) G k1';have hm:∀w0:World,(fn.results.toList.mapM (rn a.tmps)).run P w0 = .ok us w0->(fn.results.mapM (rn a.tmps)).run P w0 = .ok us.toArray w0:=by
     intro w0 q;rw[Array.mapM_eq_mapM_toList];simp only[<-bind_pure_comp];rw[zy,q];rfl
    have r1:(results fn a.tmps).run P w' = .ok v w':=hrun;rw[lA,zy,hm w' k1'] at r1;rw[lA,zy,hm w'' k3];simp only[zm] at r1 |-;cases r1;rfl
   refine⟨hrun',?_⟩;have hX2:Ext w' g.imm w' (jU imm w w'):=⟨λb o q=>by
    rcases hs.immsub b o q with q' | q'
    .exact .inl q'
    .exact .inr ⟨q',hs.immlt b o q⟩,λ_ _ _=>rfl,λ_ _ _ _ q _=>q⟩
   have hv2:=hs.view (imm2:=jU imm w w') hX2 hrd hok (λl _ r hl i x j y b s m hy hA=>by
    obtain⟨b',s',u,q1,q2,_,q4,_⟩:=(hs.rows l r hl).cell i x j y m hy;rw[hA] at q1;cases q1;by_cases hi:i<r.lo
    .exact hX2.im _ _ (q4 hi)
    .have:=hs.fz hl ((hs.rows l r hl).VJ m hy hA hi);exact .inr this)
   have hfin2:Rd0 w' (jU imm w w') v d:=by
    rcases hd with rfl | rfl
    .exact hv2
    .exact hv2.w3
   refine hfin2.mono ⟨λb o q=>?_,λb o _=>hc b o,λb o x q m hcl=>?_⟩
   .rcases q with q | ⟨q1,q2⟩
    .exact .inl q
    .exact .inr ⟨q1,Δ⟩
   .exact hmaps b x m hcl
  obtain⟨v,hv⟩:=hbase;exact qR H w' hnd hmk λw'' A F S h4=>⟨(hv w'' A (λb o=>(F b o).1) S h4).1,v,rfl,hs.below.trans A,(hv w'' A (λb o=>(F b o).1) S h4).2⟩
 have hcall:CallsIn Fence.wide 0 P f vs w λe w'=>∃v,e = .returned v/\nb w.heap.size w w'/\Rd0 w' (jU imm w w') v d:=by
  refine callsIn_of_wp_marks hf hb trivial ?_;refine zb1 (h X rfl rfl rfl rfl rfl rfl 0 _ a0 w hsim) λe a w' q=>?_;cases e <;> simp only[lift,PC] at q
  .obtain⟨_,g,st,A,_,hX,F⟩:=q;rw[hX] at A;exact key g st a w' A F
  .obtain⟨_,g,st,A,_,F⟩:=q;exact F.elim
  .obtain⟨_,g,st,A,_,F⟩:=q;exact F.elim
  .obtain⟨_,g,st,A,_,hX,F⟩:=q;rw[hX] at A;exact key g st a w' A F
 exact callsIn_wide.1 hcall
theorem KW{P:Program}{f:FuncId}{fn:Func}{c:Code}{ds:List PV}{r:Row}(hf:P.funcs[f]? = some fn)(hb:fn.body=some c)(hn:ds.length<=fn.ntmps)(h6:fn.ntmps<=1000000)
  (h:∀X:Ctx,X.P=P->X.N=fn.ntmps->X.ρ=none->X.ext=(λ_=>undef)->X.obs = []->X.calm=false->aA X c (PC X (NM P fn r)) ⟨O6 ds,λ_=>none⟩):og P f ds r:=by
 intro w imm vs hlt hG hargs;let X:Ctx:={ P:=P,N:=fn.ntmps,ρ:=none,w0:=w,imm0:=imm,ext:=λ_=>undef,tab:=hG }
 let R:Act:={ tmps:=vs++Array.replicate (fn.ntmps-vs.size) undef,defers:=[] }
 have hsim:u7 X ⟨imm,λ_=>⟨none,0,0,0⟩⟩ ⟨O6 ds,λ_=>none⟩ R w:=by
  refine⟨?_,λi=>?_,(λl r q=>Γ),(λl l' r r' _ q=>Γ),(λl r b o q=>Γ),hlt,λb o q=>.inl q,λb o q=>q,nb.refl _ _,⟨[],zb4,rfl,λr hr=>by cases hr⟩,λp hp=>(by cases hp),⟨h6,λ_=>rfl⟩,⟨λl r _ q=>Γ,λl l' r r' _ _ _ q=>Γ⟩⟩
  .have:=hargs.1;simp only[R,X,zbt,Array.size_replicate];omega
  .by_cases q6:i<1000000
   rotate_left
   .simp only[R,O6,Ctx.val,za q6,X];rw[zd,zab Δ];exact .cl (.tup #[] [] rfl λi v c _ hc=>Ωj)
   simp only[R,O6,Ctx.val,zb q6];rw[zO,zd];rcases zI i vs.size with q | q
   .rw[qr q,zq q,zc ΩD];exact .cl (hargs.2 i _ _ (zq q) (zc ΩD))
   .rw[zaj q,zab ΩD,zbr];split;·exact .cl (.tup #[] [] rfl λi v c _ hc=>Ωj)
    .exact .cl (.tup #[] [] rfl λi v c _ hc=>Ωj)
 have key:∀(g:Gh) (st:St) (a:Act) (w':World),u7 X g st a w'->NM P fn r st ->
   LeavesInM Fence.wide 0 P fn a.tmps (λe w'=>∃m:O0,e = .returned (.slice m.A m.n m.C)/\nb w.heap.size w w' /\
    qt w.heap.size w' (λb o=>jU imm w w' b o/\¬M1 m r b o) (λ_=>m) (λ_=>False) m r/\∀b o,M1 m r b o->w.heap.size<=b) a.defers .returning w':=by
  intro g st a w' hs V;obtain⟨rs,hnd,S,hmk⟩:=hs.marks;rw[S];obtain⟨t,l,hres,ht,hl,hcl⟩:=V;have hv:=hs.QS t;rw[ht] at hv;obtain⟨_,hv⟩:=hv.fC;have F:=hs.rows l r hl;have hrun:∀w0:World,(results fn a.tmps).run P w0 = .ok (.slice (g.μ l).A (g.μ l).n (g.μ l).C) w0:=by
   intro w0;rw[<-hv];simp only[results,hres,List.mapM_toArray,zy];rfl
  refine qR rs w' hnd hmk λw'' G B h3 h4=>⟨hrun w'',g.μ l,rfl,hs.below.trans G,?_,λb o ho=>(F.own b o ho).1⟩;have H:Ext w' g.imm w'' (λb o=>jU imm w w'' b o/\¬M1 (g.μ l) r b o):=by
   refine⟨λb o q=>⟨?_,λk=>hs.ownimm l r b o hl k q⟩,λb o _=>(B b o).1,λb o x q hx hcl=>h4 b x hx hcl⟩;rcases hs.immsub b o q with q' | q'
   .exact .inl q'
   .exact .inr ⟨q',by have:=hs.immlt b o q;omega⟩
  refine⟨F.n,F.z,F.C,F.lo,F.el,F.nil,F.spot,λi x j y hx hy=>?_,λb o ho=>?_⟩
  .obtain⟨b,s,u,k1,k2,_,k4,k5⟩:=F.cell i x j y hx hy;exact⟨b,s,u,k1,by rw[(B _ _).1];exact k2,.cl ((k5 hcl).mono H),λq=>H.im _ _ (k4 q),λ_=>(k5 hcl).mono H⟩
  .obtain⟨k1,k2,k3⟩:=F.own b o ho;exact⟨k1,by rw[(B _ _).1];exact k2,by rw[(B _ _).2];exact k3⟩
 have hcall:CallsIn Fence.wide 0 P f vs w λe w'=>∃m:O0,e = .returned (.slice m.A m.n m.C)/\nb w.heap.size w w' /\
    qt w.heap.size w' (λb o=>jU imm w w' b o/\¬M1 m r b o) (λ_=>m) (λ_=>False) m r/\∀b o,M1 m r b o->w.heap.size<=b:=by
  refine callsIn_of_wp_marks hf hb trivial ?_;refine zb1 (h X rfl rfl rfl rfl rfl rfl 0 _ R w hsim) λe a w' q=>?_;cases e <;> simp only[lift,PC] at q
  .obtain⟨_,g,st,G,_,H,B⟩:=q;rw[H] at G;exact key g st a w' G B
  .obtain⟨_,g,st,G,_,B⟩:=q;exact B.elim
  .obtain⟨_,g,st,G,_,B⟩:=q;exact B.elim
  .obtain⟨_,g,st,G,_,H,B⟩:=q;rw[H] at G;exact key g st a w' G B
 exact callsIn_wide.1 hcall
end
end Go.Pw
namespace Go.Pw
open Go.RowKit
def Wk(s s':St):Prop:=∀(X:Ctx) (g:Gh) (a:Act) (w:World),u7 X g s a w->∃c,u7 X c s' a w
theorem Wk.refl(s:St):Wk s s:=λX g a w h=>⟨g,h⟩
theorem Wk.trans{s s' s'':St}(h:Wk s s')(k:Wk s' s''):Wk s s'':=λX g a w q=>by
 obtain⟨c,j⟩:=h X g a w q;exact k X c a w j
theorem de{X:Ctx}{c:Code}{Q:PX->Ctx->St->Prop}{st st':St}(h:Wk st st')(hc:aA X c Q st'):aA X c Q st:=λn g a w hs=>by
 obtain⟨m,j⟩:=h X g a w hs;exact hc n m a w j
theorem HH(s:St)(ls:List Nat):Wk s ⟨s.env,V1 s.σ ls⟩:=λX g a w h=>by
 obtain⟨imm',c,_⟩:=h.V1 ls;exact⟨_,c⟩
theorem iO{s:St}{t l z:Nat}(ht:s.env t = .lst true [])(hl:s.σ l=none)(j:l<MB:=by exact zP rfl):Wk s ⟨A3 s.env t (.sl l),A3 s.σ l (some ⟨[],0,true,z,true⟩)⟩:=λX g a w h=>by
 have hv:=h.env t;rw[ht] at hv;obtain⟨A,c,F,u,e,B,p,C,_⟩:=hv.gp;have hc:=p rfl;simp only[zag] at hc e;subst hc;have hs:=h.wH (l:=l) (A:=A) (xs:=[]) (z:=z) j hl (λ_=>rfl) (λ_ q=>Γ) (λq=>absurd q (zb0 _)) true;refine⟨_,⟨hs.size,λi=>?_,hs.rows,hs.disj,hs.ownimm,hs.immlt,hs.immsub,hs.immsup,hs.below,hs.marks,hs.obs,hs.big,hs.maps⟩⟩;by_cases q:i=t
 .subst q;rw[show (St.mk (A3 s.env i (.sl l)) (A3 s.σ l (some ⟨[],0,true,z,true⟩))).env i = .sl l from p7 _ _ _,e];exact gO (m:=⟨A,0,0,z⟩) ⟨_,p7 _ _ _⟩ (p7 _ _ _)
 .rw[show (St.mk (A3 s.env t (.sl l)) (A3 s.σ l (some ⟨[],0,true,z,true⟩))).env i=s.env i from o0 _ _ q];exact hs.env i
def PV.Hj(π:Nat->Nat):PV->PV
 | .sl l=>.sl (π l)
 | .mp l=>.mp (π l)
 | .ptr l i f=>.ptr (π l) i f
 | d=>d
def PV.wz(π:Nat->Nat):PV->PV
 | .fn f cap=>.fn f (cap.map (PV.Hj π))
 | d=>d.Hj π
def PV.Dw(π:Nat->Nat):PV->PV
 | .agg cs=>.agg (cs.map (PV.wz π))
 | d=>d.wz π
def PV.CD:PV->List Nat
 | .sl l=>[l]
 | .mp l=>[l]
 | .ptr l _ _=>[l]
 | _=>[]
def PV.Jx:PV->List Nat
 | .fn _ cap=>cap.flatMap PV.CD
 | d=>d.CD
def PV.refs:PV->List Nat
 | .agg cs=>cs.flatMap PV.Jx
 | d=>d.Jx
section
variable{w:World}{imm:Nat->Nat->Prop}{μ μ':Nat->O0}{p6 pres':Nat->Prop}{π:Nat->Nat}
theorem Rd.Oq{v:Value}{d:PV}(h:Rd w imm μ p6 v d)(c:∀l,d ≠ .sl l)(j:∀l i f,d ≠ .ptr l i f)(m:∀cs,d ≠ .agg cs)(p:∀f cap,d ≠ .fn f cap)(q:∀cs,d ≠ .tup cs)(A:∀l,d ≠ .mp l):Rd w imm μ' pres' v d:=by
 cases h with
 | cl h=>exact .cl h
 | agg vs cs=>exact absurd rfl (m cs)
 | tup vs cs=>exact absurd rfl (q cs)
 | fn f vs cap=>exact absurd rfl (p f cap)
 | sl l=>exact absurd rfl (c l)
 | mp l=>exact absurd rfl (A l)
 | ptr l i f=>exact absurd rfl (j l i f)
theorem Rd.Hj{v:Value}{d:PV}(ht:∀cs,d ≠ .tup cs)(ha:∀cs,d ≠ .agg cs)(hf:∀f cap,d ≠ .fn f cap)(h:Rd w imm μ p6 v (d.Hj π))(hr:∀l∈d.CD,pres' l/\μ' l=μ (π l)/\(MB<=π l->MB<=l)):Rd w imm μ' pres' v d:=by
 by_cases c:∃l,d = .sl l
 .obtain⟨l,rfl⟩:=c;have h':Rd w imm μ p6 v (.sl (π l)):=h;obtain⟨_,rfl⟩:=h'.fC;obtain⟨k1,k2,_⟩:=hr l (by simp[PV.CD]);rw[<-k2];exact .sl l k1
 by_cases j:∃l i f,d = .ptr l i f
 .obtain⟨l,i,f,rfl⟩:=j;have h':Rd w imm μ p6 v (.ptr (π l) i f):=h;obtain⟨_,b,s,hA,rfl⟩:=h'.cM;obtain⟨k1,k2,_⟩:=hr l (by simp[PV.CD]);rw[<-k2] at hA |-;exact .ptr l i f b s k1 hA
 by_cases m:∃l,d = .mp l
 .obtain⟨l,rfl⟩:=m;have h':Rd w imm μ p6 v (.mp (π l)):=h;obtain⟨_,p,b,hA,rfl⟩:=h'.Cm;obtain⟨k1,k2,A⟩:=hr l (by simp[PV.CD]);exact .mp l b k1 (A p) (by rw[k2];exact hA)
 .have e:d.Hj π=d:=by cases d <;> first | rfl | exact absurd ⟨_,rfl⟩ c | exact absurd ⟨_,_,_,rfl⟩ j | exact absurd ⟨_,rfl⟩ m
  rw[e] at h;exact h.Oq (λl q=>c ⟨l,q⟩) (λl i f q=>j ⟨l,i,f,q⟩) ha hf ht λl q=>m ⟨l,q⟩
theorem Rd.wz{v:Value}{d:PV}(ht:∀cs,d ≠ .tup cs)(ha:∀cs,d ≠ .agg cs)(hc:∀f cap,d = .fn f cap->∀y∈cap,(∀cs,y ≠ .tup cs)/\(∀cs,y ≠ .agg cs)/\∀f cap,y ≠ .fn f cap)
  (h:Rd w imm μ p6 v (d.wz π))(hr:∀l∈d.Jx,pres' l/\μ' l=μ (π l)/\(MB<=π l->MB<=l)):Rd w imm μ' pres' v d:=by
 by_cases m:∃f cap,d = .fn f cap
 .obtain⟨f,cap,rfl⟩:=m;have h':Rd w imm μ p6 v (.fn f (cap.map (PV.Hj π))):=h;obtain⟨vs,rfl,hn,hk⟩:=mN h';refine .fn f vs cap (Ω hn) λi v c hv j=>?_;have hm:=zk j;obtain⟨A,B,C⟩:=hc f cap rfl c hm;exact (hk i v _ hv (by rw[zD,j];rfl)).Hj A B C λl hl=>hr l (zae.2 ⟨c,hm,hl⟩)
 .have e:d.wz π=d.Hj π:=by cases d <;> first | rfl | exact absurd ⟨_,_,rfl⟩ m
  have p:d.Jx=d.CD:=by cases d <;> first | rfl | exact absurd ⟨_,_,rfl⟩ m
  rw[e] at h;rw[p] at hr;exact h.Hj ht ha (λf cap q=>m ⟨f,cap,q⟩) hr
def Ms:PV->Bool
 | .fn _ cap=>cap.all λy=>match y with | .tup _ | .agg _ | .fn .. => false | _=>true
 | _=>true
def wA:PV->Bool
 | .tup _=>false
 | .agg cs=>cs.all Ms
 | d=>Ms d
theorem tR{d:PV}(h:Ms d=true):∀f cap,d = .fn f cap->∀y∈cap,(∀cs,y ≠ .tup cs)/\(∀cs,y ≠ .agg cs)/\∀f cap,y ≠ .fn f cap:=by
 rintro f cap rfl y hy;have:=zg.1 h y hy;refine⟨λcs e=>?_,λcs e=>?_,λf cap e=>?_⟩ <;> (subst e;cases this)
theorem Rd.Dw{v:Value}{d:PV}(hok:wA d=true)(h:Rd w imm μ p6 v (d.Dw π))(hr:∀l∈d.refs,pres' l/\μ' l=μ (π l)/\(MB<=π l->MB<=l)):Rd w imm μ' pres' v d:=by
 by_cases m:∃cs,d = .agg cs
 .obtain⟨cs,rfl⟩:=m;have h':Rd w imm μ p6 v (.agg (cs.map (PV.wz π))):=h;obtain⟨vs,rfl,hn,hk⟩:=h'.iT;have hsc:=h'.Kq;simp only[wA,zg] at hok;rw[zg] at hsc;have j:∀c∈cs,c.sc=true:=λc hc=>by
   have:=hsc (c.wz π) (zn.2 ⟨c,hc,rfl⟩);cases c <;> first | rfl | exact this
  refine .agg vs cs (zg.2 j) (Ω hn) λi v c hv hc=>?_;have hm:=zk hc;refine (hk i v _ hv (by rw[zD,hc];rfl)).wz (λes q=>?_) (λes q=>?_) (tR (hok c hm)) λl hl=>hr l (zae.2 ⟨c,hm,hl⟩);·have:=j c hm;rw[q] at this;cases this
  .have:=j c hm;rw[q] at this;cases this
 .have e:d.Dw π=d.wz π:=by cases d <;> first | rfl | exact absurd ⟨_,rfl⟩ m
  have p:d.refs=d.Jx:=by cases d <;> first | rfl | exact absurd ⟨_,rfl⟩ m
  have A:∀cs,d ≠ .tup cs:=λcs q=>by subst q;cases hok
  have B:Ms d=true:=by cases d <;> first | exact hok | exact absurd ⟨_,rfl⟩ m | cases hok
  rw[e] at h;rw[p] at hr;exact h.wz A (λcs q=>m ⟨cs,q⟩) (tR B) hr
end
def MA(L:List (Nat × PV)):Nat->PV:=λi=>(L.lookup i).getD .junk
def rowsOf(R:List (Nat × Row)):Nat->Option Row:=λi=>R.lookup i
def St.of(L:List (Nat × PV))(R:List (Nat × Row)):St:=⟨MA L,rowsOf R⟩
theorem fv{α:Type}{L:List (Nat × α)}{i:Nat}{x:α}(h:L.lookup i=some x):(i,x)∈L:=by
 induction L with
 | nil=>cases h
 | cons p L ih=>
  obtain⟨k,y⟩:=p;rw[List.lookup_cons] at h;split at h
  .rename_i q;have:i=k:=by simpa using q
   subst this;cases h;exact zh ..
  .exact zw _ (ih h)
def okM(l m:Nat)(c j:Bool):Bool:=(decide (MB<=l)==decide (MB<=m))&&(decide (l<MB)||c==j)
def qs(π:Nat->Nat)(R:List (Nat × Row))(σ:Nat->Option Row)(p:Nat × Row):Prop:=
 ∃r,σ (π p.1)=some r/\okM p.1 (π p.1) r.cl p.2.cl=true/\r.z=p.2.z/\r.lo=p.2.lo/\(p.2.opn=true->r.opn=true)/\(p.2.cl=true->r.cl=true\/r.els.all (λx=>x.cells.all PV.Z1)=true) /\
  ((p.2.cl=true/\r.els=p.2.els)\/(p.2.cl=false/\r.els=p.2.els.map (PV.Dw π)/\p.2.els.all wA=true/\(p.2.els.flatMap PV.refs).all (λl=>(R.lookup l).isSome)=true))
theorem NJ{s:St}(π:Nat->Nat)(L:List (Nat × PV))(R:List (Nat × Row))(he:∀p∈L,s.env p.1=p.2.Dw π/\wA p.2=true/\p.2.refs.all (λl=>(R.lookup l).isSome)=true)
  (hr:∀p∈R,qs π R s.σ p)(hi:∀p∈R,∀q∈R,π p.1=π q.1->p.1=q.1):∀(X:Ctx) (g:Gh) (a:Act) (w:World),u7 X g s a w->u7 X ⟨g.imm,λl=>g.μ (π l)⟩ (St.of L R) a w:=by
 intro X g a w h;have hget:∀l r',rowsOf R l=some r'->qs π R s.σ (l,r'):=λl r' q=>hr _ (fv q);have F:∀l r',rowsOf R l=some r'->(MB<=l↔MB<=π l)/\(MB<=l->∃r,s.σ (π l)=some r/\r.cl=r'.cl/\(∀es,r.els = [.mapc es]->r'.els = [.mapc es])):=λl r' q=>by
  obtain⟨r,h1,N,_,_,_,_,m⟩:=hget l r' q;simp only[okM,zB,zak,zbx,decide_eq_true_eq,zcg] at N;refine⟨N.1,λh=>⟨r,h1,N.2.elim (λk=>absurd h (Nat.not_le.2 k)) id,λes he=>?_⟩⟩;rcases m with ⟨_,m⟩ | ⟨_,m,_⟩;·exact m▸he
  .simp only at m;rw[he] at m;match hq:r'.els with
   | []=>rw[hq] at m;simp at m
   | _::_::_=>rw[hq] at m;simp at m
   | [x]=>
    rw[hq] at m;simp only[zT,zc0,List.cons.injEq,and_true] at m;cases x <;> first | (cases m;rfl) | cases m
 have hx:∀(l:Nat),(R.lookup l).isSome=true->St.p6 (St.of L R) l/\g.μ (π l)=g.μ (π l)/\(MB<=π l->MB<=l):=λl q=>by
  obtain⟨r,hr⟩:=zal.1 q;exact⟨⟨r,hr⟩,rfl,(F l r hr).1.2⟩
 have G:∀l r' r,r.els.length=r'.els.length->r.z=r'.z->r.lo=r'.lo->(r'.opn=true->r.opn=true)->∀b o,M1 (g.μ (π l)) r' b o->s.σ (π l)=some r->M1 (g.μ (π l)) r b o:=by
  rintro l r' r h1 N h3 h4 b o ⟨s',hA,k1,k2⟩ hl;refine⟨s',hA,by rw[h3];exact k1,?_⟩;have hC:=(h.rows _ r hl).C;have:(if r'.opn then (g.μ (π l)).C else (g.μ (π l)).n)*(g.μ (π l)).z<=(if r.opn then (g.μ (π l)).C else (g.μ (π l)).n)*(g.μ (π l)).z:=zp _ (by
   cases q:r'.opn;·simp only[zM,pu];split <;> omega
   .rw[h4 q];exact zC _)
  omega
 have hlen:∀l r',rowsOf R l=some r'->∃r,s.σ (π l)=some r/\r.els.length=r'.els.length/\r.z=r'.z/\r.lo=r'.lo/\(r'.opn=true->r.opn=true):=by
  intro l r' q;obtain⟨r,h1,_,N,h3,h4,_,m⟩:=hget l r' q;refine⟨r,h1,?_,N,h3,h4⟩;rcases m with ⟨_,m⟩ | ⟨_,m,_⟩;·rw[m]
  .rw[m];simp
 refine⟨h.size,λi=>?_,λl r' q=>?_,λl l' r r' hne q q' b o ho=>?_,λl r' b o q ho=>?_,h.immlt,h.immsub,h.immsup,h.below,h.marks,h.obs,h.big,⟨λl r' hl q=>?_,λl l' r r' hl A hne q q' hc=>?_⟩⟩
 .show Rd w g.imm (λl=>g.μ (π l)) (St.p6 (St.of L R)) _ ((L.lookup i).getD .junk);cases hq:L.lookup i with
  | none=>exact .cl (.junk _)
  | some d=>
   obtain⟨k1,k2,H⟩:=he (i,d) (fv hq);have hv:=h.env i;rw[k1] at hv;exact hv.Dw k2 λl hl=>hx l (zg.1 H l hl)
 .obtain⟨r,h1,_,N,h3,h4,h5,m⟩:=hget l r' q;simp only at h1 N h3 h4 h5 m;have S:=h.rows _ r h1;obtain⟨_,_,hl,_⟩:=hlen l r' q;have hl2:r.els.length=r'.els.length:=by
   rcases m with ⟨_,m⟩ | ⟨_,m,_⟩;·rw[m]
   .rw[m];simp
  have hcellz:∀(d:PV),(d.Dw π).cells.length=d.cells.length:=λd=>by
   cases d <;> first | rfl | simp[PV.Dw,PV.cells]
  have helz:∀(d:PV),(d.Dw π).el=true->d.el=true:=λd=>by
   cases d <;> first | exact λq=>q | skip
   intro q;simp only[PV.Dw,PV.el,zg] at q |-;intro c hc;have:=q (c.wz π) (zn.2 ⟨c,hc,rfl⟩);cases c <;> first | rfl | exact this
  refine⟨by rw[<-hl2];exact S.n,by rw[<-N];exact S.z,S.C,by rw[<-h3];exact S.lo,λx B=>?_,S.nil,S.spot,λi x j y B hy=>?_,λb o ho=>S.own b o (G l r' r hl2 N h3 h4 b o ho h1)⟩
  .rcases m with ⟨_,m⟩ | ⟨_,m,_⟩;·rw[<-N];exact S.el x (by rw[m];exact B)
   .have:=S.el (x.Dw π) (by rw[m];exact zn.2 ⟨x,B,rfl⟩);exact⟨helz x this.1,by rw[<-hcellz,<-N];exact this.2⟩
  .rcases m with ⟨hc,m⟩ | ⟨hnc,m,h7,h8⟩
   .obtain⟨b,s',u,k1,k2,H,V,k5⟩:=S.cell i x j y (by rw[m];exact B) hy;have k6:Rd0 w g.imm u y:=(h5 hc).elim k5 λq=>H.Z1 (zg.1 (zg.1 (m▸q) x (zk B)) y (zk hy));exact⟨b,s',u,k1,k2,.cl k6,by rw[<-h3];exact V,λ_=>k6⟩
   .have hm:=zk B;have hxr:r.els[i]? = some (x.Dw π):=by rw[m,zD,B];rfl
    have hok:=zg.1 h7 x hm;have hrefs:∀l'∈x.refs,(R.lookup l').isSome=true:=λl' A=>zg.1 h8 l' (zae.2 ⟨x,hm,A⟩);have hyr:∃y',(x.Dw π).cells[j]? = some y'/\∀v,Rd w g.imm g.μ s.p6 v y'->Rd w g.imm (λl=>g.μ (π l)) (St.p6 (St.of L R)) v y:=by
     by_cases e:∃cs,x = .agg cs
     .obtain⟨cs,rfl⟩:=e;have hy':cs[j]? = some y:=hy;refine⟨y.wz π,by show (cs.map (PV.wz π))[j]? = _;rw[zD,hy'];rfl,λv hv=>?_⟩;have hmy:=zk hy';simp only[wA,zg] at hok;have hel:=helz _ (S.el _ (zk hxr)).1;have hsc:=PV.qE hel y (by exact hmy);exact hv.wz (λes q=>by rw[q] at hsc;cases hsc) (λes q=>by rw[q] at hsc;cases hsc) (tR (hok y hmy)) λl' A=>hx l' (hrefs l' (zae.2 ⟨y,hmy,A⟩))
     .have hxc:x.cells = [x]:=by cases x <;> first | rfl | exact absurd ⟨_,rfl⟩ e | cases hy
      rw[hxc] at hy;have hj:j=0/\y=x:=by
       cases j with
       | zero=>simp at hy;exact⟨rfl,hy.symm⟩
       | succ j=>simp at hy
      obtain⟨rfl,rfl⟩:=hj;have hrc:(y.Dw π).cells = [y.Dw π]:=by cases y <;> first | rfl | exact absurd ⟨_,rfl⟩ e | cases hxc
      exact⟨y.Dw π,by rw[hrc];rfl,λv hv=>hv.Dw hok λl' A=>hx l' (hrefs l' A)⟩
    obtain⟨y',hy',hrd⟩:=hyr;obtain⟨b,s',u,k1,k2,H,V,k5⟩:=S.cell i (x.Dw π) j y' hxr hy';exact⟨b,s',u,k1,k2,hrd u H,by rw[<-h3];exact V,λq'=>by rw[hnc] at q';cases q'⟩
 .obtain⟨r0,k0,k1,k2,H,V⟩:=hlen l r q;obtain⟨r1,m0,m1,m2,m3,m4⟩:=hlen l' r' q';exact λk=>h.disj (π l) (π l') r0 r1 (λe=>hne (hi (l,r) (fv q) (l',r') (fv q') e)) k0 m0 b o (G l r r0 k1 k2 H V b o ho k0) (G l' r' r1 m1 m2 m3 m4 b o k m0)
 .obtain⟨r0,k0,k1,k2,H,V⟩:=hlen l r' q;exact h.ownimm (π l) r0 b o k0 (G l r' r0 k1 k2 H V b o ho k0)
 .obtain⟨k1,k2⟩:=F l r' q;obtain⟨r,H,V,k5⟩:=k2 hl;obtain⟨b,es,m1,m2,m3,m4,m5,m6⟩:=h.maps.at_ (π l) r (k1.1 hl) H;exact⟨b,es,k5 es m1,m2,m3,m4,λc=>m5 (by rw[V];exact c),λc=>m6 (by rw[V];exact c)⟩
 .obtain⟨k1,k2⟩:=F l r q;obtain⟨k1',k2'⟩:=F l' r' q';obtain⟨r0,H,V,_⟩:=k2 hl;obtain⟨r1,k3',k4',_⟩:=k2' A;exact h.maps.apart (π l) (π l') r0 r1 (k1.1 hl) (k1'.1 A) (λe=>hne (hi (l,r) (fv q) (l',r') (fv q') e)) H k3' (by rw[V];exact hc)
theorem a0d{s:St}(π:Nat->Nat)(L:List (Nat × PV))(R:List (Nat × Row))(he:∀p∈L,s.env p.1=p.2.Dw π/\wA p.2=true/\p.2.refs.all (λl=>(R.lookup l).isSome)=true)
  (hr:∀p∈R,qs π R s.σ p)(hi:∀p∈R,∀q∈R,π p.1=π q.1->p.1=q.1):Wk s (St.of L R):=λX g a w h=>⟨_,NJ π L R he hr hi X g a w h⟩
end Go.Pw
namespace Go.Pw
open Go.RowKit
def Ex(P:Program)(ops:Array Oper)(bar:List Nat)(dr:Bool):Nat->List Oper->St->(St->Prop)->Prop
 | _,[],st,K=>K st
 | i,o::os,st,K=>∃s,TL P ops dr (kept bar) (cls bar i o.op) o st s/\Ex P ops bar dr (i+1) os s K
theorem CO{P:Program}{bar:List Nat}{dr:Bool}{K:St->Prop}{ops:Array Oper}:∀(os:List Oper) (i:Nat) (st:St),(∀j,os[j]? = ops[i+j]?)->Ex P ops bar dr i os st K->∃s,HS P ops bar dr (List.range' i os.length) st s/\K s
 | [],_,st,_,h=>⟨st,rfl,h⟩
 | o::os,i,st,hi,h=>by
  obtain⟨s,c,m⟩:=h;obtain⟨s',k1,k2⟩:=CO os (i+1) s (λj=>ΩN) m;exact⟨s',⟨o,s,by have:=hi 0;simpa using this.symm,c,k1⟩,k2⟩
section
variable{X:Ctx}{Q:PX->Ctx->St->Prop}{st:St}
theorem qX{id:Nat}{l:List Oper}(bar:List Nat)(hm:X.P.follows .mixedOrders=true)(hd:jg X.N l.toArray=true)(hr:tH l.toArray bar (Region.before l.toArray)=true)
  (h:Ex X.P l.toArray bar true 0 l st (Q .normal X)):aA X (.region id l.toArray true) Q st:=by
 refine Wj bar hm hd hr ?_;have:=CO (ops:=l.toArray) l 0 st (λj=>Ψ) h;simpa[List.range_eq_range'] using this
variable{P:Program}{ops:Array Oper}{bar:List Nat}{dr:Bool}{i:Nat}{os:List Oper}{K:St->Prop}{env:Nat->PV}{σ:Nat->Option Row}
variable {t:Tmp}{op:Op}{ty:TypeId}{after:Array Edge}{gd:Option (Nat × Bool)}{r:Row}
theorem HJ{pos:String}(hw:C9 ops env ⟨some t,op,ty,pos,after,gd⟩=some false)
  (k:Ex P ops bar dr (i+1) os ⟨A3 env t (.tup []),σ⟩ K):Ex P ops bar dr i (⟨some t,op,ty,pos,after,gd⟩::os) ⟨env,σ⟩ K:=⟨_,.skip hw,k⟩
theorem x0{pos:String}{d:PV}(hw:C9 ops env ⟨some t,op,ty,pos,after,gd⟩=some true)
  (h:G4 P σ (B8 env) (some t) op d .none)(hc:dr=true->fY (cls bar i op) .none (∀σ',H4 (kept bar) σ σ'->G4 P σ' (B8 env) (some t) op d .none))(k:Ex P ops bar dr (i+1) os ⟨A3 env t d,σ⟩ K) :
  Ex P ops bar dr i (⟨some t,op,ty,pos,after,gd⟩::os) ⟨env,σ⟩ K:=⟨_,.run d .none hw h ⟨I8.refl _,H4.refl _⟩ trivial (λ_=>rfl) hc,k⟩
theorem x7{pos:String}{d:PV}(hw:C9 ops env ⟨some t,op,ty,pos,after,gd⟩=some true)
  (h:∀σ',H4 (kept bar) σ σ'->G4 P σ' (B8 env) (some t) op d .none)(c:cls bar i op=7)(k:Ex P ops bar dr (i+1) os ⟨A3 env t d,σ⟩ K) :
  Ex P ops bar dr i (⟨some t,op,ty,pos,after,gd⟩::os) ⟨env,σ⟩ K:=⟨_,.run d .none hw (h σ (H4.refl _)) ⟨I8.refl _,H4.refl _⟩ trivial (λ_=>rfl) (λ_=>by rw[c];exact⟨rfl,h⟩),k⟩
theorem x1{pos:String}{d:PV}(hw:C9 ops env ⟨some t,op,ty,pos,after,gd⟩=some true)
  (h:G4 P σ (B8 env) (some t) op d (.new t r))(hf:σ t=none)(ht:dr=true->(aj.new t r).off (kept bar)=true)(hc:dr=true->fY (cls bar i op) (.new t r) (∀σ',H4 (kept bar) σ σ'->G4 P σ' (B8 env) (some t) op d (.new t r)))(k:Ex P ops bar dr (i+1) os ⟨A3 env t d,A3 σ t (some r)⟩ K) :
  Ex P ops bar dr i (⟨some t,op,ty,pos,after,gd⟩::os) ⟨env,σ⟩ K:=⟨_,.run d (.new t r) hw h ⟨I8.refl _,H4.refl _⟩ hf ht hc,k⟩
theorem XF{pos:String}{l j f:Nat}{cs es:List PV}{q:Row}{x x':PV}{cl:Bool}(hw:C9 ops env ⟨none,op,ty,pos,after,gd⟩=some true)
  (h:G4 P σ (B8 env) none op (.tup []) (.sto l j f cs))(hl:σ l=some q)(hx:q.els[j]? = some x)(hlo:q.lo<=j)(hf:f+cs.length<=x.cells.length)(hsc:cs.all PV.sc=true)(hcl:(q.cl&&cs.all PV.Z1)=cl)
  (he:K8 x f cs=x')(c:q.els.set j x'=es)(ht:dr=true->(aj.sto l j f cs).off (kept bar)=true)(hc:dr=true->fY (cls bar i op) (.sto l j f cs) (∀σ',H4 (kept bar) σ σ'->G4 P σ' (B8 env) none op (.tup []) (.sto l j f cs)))(k:Ex P ops bar dr (i+1) os ⟨env,A3 σ l (some ⟨es,q.lo,q.opn,q.z,cl⟩)⟩ K) :
  Ex P ops bar dr i (⟨none,op,ty,pos,after,gd⟩::os) ⟨env,σ⟩ K:=by
 refine⟨_,.run (.tup []) (.sto l j f cs) hw h ⟨I8.refl _,H4.refl _⟩ ⟨q,x,hl,hx,hlo,hf,hsc⟩ ht hc,?_⟩;subst he;subst c;subst hcl;simp only[aj.apply,hl,hx];exact k
theorem a1t{pos:String}{d:PV}{s:Nat}{q:Row}(hw:C9 ops env ⟨some t,op,ty,pos,after,gd⟩=some true)
  (h:G4 P σ (B8 env) (some t) op d (.app s t r))(hf:σ t=none)(c:σ s=some q)(ho:q.opn=true)(ht:dr=true->(aj.app s t r).off (kept bar)=true)(hc:dr=true->fY (cls bar i op) (.app s t r) (∀σ',H4 (kept bar) σ σ'->G4 P σ' (B8 env) (some t) op d (.app s t r)))
  (k:Ex P ops bar dr (i+1) os ⟨A3 env t d,A3 (A3 σ s (some ⟨q.els,q.els.length,false,q.z,q.cl⟩)) t (some r)⟩ K) :
  Ex P ops bar dr i (⟨some t,op,ty,pos,after,gd⟩::os) ⟨env,σ⟩ K:=by
 refine⟨_,.run d (.app s t r) hw h ⟨I8.refl _,H4.refl _⟩ ⟨hf,q,c,ho⟩ ht hc,?_⟩;simp only[aj.apply,c];exact k
theorem a1u{pos:String}{d:PV}(hw:C9 ops env ⟨some t,op,ty,pos,after,gd⟩=some true)
  (h:G4 P σ (B8 env) (some t) op d (.oe []))(hc:dr=true->fY (cls bar i op) (.oe []) (∀σ',H4 (kept bar) σ σ'->G4 P σ' (B8 env) (some t) op d (.oe [])))(k:Ex P ops bar dr (i+1) os ⟨A3 env t d,σ⟩ K) :
  Ex P ops bar dr i (⟨some t,op,ty,pos,after,gd⟩::os) ⟨env,σ⟩ K:=⟨_,.run d (.oe []) hw h ⟨I8.refl _,H4.refl _⟩ trivial (λ_=>rfl) hc,k⟩
theorem a0e{pos:String}{d:PV}(hw:C9 ops env ⟨some t,op,ty,pos,after,gd⟩=some true)
  (h:G4 P σ (B8 env) (some t) op d (.frzN [] t r))(hf:σ t=none)(ht:dr=true->(aj.frzN [] t r).off (kept bar)=true)(hc:dr=true->fY (cls bar i op) (.frzN [] t r) (∀σ',H4 (kept bar) σ σ'->G4 P σ' (B8 env) (some t) op d (.frzN [] t r)))(k:Ex P ops bar dr (i+1) os ⟨A3 env t d,A3 σ t (some r)⟩ K) :
  Ex P ops bar dr i (⟨some t,op,ty,pos,after,gd⟩::os) ⟨env,σ⟩ K:=⟨_,.run d (.frzN [] t r) hw h ⟨I8.refl _,H4.refl _⟩ hf ht hc,k⟩
end
theorem Sz{P:Program}{f:FuncId}{fn:Func}{c:Code}{ds:List PV}{d:PV}{N:Nat}(hf:P.funcs[f]? = some fn)(hb:fn.body=some c)(A:fn.ntmps=N)(hn:ds.length<=N)
  (h:∀(w0:WG P) imm0,aA { P:=P,N:=N,ρ:=none,w0:=w0.1,imm0:=imm0,tab:=w0.2 } c (PC { P:=P,N:=N,ρ:=none,w0:=w0.1,imm0:=imm0,tab:=w0.2 } (Fin P fn d)) ⟨O6 ds,λ_=>none⟩)(C:N<=1000000:=by exact zP rfl):cd P f ds d:=by
 refine OY hf hb (by rw[A];exact hn) (by rw[A];exact C) ?_;rintro⟨P',N',ρ',w0,imm0,ext,obs,calm,tab⟩ B p q j m hcalm;simp only at B p q j m hcalm;subst B p q j m hcalm A;exact h ⟨w0,tab⟩ imm0
theorem OX{P:Program}{f:FuncId}{fn:Func}{c:Code}{ds:List PV}{r:Row}{N:Nat}(hf:P.funcs[f]? = some fn)(hb:fn.body=some c)(A:fn.ntmps=N)(hn:ds.length<=N)
  (h:∀(w0:WG P) imm0,aA { P:=P,N:=N,ρ:=none,w0:=w0.1,imm0:=imm0,tab:=w0.2 } c (PC { P:=P,N:=N,ρ:=none,w0:=w0.1,imm0:=imm0,tab:=w0.2 } (NM P fn r)) ⟨O6 ds,λ_=>none⟩)(C:N<=1000000:=by exact zP rfl):og P f ds r:=by
 refine KW hf hb (by rw[A];exact hn) (by rw[A];exact C) ?_;rintro⟨P',N',ρ',w0,imm0,ext,obs,calm,tab⟩ B p q j m hcalm;simp only at B p q j m hcalm;subst B p q j m hcalm A;exact h ⟨w0,tab⟩ imm0
variable {Q:PX->Ctx->St->Prop}{X:Ctx}{s:St}
theorem c8{K:Ctx->St->Prop}{i:Nat}(h:Q (.exit i) X s):mB K Q (.exit i) X s:=h
theorem l7{id:Nat}(h:Q .normal X s):xn id Q (.exit id) X s:=by
 simp only[xn,ut];exact h
theorem oA{id id':Nat}(c:id'≠id)(h:Q (.exit id') X s):xn id Q (.exit id') X s:=by
 simp only[xn,za c];exact h
def Ag(R:List (Nat × Row))(s:St):List (Nat × PV)->Prop
 | []=>True
 | (i,d)::L=>s.env i=d.Dw id/\wA d=true/\d.refs.all (λl=>(R.lookup l).isSome)=true/\Ag R s L
def Ar(R0:List (Nat × Row))(s:St):List (Nat × Row)->Prop
 | []=>True
 | p::R=>qs id R0 s.σ p/\Ar R0 s R
theorem LG{s:St}(L:List (Nat × PV))(R:List (Nat × Row))(h:Ag R s L)(k:Ar R s R)(X:Ctx)(g:Gh)(a:Act)(w:World)(hs:u7 X g s a w):u7 X g (St.of L R) a w:=by
 refine NJ id L R ?_ ?_ (λp _ q _ e=>e) X g a w hs
 .clear k;induction L with
  | nil=>intro p hp;cases hp
  | cons x L ih=>
   intro p hp;obtain⟨c,j,m,A⟩:=h;rcases zJ.1 hp with rfl | hp
   .exact⟨c,j,m⟩
   .exact ih A p hp
 .clear h;have:∀R',Ar R s R'->∀p∈R',qs id R s.σ p:=by
   intro R';induction R' with
   | nil=>intro _ p hp;cases hp
   | cons x R' ih=>
    intro h p hp;rcases zJ.1 hp with rfl | hp
    .exact h.1
    .exact ih h.2 p hp
  exact this R k
theorem xa(L:List (Nat × PV))(R:List (Nat × Row))(h:Ag R s L)(k:Ar R s R):Wk s (St.of L R):=λX g a w hs=>⟨g,LG L R h k X g a w hs⟩
def AgP(π:Nat->Nat)(R:List (Nat × Row))(s:St):List (Nat × PV)->Prop
 | []=>True
 | (i,d)::L=>s.env i=d.Dw π/\wA d=true/\d.refs.all (λl=>(R.lookup l).isSome)=true/\AgP π R s L
def XH(π:Nat->Nat)(R0:List (Nat × Row))(s:St):List (Nat × Row)->Prop
 | []=>True
 | p::R=>qs π R0 s.σ p/\XH π R0 s R
theorem Tw{s:St}(π:Nat->Nat)(L:List (Nat × PV))(R:List (Nat × Row))(h:AgP π R s L)(k:XH π R s R)(hi:(R.all λp=>R.all λq=>π p.1 != π q.1||p.1==q.1)=true):Wk s (St.of L R):=by
 refine a0d π L R ?_ ?_ λp hp q B e=>?_
 .clear k hi;induction L with
  | nil=>intro p hp;cases hp
  | cons x L ih=>
   intro p hp;obtain⟨c,j,m,A⟩:=h;rcases zJ.1 hp with rfl | hp
   .exact⟨c,j,m⟩
   .exact ih A p hp
 .clear h hi;have:∀R',XH π R s R'->∀p∈R',qs π R s.σ p:=by
   intro R';induction R' with
   | nil=>intro _ p hp;cases hp
   | cons x R' ih=>
    intro h p hp;rcases zJ.1 hp with rfl | hp
    .exact h.1
    .exact ih h.2 p hp
  exact this R k
 .have:=zg.1 (zg.1 hi p hp) q B;simpa[e] using this
theorem R2{π:Nat->Nat}{R:List (Nat × Row)}{σ:Nat->Option Row}{l:Nat}{r r':Row}(h:σ (π l)=some r)(hz:r.z=r'.z)(hl:r.lo=r'.lo)(ho:r'.opn=true->r.opn=true)(hc:r'.cl=false)(he:r.els=r'.els.map (PV.Dw π))(j:r'.els.all wA=true)
  (m:(r'.els.flatMap PV.refs).all (λl=>(R.lookup l).isSome)=true)(hm:okM l (π l) r.cl r'.cl=true:=by rfl):qs π R σ (l,r'):=
 ⟨r,h,hm,hz,hl,ho,λq=>(by
  have c:r'.cl=true:=q;rw[hc] at c;cases c),.inr ⟨hc,he,j,m⟩⟩
def Sq(X:Ctx)(ops:Array Oper)(i:Nat)(os:List Oper)(K:Ctx->St->Prop)(st:St):Prop:=
 jg X.N ops=true->(∀j,os[j]? = ops[i+j]?)->∀n g a w (Qo:Exit->Act->World->Prop),u7 X g st a w ->
  (∀X' m s' c w',u7 X' m s' c w'->X'.P=X.P/\X'.ρ=X.ρ->K X' s'->Qo .normal c w')->wpOpsIn (FX X.ρ) n X.P ops Qo (List.range' i os.length) a w
section
variable{X:Ctx}{Q:PX->Ctx->St->Prop}{st:St}{ops:Array Oper}{i:Nat}{os:List Oper}{K:Ctx->St->Prop}{env:Nat->PV}{σ:Nat->Option Row}
theorem a1y(h:K X st):Sq X ops i [] K st:=λ_ _ n g a w Qo hs c=>c X g st a w hs ⟨rfl,rfl⟩ h
theorem R5{st':St}(h:Wk st st')(k:Sq X ops i os K st'):Sq X ops i os K st:=λhd hi n g a w Qo hs m=>by
 obtain⟨j,c⟩:=h X g a w hs;exact k hd hi n j a w Qo c m
theorem qd{o:Oper}{s:St}(h:TL X.P ops false (kept []) (cls [] i o.op) o st s)(k:Sq X ops (i+1) os K s):Sq X ops i (o::os) K st:=λhd hi n g a w Qo hs q=>by
 have ho:ops[i]? = some o:=by have:=hi 0;simpa using this.symm
 have e:List.range' i (o::os).length=i::List.range' (i+1) os.length:=rfl;rw[e,wpOpsIn_cons];exact yg ho hs h (Q5 hd ho) λp m w' c=>k hd (λj=>ΩN) n p m w' Qo c q
theorem sr{id:Nat}{l:List Oper}{y:Code}(hd:jg X.N l.toArray=true)(h:Sq X l.toArray 0 l (λX' s=>aA X' y Q s) st):aA X (.seq (.region id l.toArray false) y) Q st:=λn g a w hs=>by
 refine wpIn_seq (wpIn_region ?_);have hz:List.range l.toArray.size=List.range' 0 l.length:=by simp[List.range_eq_range']
 rw[hz];refine h hd (λj=>Ψ) n g a w _ hs λX' p s' m w' q c A=>?_;have:=A n p m w' q;rw[vI c,c.1,c.2] at this;exact this
theorem sr1{id:Nat}{l:List Oper}(hd:jg X.N l.toArray=true)(h:Sq X l.toArray 0 l (Q .normal) st):aA X (.region id l.toArray false) Q st:=λn g a w hs=>by
 refine wpIn_region ?_;have hz:List.range l.toArray.size=List.range' 0 l.length:=by simp[List.range_eq_range']
 rw[hz];exact h hd (λj=>Ψ) n g a w _ hs λX' c s' A w' m q p=>⟨X',c,s',m,q,p⟩
theorem dr{id:Nat}{l:List Oper}{y:Code}(bar:List Nat)(hm:X.P.follows .mixedOrders=true)(hd:jg X.N l.toArray=true)(hr:tH l.toArray bar (Region.before l.toArray)=true)
  (h:Ex X.P l.toArray bar true 0 l st (λs=>aA X y Q s)):aA X (.seq (.region id l.toArray true) y) Q st:=g6 (qX bar hm hd hr h)
end
end Go.Pw
namespace Go.Pw
open Go.RowKit Go.Sh
section
variable{P:Program}{σ:Nat->Option Row}{ρ:Operand->PV}{dst:Option Tmp}
variable {x:Operand}{t:TypeId}{r:Row}{T:TypeId}{i f n:Nat}{y:Operand}{cs es:List PV}{E:TypeId}{k:IntKind}{a b:Int}{ts:Array TypeId}{u:TypeId}{z:Nat}{args:Array Operand}{ds vs cap:List PV}
theorem Sb{d:PV}(h:ρ x=d):G4 P σ ρ dst (.move x) d .none:=by rw[<-h];exact .move x
theorem bb{b r:Bool}(h:ρ x = .bool b)(hr:(!b)=r):G4 P σ ρ dst (.unOp .not t x) (.bool r) .none:=by rw[<-hr];exact .not t x b h
theorem GH{l:Nat}{y:PV}(hx:ρ x = .ptr l i f)(hl:σ l=some r)(hy:r.els[i]? = some y)(ha:K5 P T=some true)(hs:u5 P T=some n)(hf:f+n<=y.cells.length)
  (hd:(y.cells.drop f).take n=cs):G4 P σ ρ dst (.load T x) (.agg cs) .none:=by rw[<-hd];exact .pQ T x l i f r y n hx hl hy ha hs hf
theorem Co(hx:ρ x = .rptr es)(ha:K5 P T=some true)(hs:u5 P T=some n)(hf:n<=es.length)
  (hd:es.take n=cs):G4 P σ ρ dst (.load T x) (.agg cs) .none:=by rw[<-hd];exact .jN T x es n hx ha hs hf
theorem AI{l:Nat}{y d:PV}(hx:ρ x = .ptr l i f)(hl:σ l=some r)(hy:r.els[i]? = some y)(ha:K5 P T=some false)(hd:y.cells[f]? = some d):G4 P σ ρ dst (.load T x) d .none:=
 .pR T x l i f r y d hx hl hy ha hd
theorem I5{d:PV}(hx:ρ x = .rptr es)(ha:K5 P T=some false)(hd:es[0]? = some d):G4 P σ ρ dst (.load T x) d .none:=.jO T x es d hx ha hd
theorem H4.row{T:List Nat}{σ σ':Nat->Option Row}{l:Nat}{r:Row}(h:H4 T σ σ')(hm:T.contains l=true)(hl:σ l=some r):∃r',σ' l=some r'/\r'.els=r.els/\r'.z=r.z/\r'.cl=r.cl:=by
 have:=h l hm;rw[hl] at this;cases c:σ' l with
 | none=>rw[c] at this;cases this
 | some r'=>
  rw[c] at this;simp only[rg,wd,core,Prod.mk.injEq] at this;exact⟨r',rfl,this.1.symm,this.2.1.symm,this.2.2.symm⟩
theorem oZ{T:TypeId}{x:Operand}{l i f n:Nat}{r:Row}{y:PV}{cs:List PV}{K:List Nat}{σ':Nat->Option Row}(j:H4 K σ σ')(hx:ρ x = .ptr l i f)(hm:K.contains l=true)(hl:σ l=some r)(hy:r.els[i]? = some y)(ha:K5 P T=some true)(hs:u5 P T=some n)(hf:f+n<=y.cells.length)
  (hd:(y.cells.drop f).take n=cs):G4 P σ' ρ dst (.load T x) (.agg cs) .none:=by
 obtain⟨r',c,h2,_⟩:=j.row hm hl;exact GH hx c ΩW ha hs hf hd
theorem vX{l:Nat}{y d:PV}{K:List Nat}{σ':Nat->Option Row}(j:H4 K σ σ')(hx:ρ x = .ptr l i f)(hm:K.contains l=true)(hl:σ l=some r)(hy:r.els[i]? = some y)(ha:K5 P T=some false)(hd:y.cells[f]? = some d):G4 P σ' ρ dst (.load T x) d .none:=by
 obtain⟨r',c,h2,_⟩:=j.row hm hl;exact AI hx c ΩW ha hd
theorem Zf{t:Bool}{xs:List PV}{n:Int}(hx:ρ x = .lst t xs)(hE:B7 P T=some E)(hn:(xs.length:Int)=n):G4 P σ ρ dst (.call { callee:=.builtin .len,args:=#[x],argTypes:=#[T] }) (.int .i64 n) .none:=by
 subst hn;exact .lenL x t xs T hx (by rw[hE];rfl) _ rfl
theorem Zg{l:Nat}{n:Int}(hx:ρ x = .sl l)(hl:σ l=some r)(hE:B7 P T=some E)(hn:(r.els.length:Int)=n):G4 P σ ρ dst (.call { callee:=.builtin .len,args:=#[x],argTypes:=#[T] }) (.int .i64 n) .none:=by
 subst hn;exact .lenR x l r T hx hl (by rw[hE];rfl) _ rfl
theorem Xu{r:Int}(hx:ρ x = .int k a)(hy:ρ y = .int k b)(hr:(if b<a then b else a)=r):G4 P σ ρ dst (.call { callee:=.builtin .min,args:=#[x,y],argTypes:=ts }) (.int k r) .none:=by
 subst hr;exact .min2 x y k a b ts hx hy
theorem Sa{r:Int}(hx:ρ x = .int k a)(hy:ρ y = .int k b)(hr:(if b > a then b else a)=r):G4 P σ ρ dst (.call { callee:=.builtin .max,args:=#[x,y],argTypes:=ts }) (.int k r) .none:=by
 subst hr;exact .max2 x y k a b ts hx hy
theorem EP{op:BinOp}{r:Int}(hx:ρ x = .int k a)(hy:ρ y = .int k b)(hr:Qr k op a b=some r):G4 P σ ρ dst (.binOp op t x y u) (.int k r) .none:=.ari op t u x y k a b r hx hy hr
theorem z6{op:BinOp}{r:Bool}(hx:ρ x = .int k a)(hy:ρ y = .int k b)(hr:QI op a b=some r):G4 P σ ρ dst (.binOp op t x y u) (.bool r) .none:=.cmp op t u x y k a b r hx hy hr
theorem Sc{a b r:Bool}(hx:ρ x = .bool a)(hy:ρ y = .bool b)(ht:P.underlying t=some .bool)(hr:(a != b)=r):G4 P σ ρ dst (.binOp .neq t x y u) (.bool r) .none:=by subst hr;exact .neB t u x y a b hx hy ht
theorem AJ{T E:TypeId}{z i j k:Nat}{x:Operand}{lo hi mx:Option Operand}{t t':Bool}{xs ys:List PV}(hx:ρ x = .lst t xs)(hE:B7 P T=some E)(hz:u5 P E=some z)(hel:∀e∈xs,e.cells.length=z)(hlo:uH ρ lo 0 i)(hhi:uH ρ hi xs.length j)(hmx:uH ρ mx xs.length k)
  (hmh:mx.isSome=true->hi.isSome=true)(hij:i<=j)(hjk:j<=k)(hk:k<=xs.length)(ht:(if mx.isSome then decide (j=k) else t&&decide (j=xs.length))=t')(hy:(xs.take j).drop i=ys):G4 P σ ρ dst (.slice T x lo hi mx) (.lst t' ys) .none:=by
 subst ht;subst hy;exact .sliceL T E z x lo hi mx t xs i j k hx hE hz hel hlo hhi hmx hmh hij hjk hk
theorem Zd{t:Tmp}{xs ys zs:List PV}{cl:Bool}{by_:Nat}{zv:Value}(hd:dst=some t)(hx:ρ x = .lst true xs)(hy:Src σ (ρ y) ys cl)(hE:B7 P T=some E)(hz:u5 P E=some z)(hb:J7 P E=some by_)(hzv:A6 P E=some zv)(hzz:zv.cells.size=z)
  (hel:∀e∈xs++ys,e.cells.length=z)(hfit:(xs.length+ys.length)*by_<=140737488355328)(h63:xs.length+ys.length<=9223372036854775807)(hzs:xs++ys=zs)(hn:xs.length=n) :
  G4 P σ ρ dst (.call { callee:=.builtin .append,args:=#[x,y],argTypes:=#[T,T] }) (.sl t) (.new t ⟨zs,n,true,z,cl⟩):=by
 subst hzs;subst hn;exact .appT x y T E xs ys cl z by_ t zv hd hx hy hE hz hb hzv hzz hel hfit h63
theorem Zc{t:Tmp}{s:Nat}{ys zs:List PV}{cl cl':Bool}{by_:Nat}{zv:Value}(hd:dst=some t)(hx:ρ x = .sl s)(hs:σ s=some r)(hy:Src σ (ρ y) ys cl)(hE:B7 P T=some E)(hz:u5 P E=some z)(hb:J7 P E=some by_)(hzv:A6 P E=some zv)
  (hzz:zv.cells.size=z)(hel:∀e∈r.els++ys,e.cells.length=z)(hrz:r.z=z)(hfit:(r.els.length+ys.length)*by_<=140737488355328)(h63:r.els.length+ys.length<=9223372036854775807)(hzs:r.els++ys=zs)(hn:r.els.length=n)(hcl:(r.cl&&cl)=cl') :
  G4 P σ ρ dst (.call { callee:=.builtin .append,args:=#[x,y],argTypes:=#[T,T] }) (.sl t) (.app s t ⟨zs,n,true,z,cl'⟩):=by
 subst hzs;subst hn;subst hcl;exact .appR x y T E s r ys cl z by_ t zv hd hx hs hy hE hz hb hzv hzz hel hrz hfit h63
theorem G6{α:Type}{f:α->PV}{l:List α}{T E:TypeId}{parts:Array (Nat × Operand)}{len z:Nat}{zv:Value}{ps:List (Nat × PV)}(hp:(parts.toList.map λp=>(p.1,(ρ p.2).w1))=ps)(hE:B7 P T=some E)(hz:u5 P E=some z)(hzv:A6 P E=some zv)
  (hlen:(l.map f).length=len)(hel:(l.map f).all (λx=>x.el&&(x.cells.length==z))=true)(hbig:len*z<=2 ^ 24)(hf:pM (λi=>some (i*z,z)) (List.replicate (len*z) .junk) ps=some ((l.map f).flatMap PV.cells))
  (hcl:(l.map f).all (λx=>x.cells.all PV.Z1)=true):G4 P σ ρ dst (.buildSlice T len parts) (.lst true (l.map f)) .none:=by
 subst hp;refine .buildI T E parts len z zv _ hE hz hzv hlen (λx hx=>?_) hbig hf hcl;have:=zg.1 hel x hx;simp only[zB,zak] at this;exact this
theorem D9{t:Tmp}(hd:dst=some t)(hE:B7 P T=some E)(hz:u5 P E=some z):G4 P σ ρ dst (.buildSlice T 0 #[]) (.lst true []) .none:=.nilSlice T E #[] t z hd hE hz rfl
theorem Ze{x y:Operand}{T U E:TypeId}{l z:Nat}{r:Row}{ys:List PV}{n:Int}(hx:ρ x = .sl l)(hl:σ l=some r)(hcl:r.cl=true)(hy:Src σ (ρ y) ys true)(hE:B7 P T=some E)(hz:u5 P E=some z)(hrz:r.z=z)(hel:∀e∈ys,e.cells.length=z)(hn:ys.length<=r.els.length)
  (hzp:0<z)(hk:(ys.length:Int)=n):G4 P σ ρ dst (.call { callee:=.builtin .copy,args:=#[x,y],argTypes:=#[T,U] }) (.int .i64 n) (.AE l ys):=by
 subst hk;exact .copy x y T U E l r ys z hx hl hcl hy hE hz hrz hel hn hzp
theorem wc{l:Nat}{d:PV}(hx:ρ x = .ptr l i f)(hy:ρ y=d\/(ρ y).w1=d)(hc:d.cells=cs)(he:d.el=true)(hs:u5 P T=some n)(hp:0<n)(hn:cs.length=n) :
  G4 P σ ρ dst (.store T x y) (.tup []) (.sto l i f cs):=by subst hc;subst hn;exact .store T x y l i f d hx hy he hs hp
theorem GG{l q off k:Nat}{ft:TypeId}(hx:ρ x = .ptr l i q)(ho:L4 P T f=some (off,ft))(hk:q+off=k):G4 P σ ρ dst (.fieldAddr T x f) (.ptr l i k) .none:=by
 subst hk;exact .fieldAddrP T x f l i q off ft hx ho
theorem G2{off:Nat}{ft:TypeId}(hx:ρ x = .rptr es)(ho:L4 P T f=some (off,ft))(hk:es.drop off=cs):G4 P σ ρ dst (.fieldAddr T x f) (.rptr cs) .none:=by
 subst hk;exact .fieldAddrR T x f es off ft hx ho
theorem o6{T:TypeId}{parts:Array (Nat × Operand)}{pl:Nat->Option (Nat × Nat)}{z:Value}{zs cs:List PV}{ps:List (Nat × PV)}(hp:(parts.toList.map λp=>(p.1,(ρ p.2).w1))=ps)(gY:D4 P T=some pl)(hz:A6 P T=some z)(hzs:PV.fH z = .agg zs)
  (hf:pM pl zs ps=some cs)(hsc:cs.all PV.sc=true):G4 P σ ρ dst (.build T parts) (.agg cs) .none:=by subst hp;exact .build T parts pl z zs cs gY hz hzs hsc hf
theorem C3{α:Type}{a b:α}{l m:List α}(h:a=b)(k:l=m):a::l=b::m:=by rw[h,k]
theorem nB{i:Nat}{a b:PV}(h:a=b):(i,a.w1)=(i,b.w1):=by rw[h]
def D6(P:Program)(f:FuncId):Prop:=∃fn c,P.funcs[f]? = some fn/\fn.body=some c/\fn.name ≠ "runtime.NumGoroutine"
theorem KR{f:FuncId}{d:PV}(hx:ρ x = .fn (.func f) cap)(hk:D6 P f)(ha:args.toList.map ρ++cap=ds)(h:cd P f vs d)
  (hok:ds.all (PV.pY σ)=true:=by rfl)(hv:ds.map (PV.vw σ)=vs:=by rfl)(hfl:d.flat=true:=by rfl):G4 P σ ρ dst (.call { callee:=.value x,args,argTypes:=ts }) d .none:=by
 subst ha;subst hv;exact .call f args ts cap d x hx hk hok h hfl
theorem GD{f:FuncId}{ls:List Nat}{d:PV}(hx:ρ x = .fn (.func f) cap)(hk:D6 P f)(ha:args.toList.map ρ++cap=ds)(h:cd P f vs d)
  (hok:ds.all (PV.pY σ)=true:=by rfl)(hv:ds.map (PV.vw σ)=vs:=by rfl)(hl:ds.flatMap (PV.T9 σ)=ls:=by rfl):G4 P σ ρ dst (.call { callee:=.value x,args,argTypes:=ts }) d (.oe ls):=by
 subst ha;subst hv;subst hl;exact .callF f args ts cap d x hx hk hok h
theorem VP{f:FuncId}{ls:List Nat}{l:Tmp}(hx:ρ x = .fn (.func f) cap)(hk:D6 P f)(ha:args.toList.map ρ++cap=ds)(h:og P f vs r)
  (hd:dst=some l:=by rfl)(hok:ds.all (PV.pY σ)=true:=by rfl)(hv:ds.map (PV.vw σ)=vs:=by rfl)(hcl:r.cl=true:=by rfl)(hl:ds.flatMap (PV.T9 σ)=ls:=by rfl) :
  G4 P σ ρ dst (.call { callee:=.value x,args,argTypes:=ts }) (.sl l) (.frzN ls l r):=by
 subst ha;subst hv;subst hl;exact .callN f args ts cap l r x hd hx hk hok h hcl
end
section
variable{P:Program}{σ:Nat->Option Row}{ρ:Operand->PV}{dst:Option Tmp}
theorem D2{c a b:Operand}{x y g:Bool}(hc:ρ c = .bool x)(ha:ρ a = .bool true)(hb:ρ b=cond g (.bool y) (.tup []))(j:x=false->g=true):G4 P σ ρ dst (.pick c a b) (.bool (x||y)) .none:=by
 have:=G4.pick (P:=P) (σ:=σ) (dst:=dst) c a b x hc;rw[ha,hb] at this;cases x;·rw[j rfl] at this;exact this
 .exact this
theorem B3{c a b:Operand}{x y g:Bool}(hc:ρ c = .bool x)(ha:ρ a=cond g (.bool y) (.tup []))(hb:ρ b = .bool false)(j:x=true->g=true):G4 P σ ρ dst (.pick c a b) (.bool (x&&y)) .none:=by
 have:=G4.pick (P:=P) (σ:=σ) (dst:=dst) c a b x hc;rw[ha,hb] at this;cases x;·exact this
 .rw[j rfl] at this;exact this
theorem ct{g:Bool}{a b:PV}(h:g=true):cond g a b=a:=by rw[h];rfl
theorem a1O{a b:Bool}(h:a=true)(k:b=true):(a&&b)=true:=by rw[h,k];rfl
theorem cV{b:Bool}(h:b=false):(b==false)=true:=by rw[h];rfl
theorem fp{b:Bool}(h:b=true):(b==true)=true:=by rw[h];rfl
theorem W3{α:Type}{f:α->PV}{xs:List α}{x:Operand}{T E:TypeId}{t:Bool}(hx:ρ x = .lst t (xs.map f))(hE:B7 P T=some E):G4 P σ ρ dst (.call { callee:=.builtin .len,args:=#[x],argTypes:=#[T] }) (.int .i64 xs.length) .none:=Zf hx hE Ψ
theorem Jb{α:Type}{f:α->PV}{xs:List α}{x:Operand}{T E:TypeId}{l:Nat}{r:Row}(hx:ρ x = .sl l)(hl:σ l=some r)(he:r.els=xs.map f)(hE:B7 P T=some E):G4 P σ ρ dst (.call { callee:=.builtin .len,args:=#[x],argTypes:=#[T] }) (.int .i64 xs.length) .none:=
 Zg hx hl hE (by rw[he];simp)
theorem xB{α β:Type}(f:α->β){xs:List α}{i:Int}{e:α}(h:ix xs i=some e):0<=i/\(xs.map f)[i.toNat]? = some (f e):=by
 obtain⟨h0,c⟩:=YJ h;exact⟨h0,by rw[zD,c];rfl⟩
theorem A0{α:Type}{f:α->PV}{xs:List α}{i:Int}{e:α}{T E:TypeId}{x y:Operand}{t:Bool}{k:IntKind}{z:Nat}{cs:List PV}(h:ix xs i=some e)(hx:ρ x = .lst t (xs.map f))(hy:ρ y = .int k i)
  (hE:B7 P T=some E)(hz:u5 P E=some z)(hc:(f e).cells=cs)(hl:cs.length=z):G4 P σ ρ dst (.indexAddr T x y) (.rptr cs) .none:=by
 obtain⟨h0,c⟩:=xB f h;subst hc;subst hl;exact .idxL T x y t (xs.map f) k i (f e) E hx hy h0 c hE hz
theorem Q4{α:Type}{f:α->PV}{xs:List α}{i:Int}{e:α}{T E:TypeId}{x y:Operand}{l:Nat}{k:IntKind}{z:Nat}{r:Row}(h:ix xs i=some e)(hx:ρ x = .sl l)(hr:σ l=some r)(he:r.els=xs.map f)(hy:ρ y = .int k i)
  (hE:B7 P T=some E)(hz:u5 P E=some z)(hl:r.z=z):G4 P σ ρ dst (.indexAddr T x y) (.ptr l i.toNat 0) .none:=by
 obtain⟨h0,c⟩:=xB f h;subst hl;exact .idxR T x y l r k i E hx hr hy h0 (by rw[he];exact (zbo.1 c).1) hE hz
theorem Nc{α:Type}{f:α->PV}{xs:List α}{i:Int}{e:α}{T:TypeId}{x:Operand}{l q n:Nat}{r:Row}{cs:List PV}(h:ix xs i=some e)(hx:ρ x = .ptr l i.toNat q)(hr:σ l=some r)(he:r.els=xs.map f)
  (ha:K5 P T=some true)(hs:u5 P T=some n)(hf:q+n<=(f e).cells.length)(hd:((f e).cells.drop q).take n=cs):G4 P σ ρ dst (.load T x) (.agg cs) .none:=
 GH hx hr (by rw[he];exact (xB f h).2) ha hs hf hd
theorem wb{α:Type}{f:α->PV}{xs:List α}{i:Int}{e:α}{T:TypeId}{x:Operand}{l q:Nat}{r:Row}{d:PV}(h:ix xs i=some e)(hx:ρ x = .ptr l i.toNat q)(hr:σ l=some r)(he:r.els=xs.map f)
  (ha:K5 P T=some false)(hd:(f e).cells[q]? = some d):G4 P σ ρ dst (.load T x) d .none:=
 AI hx hr (by rw[he];exact (xB f h).2) ha hd
theorem eO{α:Type}{f:α->PV}{xs ys zs:List α}{b:Nat}{x y:Operand}{T E:TypeId}{t:Tmp}{z:Nat}{zv:Value}(h:app b xs ys=some zs)(hd:dst=some t)(hx:ρ x = .lst true (xs.map f))(hy:Src σ (ρ y) (ys.map f) true)
  (hE:B7 P T=some E)(hz:u5 P E=some z)(hb:J7 P E=some b)(hzv:A6 P E=some zv)(hzz:zv.cells.size=z)(hel:∀e,(f e).cells.length=z) :
  G4 P σ ρ dst (.call { callee:=.builtin .append,args:=#[x,y],argTypes:=#[T,T] }) (.sl t) (.new t ⟨zs.map f,xs.length,true,z,true⟩):=by
 obtain⟨c,j,rfl⟩:=Bo h;exact Zd hd hx hy hE hz hb hzv hzz (λe he=>by rw[<-zV] at he;obtain⟨a,_,rfl⟩:=zn.1 he;exact hel a) (Ω c) (Ω j) Ψ Ψ
theorem E3{α:Type}{f:α->PV}{xs ys zs:List α}{b:Nat}{x y:Operand}{T E:TypeId}{t:Tmp}{z s:Nat}{r:Row}{zv:Value}(h:app b xs ys=some zs)(hd:dst=some t)(hx:ρ x = .sl s)(hs:σ s=some r)(he:r.els=xs.map f)(hrz:r.z=z)(hcl:r.cl=true)
  (hy:Src σ (ρ y) (ys.map f) true)(hE:B7 P T=some E)(hz:u5 P E=some z)(hb:J7 P E=some b)(hzv:A6 P E=some zv)(hzz:zv.cells.size=z)(hel:∀e,(f e).cells.length=z) :
  G4 P σ ρ dst (.call { callee:=.builtin .append,args:=#[x,y],argTypes:=#[T,T] }) (.sl t) (.app s t ⟨zs.map f,xs.length,true,z,true⟩):=by
 obtain⟨c,j,rfl⟩:=Bo h;exact Zc hd hx hs hy hE hz hb hzv hzz (λe q=>by rw[he,<-zV] at q;obtain⟨a,_,rfl⟩:=zn.1 q;exact hel a) hrz (by rw[he];simpa using c) (by rw[he];simpa using j) (by rw[he];simp) (by rw[he];simp) (by rw[hcl];rfl)
theorem qi{α:Type}{f:α->PV}{zs:List α}{z0:α}{n:Int}{T E:TypeId}{x y:Operand}{t:Tmp}{k k':IntKind}{z b:Nat}{v:Value}(h:mk b n z0=some zs)(hd:dst=some t)(hx:ρ x = .int k n)(hy:ρ y = .int k' n)(hE:B7 P T=some E)(hz:u5 P E=some z)
  (hv:A6 P E=some v)(hb:J7 P E=some b)(c:(PV.fH v).w1=f z0)(hel:(PV.fH v).w1.el=true)(hvz:(PV.fH v).w1.cells.length=z):G4 P σ ρ dst (.makeSlice T x y) (.sl t) (.new t ⟨zs.map f,0,true,z,true⟩):=by
 obtain⟨j,m,p,rfl⟩:=Na h;rw[zcj,<-c];exact .mkSlice T x y t k k' n E z v hd hx hy j hE hz hv hel hvz b hb m p
def Kb(ρ:Operand->PV)(x:Option Operand)(dflt n:Int):Prop:=
 match x with
 | some y=>∃k,ρ y = .int k n
 | none=>n=dflt
theorem Kb.rX{ρ:Operand->PV}{x:Option Operand}{d n:Int}{d':Nat}(h:Kb ρ x d n)(h0:0<=n)(hd:d=d'):uH ρ x d' n.toNat:=by
 cases x with
 | none=>have:n=d:=h;show n.toNat=d';omega
 | some y=>obtain⟨k,hk⟩:=h;exact⟨k,by rw[hk];congr;omega⟩
theorem GF{α:Type}{f:α->PV}{xs zs:List α}{i j:Int}{T E:TypeId}{z:Nat}{x:Operand}{lo hi:Option Operand}(h:cut xs i j=some zs)(hx:ρ x = .lst false (xs.map f))(hlo:Kb ρ lo 0 i)(hhi:Kb ρ hi xs.length j)
  (hE:B7 P T=some E)(hz:u5 P E=some z)(hel:∀e,(f e).cells.length=z):G4 P σ ρ dst (.slice T x lo hi none) (.lst false (zs.map f)) .none:=by
 obtain⟨c,m,p,rfl⟩:=Ik h;have:=AJ (P:=P) (σ:=σ) (dst:=dst) (mx:=none) (t':=false) (i:=i.toNat) (j:=j.toNat) (k:=(xs.map f).length) (ys:=((xs.take j.toNat).drop i.toNat).map f) hx hE hz (λe he=>Ω5)
  (hlo.rX c rfl) (hhi.rX Δ Ψ) rfl (λq=>Γ) Δ Ξ (zC _) rfl (by simp[List.map_take,List.map_drop])
 exact this
theorem RZ{α:Type}{f:α->PV}{xs zs:List α}{i j:Int}{T E:TypeId}{z:Nat}{x:Operand}{lo hi mx:Option Operand}(h:cut xs i j=some zs)(hx:ρ x = .lst false (xs.map f))(hlo:Kb ρ lo 0 i)(hhi:Kb ρ hi xs.length j)(hmx:Kb ρ mx xs.length j)(hm:mx.isSome=true)(hs:hi.isSome=true)
  (hE:B7 P T=some E)(hz:u5 P E=some z)(hel:∀e,(f e).cells.length=z):G4 P σ ρ dst (.slice T x lo hi mx) (.lst true (zs.map f)) .none:=by
 obtain⟨c,m,p,rfl⟩:=Ik h;exact AJ (P:=P) (σ:=σ) (dst:=dst) (t':=true) (i:=i.toNat) (j:=j.toNat) (k:=j.toNat) (ys:=((xs.take j.toNat).drop i.toNat).map f) hx hE hz (λe he=>Ω5)
  (hlo.rX c rfl) (hhi.rX Δ Ψ) (hmx.rX Δ Ψ) (λ_=>hs) Δ (zC _) Ξ (by rw[hm];simp) (by simp[List.map_take,List.map_drop])
end
end Go.Pw
