/- A part. -/
import Derived.Test.YtppgkaeodaaidaaGreatDoorU3rPwA
import Derived.Test.YtppgkaeodaaidaaGreatDoorU3rSh0
set_option linter.unusedVariables false
set_option linter.unusedSimpArgs false
set_option linter.unusedSectionVars false
namespace Go.Pw
open Go.RowKit
section
variable{X:Ctx}{g:Gh}{st:St}{a:Act}{w:World}{n:Nat}{K:Act->World->Prop}{Q:Exit->Act->World->Prop}{ρ:Option Nat}{P:Program}
theorem Y0{o:Oper}{b:Builtin}{xs:Array Operand}{ts:Array TypeId}(ho:o.op = .call { callee:=.builtin b,args:=xs,argTypes:=ts }) :
  ∃cs,execOp a.eval o=builtin b ts o.type cs (xs.map a.eval):=by
 obtain⟨dst,op,ty,pos,after,guard⟩:=o;simp only at ho;subst ho;exact⟨_,rfl⟩
theorem Qk{o:Oper}{x:Operand}{t:Bool}{xs:List PV}{T:TypeId}{ts:Array TypeId}(h:A6 X g st a w)(ho:o.op = .call { callee:=.builtin .len,args:=#[x],argTypes:=ts })
  (hx:y7 st.env x = .lst t xs)(hT:(A8 X.P T).isSome=true)(hts:ts[0]? = some T) :
  ∃u,(execOp a.eval o).run X.P w = .ok (.value u) w/\Rd w g.imm g.μ st.p9 u (.int .i64 xs.length):=by
 have hv:=h.eval x;rw[hx] at hv;obtain⟨A,c,z',u,e,_⟩:=hv.eG;obtain⟨E,hE⟩:=zal.1 hT;obtain⟨cs,hc⟩:=Y0 (a:=a) ho;refine⟨.int .i64 xs.length,?_,.cl (.int _ _)⟩;rw[hc];refine F2 ?_;simp[Builtin.len_,hts,e,zP (L0 hE),goInt]
theorem Ql{o:Oper}{x:Operand}{l:Nat}{r:Row}{T:TypeId}{ts:Array TypeId}(h:A6 X g st a w)(ho:o.op = .call { callee:=.builtin .len,args:=#[x],argTypes:=ts })
  (hx:y7 st.env x = .sl l)(hl:st.σ l=some r)(hT:(A8 X.P T).isSome=true)(hts:ts[0]? = some T) :
  ∃u,(execOp a.eval o).run X.P w = .ok (.value u) w/\Rd w g.imm g.μ st.p9 u (.int .i64 r.els.length):=by
 have hv:=h.eval x;rw[hx] at hv;obtain⟨_,e⟩:=hv.bx;obtain⟨E,hE⟩:=zal.1 hT;obtain⟨cs,hc⟩:=Y0 (a:=a) ho;refine⟨.int .i64 r.els.length,?_,.cl (.int _ _)⟩;rw[hc];refine F2 ?_;simp[Builtin.len_,hts,e,zP (L0 hE),goInt,(h.rows l r hl).n]
theorem Qm{o:Oper}{x:Operand}{s:ByteArray}{T:TypeId}{ts:Array TypeId}(h:A6 X g st a w)(ho:o.op = .call { callee:=.builtin .len,args:=#[x],argTypes:=ts })
  (hx:y7 st.env x = .str s)(hT:X.P.underlying T=some .string)(hts:ts[0]? = some T) :
  ∃u,(execOp a.eval o).run X.P w = .ok (.value u) w/\Rd w g.imm g.μ st.p9 u (.int .i64 s.size):=by
 have hv:=h.eval x;rw[hx] at hv;obtain⟨cs,hc⟩:=Y0 (a:=a) ho;refine⟨.int .i64 s.size,?_,.cl (.int _ _)⟩;rw[hc];refine F2 ?_;simp[Builtin.len_,hts,hv.gi,zP hT,goInt]
theorem Ux{o:Oper}{x y:Operand}{k:IntKind}{p q:Int}{ts:Array TypeId}(h:A6 X g st a w)(ho:o.op = .call { callee:=.builtin .min,args:=#[x,y],argTypes:=ts })
  (hx:y7 st.env x = .int k p)(hy:y7 st.env y = .int k q) :
  ∃u,(execOp a.eval o).run X.P w = .ok (.value u) w/\Rd w g.imm g.μ st.p9 u (.int k (if q<p then q else p)):=by
 have hv:=h.eval x;have hu:=h.eval y;rw[hx] at hv;rw[hy] at hu;obtain⟨cs,hc⟩:=Y0 (a:=a) ho;refine⟨_,?_,.cl (.int _ _)⟩;rw[hc];refine F2 ?_;simp[Builtin.min_,Builtin.min2,hv.J7,hu.J7]
theorem Uw{o:Oper}{x y:Operand}{k:IntKind}{p q:Int}{ts:Array TypeId}(h:A6 X g st a w)(ho:o.op = .call { callee:=.builtin .max,args:=#[x,y],argTypes:=ts })
  (hx:y7 st.env x = .int k p)(hy:y7 st.env y = .int k q) :
  ∃u,(execOp a.eval o).run X.P w = .ok (.value u) w/\Rd w g.imm g.μ st.p9 u (.int k (if q > p then q else p)):=by
 have hv:=h.eval x;have hu:=h.eval y;rw[hx] at hv;rw[hy] at hu;obtain⟨cs,hc⟩:=Y0 (a:=a) ho;refine⟨_,?_,.cl (.int _ _)⟩;rw[hc];refine F2 ?_;simp[Builtin.max_,Builtin.max2,hv.J7,hu.J7]
theorem Qj{o:Oper}{x y:Operand}{T U E:TypeId}{l z:Nat}{r:Row}{ys:List PV}(h:A6 X g st a w)(ho:o.op = .call { callee:=.builtin .copy,args:=#[x,y],argTypes:=#[T,U] })(hdst:∀t,o.dst=some t->t<X.N)
  (hx:y7 st.env x = .sl l)(hl:st.σ l=some r)(hcl:r.cl=true)(hlo:r.lo=0)(hy:Src st.σ (y7 st.env y) ys true)(hE:A8 X.P T=some E)(hz:u6 X.P E=some z)(hrz:r.z=z)(hel:∀e∈ys,e.cells.length=z)(hn:ys.length<=r.els.length)(hzp:0<z)
  (hK:∀g' a' w',A6 X g' ⟨Q0 st.env o.dst (.int .i64 ys.length),(U1.uG l ys).apply st.σ⟩ a' w'->K a' w'):o.wpIn (FX ρ) n X.P a w K Q:=by
 simp only[U1.apply,hl] at hK;have hv:=h.eval x;have hu:=h.eval y;rw[hx] at hv;obtain⟨hp,e⟩:=hv.bx;have hR:=h.rows l r hl;have hmz:(g.μ l).z=z:=by rw[hR.z,hrz]
 obtain⟨B,cB,vals,eB,hyel,hlv,hvr,hone,hvc⟩:=Src.reads h hu hy (z:=z) hel;have hu':=L0 hE;have hnn:=hR.n;have hmin:Nat.min ys.length (g.μ l).n=ys.length:=zb9 (by omega);obtain⟨cs,hc⟩:=Y0 (a:=a) ho;have hfc:(Builtin.firstCells z ys.length (a.eval y)).run X.P w = .ok vals.toArray w:=by
  rw[eB];rcases md ys.length with q | q
  .have h0:vals = []:=zH (by rw[hlv,q,zb1]);subst h0;rw[q];cases B <;> simp[Builtin.firstCells,loadCells,loadCellsFrom]
  .obtain⟨bB,sB,rfl,hBc⟩:=hvc q;exact run_firstCells_some (P:=X.P) w z ys.length ⟨bB,sB,none⟩ ys.length cB vals hlv (λj u hj=>by rw[H9];exact hBc j u hj)
 have hrun:∀w',(∀A,(g.μ l).A=some A->(storeCells A vals).run X.P w = .ok () w')->((g.μ l).A=none->w'=w)->(Builtin.copy_ #[T,U] o.type #[.slice (g.μ l).A (g.μ l).n (g.μ l).C,a.eval y]).run X.P w = .ok (.int .i64 ys.length) w':=by
  intro w' h1 h2;have hle:(Builtin.lenOf (a.eval y)).run X.P w = .ok ys.length w:=by rw[eB];rfl
  cases hA:(g.μ l).A with
  | none=>
   have:=h2 hA;subst this;simp only[Builtin.copy_,zq,zP hu',zi,hle,hmin,C8 hz,hfc,zcc,zac,zaj];rfl
  | some A=>
   have:=h1 A hA;simp only[Builtin.copy_,zq,zP hu',zi,hle,hmin,C8 hz,hfc,zcc,zac,zaj,this];rfl
 have hargs:(#[x,y]:Array Operand).map a.eval = #[.slice (g.μ l).A (g.μ l).n (g.μ l).C,a.eval y]:=by simp[e]
 rcases md vals.length with hv0 | hv0
 .have h0:vals = []:=zH hv0;subst h0;have hr:=hrun w (λA _=>rfl) (λ_=>rfl);refine D3 (λc=>by rw[ho];simp) (v:=.int .i64 ys.length) (w':=w) (by rw[hc,hargs];exact F2 hr) ?_;have hsame:A6 X g ⟨st.env,w8 st.σ l (some { r with els:=ys++r.els.drop ys.length })⟩ a w:=by
   by_cases hys:ys = []
   .subst hys;simp only[zbr,zV,List.drop_zero];rw[show w8 st.σ l (some { r with els:=r.els })=st.σ from by funext i;unfold w8;split <;> simp_all];exact h
   .have hz0:z=0:=by
     have h0:ys.length*z=0:=by simpa using hlv.symm
     rcases Nat.mul_eq_zero.1 h0 with q | q
     .exact absurd (zH q) hys
     .exact q
    omega
  exact hK g _ _ (hsame.put hdst (.cl (.int _ _)))
 .have hC:=hR.C;have hys:0<ys.length:=by
   rcases md ys.length with q | q
   .rw[q,zb1] at hlv;omega
   .exact q
  obtain⟨b,s,hA⟩:=hR.spot (by omega);have hmine:∀j,j<vals.length->G9 (g.μ l) r b (s+j):=λj hj=>⟨s,hA,by rw[hlo];omega,by
   have:ys.length*z<=(if r.opn then (g.μ l).C else (g.μ l).n)*(g.μ l).z:=by rw[hmz];exact zn _ (by split <;> omega)
   omega⟩
  have hst:=run_storeCells_cells (P:=X.P) b s vals 0 w (λj hj=>by simpa using (hR.own b _ (hmine j hj)).2.1) (λj hj=>by simpa using (hR.own b _ (hmine j hj)).2.2) (λu hu=>by rw[<-Bx];exact hone u hu);simp only[zai] at hst;have hr:=hrun (w.setCells b s vals) (λA hA'=>by rw[hA] at hA';cases hA';exact hst) (λq=>by rw[hA] at q;cases q);refine D3 (λc=>by rw[ho];simp) (v:=.int .i64 ys.length) (w':=w.setCells b s vals) (by rw[hc,hargs];exact F2 hr) ?_;have hW:=h.write (l:=l) (r:=r) (b:=b) (o:=s) (vs:=vals) (els:=ys++r.els.drop ys.length) (cl:=r.cl) hl hmine (by simp;omega)
   (λx hx=>by
    rcases zy.1 hx with q | q
    .exact⟨hyel x q,by rw[hrz];exact hel x q⟩
    .exact hR.el x (zaq q))
   (λi x j y hx hy=>by
    rcases zD i ys.length with q | q
    .rw[zN q] at hx;have hxz:=hel x (zg hx);have hj:=PV.C3 hy;have hlt:i*z+j<vals.length:=by
      have:(i+1)*z<=ys.length*z:=zn _ (by omega);rw[wp,za1] at this;omega
     have hrd:=hvr i x j y _ hx hy (zc hlt);have hin:=zab b vals s w (λj' hj'=>(hR.own b _ (hmine j' hj')).2.1) _ hlt;rw[<-so] at hin;exact⟨b,s,_,hA,by rw[hmz];exact hin,hrd.1,λq'=>by omega,λ_=>hrd.2 rfl⟩
    .rw[zM q,pu,show ys.length+(i-ys.length)=i by omega] at hx;obtain⟨b',s',u,k1,k2,k3,k4,k5⟩:=hR.cell i x j y hx hy;rw[hA] at k1;cases k1;refine⟨b,s,u,hA,?_,k3,k4,k5⟩;rw[n9 b vals s w _ λ_ _=>?_];·exact k2
     .right;have:ys.length*z<=i*(g.μ l).z:=by rw[hmz];exact zn _ q
      simp only;omega) hv0
  exact hK g _ _ (hW.put hdst (.cl (.int _ _)))
theorem Rd0.flat{w:World}{imm:Nat->Nat->Prop}{v:Value}{d:PV}(h:Rd0 w imm v d)(hf:d.flat=true)(w':World)(imm':Nat->Nat->Prop):Rd0 w' imm' v d:=by
 have h1:∀ {v:Value} {d:PV},Rd0 w imm v d->d.wb=true->Rd0 w' imm' v d:=by
  intro v d h hf;cases h <;> first | (simp[PV.wb] at hf;done) | skip
  .exact .bool _
  .exact .int _ _
  .exact .str _
 cases h <;> first | (simp[PV.flat,PV.wb] at hf;done) | skip
 case bool b=>exact .bool b
 case int k m=>exact .int k m
 case str s=>exact .str s
 case agg vs cs hsc hn hc=>exact .agg vs cs hsc hn λi v c hv hc'=>h1 (hc i v c hv hc') (by simp only[PV.flat,zd] at hf;exact hf c (zg hc'))
 case tup vs cs hn hc=>
  refine .tup vs cs hn λi v c hv hc'=>?_;have hq:=hc i v c hv hc';simp only[PV.flat,zd] at hf;have hq2:=hf c (zg hc');by_cases e:∃es,c = .agg es
  .obtain⟨es,rfl⟩:=e;cases hq with
   | agg us _ hsc hn' hc2=>exact .agg us es hsc hn' λi v c hv hc3=>h1 (hc2 i v c hv hc3) (by simp only[PV.RH,zd] at hq2;exact hq2 c (zg hc3))
  .exact h1 hq (by cases c <;> first | exact hq2 | exact absurd ⟨_,rfl⟩ e)
theorem gl{o:Oper}{x:Operand}{args:Array Operand}{ts:Array TypeId}{f:FuncId}{vs:Array Value}(ho:o.op = .call { callee:=.value x,args,argTypes:=ts })(hx:a.eval x = .func (.func f) #[] vs)
  (hb:∃fn c,P.funcs[f]? = some fn/\fn.body=some c/\fn.name ≠ "runtime.NumGoroutine"):(execOp a.eval o).run P w = .ok (.enter f (args.map a.eval++vs)) w:=by
 obtain⟨fn,c,h1,h2,h3⟩:=hb;obtain⟨dst,op,ty,pos,after,guard⟩:=o;simp only at ho;subst ho;have hne:(fn.name == "runtime.NumGoroutine")=false:=by simpa using h3
 simp only[execOp,resolve,hx,Deferred.ofValue,zq,n7,zi,invoke,callFunc,program,Sem.run,h1,hne,h2];simp
theorem gG{w:World}{imm:Nat->Nat->Prop}{μ:Nat->H8}{p9:Nat->Prop}{v:Value}{f:Fn}{cap:List PV}(h:Rd w imm μ p9 v (.fn f cap)) :
  ∃vs:Array Value,v = .func f #[] vs/\vs.size=cap.length/\∀(i:Nat) v c,vs[i]? = some v->cap[i]? = some c->Rd w imm μ p9 v c:=by
 cases h with
 | cl h=>cases h with | fn _ vs _ hn h=>exact⟨vs,rfl,hn,λi v c hv hc=>.cl (h i v c hv hc)⟩
 | fn _ vs _ hn h=>exact⟨vs,rfl,hn,h⟩
theorem sC{σ σF:Nat->Option Row}(hs:E8 σ σF){w:World}{imm:Nat->Nat->Prop}{μ:Nat->H8}{v:Value}{d:PV}(hr:Rd w imm μ (λl=>∃r,σ l=some r) v d) :
  d.v0 σF=d.v0 σ/\d.cM σF=d.cM σ:=by
 cases d <;> first | exact⟨rfl,rfl⟩ | skip
 rename_i l;obtain⟨⟨r,hl⟩,_⟩:=hr.bx;obtain⟨r',h1,h2,h3,h4⟩:=hs l r hl;simp only[PV.v0,PV.cM,hl,h1,h2,h4,and_self]
theorem vC{σF:Nat->Option Row}(h:A6 X g st a w)(hs:E8 st.σ σF){v:Value}{d:PV}(hr:Rd w g.imm g.μ st.p9 v d) :
  d.v2 σF=d.v2 st.σ/\d.kD σF=d.kD st.σ/\d.O3 σF=d.O3 st.σ:=by
 by_cases hd:∃l i f,d = .ptr l i f
 .obtain⟨l,i,f,rfl⟩:=hd;obtain⟨⟨r,hl⟩,b,s,hA,_⟩:=hr.Y5;obtain⟨r',h1,h2,h3,h4⟩:=hs l r hl;simp only[PV.v2,PV.kD,PV.O3,hl,h1,h2];cases hx:r.els[i]? with
  | none=>exact⟨rfl,rfl,trivial⟩
  | some x=>
   simp only;have hall:∀y∈x.cells.drop f,y.v0 σF=y.v0 st.σ/\y.cM σF=y.cM st.σ:=by
    intro y hy;obtain⟨j,hj⟩:=za2 hy;obtain⟨u,_,k2,_⟩:=h.cell_of hl hx (vV hj) hA;exact sC hs k2
   have hok:∀(L:List PV),(∀y∈L,y.v0 σF=y.v0 st.σ/\y.cM σF=y.cM st.σ)->(L.all λy=>y.cM σF&&y.sc)=(L.all λy=>y.cM st.σ&&y.sc):=by
    intro L hL;induction L with
    | nil=>rfl
    | cons y L ih=>
     simp only[List.all_cons];rw[(hL y (by simp)).2,ih λz hz=>hL z (by simp[hz])]
   exact⟨by rw[zO λy hy=>(hall y hy).1],hok _ hall,trivial⟩
 .have e:d.v2 σF=d.v0 σF:=by cases d <;> first | rfl | exact absurd ⟨_,_,_,rfl⟩ hd
  have e1:d.v2 st.σ=d.v0 st.σ:=by cases d <;> first | rfl | exact absurd ⟨_,_,_,rfl⟩ hd
  have e2:d.kD σF=d.cM σF:=by cases d <;> first | rfl | exact absurd ⟨_,_,_,rfl⟩ hd
  have e3:d.kD st.σ=d.cM st.σ:=by cases d <;> first | rfl | exact absurd ⟨_,_,_,rfl⟩ hd
  have e4:d.O3 σF=d.O3 st.σ:=by cases d <;> first | rfl | exact absurd ⟨_,_,_,rfl⟩ hd
  rw[e,e1,e2,e3,e4];exact⟨(sC hs hr).1,(sC hs hr).2,rfl⟩
theorem kX{α:Type}{p q:α->Bool}:∀ {L:List α},(∀y∈L,p y=q y)->L.all p=L.all q
 | [],_=>rfl
 | y::L,h=>by rw[List.all_cons,List.all_cons,h y (by simp),kX λz hz=>h z (by simp[hz])]
theorem W1{α β:Type}{p q:α->List β}:∀ {L:List α},(∀y∈L,p y=q y)->L.flatMap p=L.flatMap q
 | [],_=>rfl
 | y::L,h=>by rw[zaz,zaz,h y (by simp),W1 λz hz=>h z (by simp[hz])]
theorem vD{σF:Nat->Option Row}(h:A6 X g st a w)(hs:E8 st.σ σF){v:Value}{d:PV}(hr:Rd w g.imm g.μ st.p9 v d) :
  d.v3 σF=d.v3 st.σ/\d.mw σF=d.mw st.σ/\d.Y7 σF=d.Y7 st.σ:=by
 have hcs:∀ {vs:Array Value} {cs:List PV},vs.size=cs.length->(∀(i:Nat) v c,vs[i]? = some v->cs[i]? = some c->Rd w g.imm g.μ st.p9 v c)->∀y∈cs,∃v,Rd w g.imm g.μ st.p9 v y:=by
  intro vs cs hn hc y hy;obtain⟨j,hj⟩:=za2 hy;have hlt:=A9 hj;exact⟨_,hc j _ y (zp (by omega)) hj⟩
 cases d;case agg cs=>
  obtain⟨vs,_,hn,hc⟩:=hr.fQ;have hall:=hcs hn hc;simp only[PV.v3,PV.mw,PV.Y7];exact⟨by rw[zO λy hy=>(sC hs (hall y hy).choose_spec).1],kX λy hy=>by rw[(sC hs (hall y hy).choose_spec).2],trivial⟩
 case fn f cap=>
  obtain⟨vs,_,hn,hc⟩:=gG hr;have hall:=hcs hn hc;simp only[PV.v3,PV.mw,PV.Y7];exact⟨by rw[zO λy hy=>(vC h hs (hall y hy).choose_spec).1],kX λy hy=>by rw[(vC h hs (hall y hy).choose_spec).2.1],
   W1 λy hy=>(vC h hs (hall y hy).choose_spec).2.2⟩
 all_goals exact vC h hs hr
theorem JK{σF:Nat->Option Row}(h:A6 X g st a w)(hs:E8 st.σ σF){v:Value}{d:PV}(hr:Rd w g.imm g.μ st.p9 v d) :
  d.view σF=d.view st.σ/\d.kH σF=d.kH st.σ/\d.L2 σF=d.L2 st.σ:=by
 have hcs:∀ {vs:Array Value} {cs:List PV},vs.size=cs.length->(∀(i:Nat) v c,vs[i]? = some v->cs[i]? = some c->Rd w g.imm g.μ st.p9 v c)->∀y∈cs,∃v,Rd w g.imm g.μ st.p9 v y:=by
  intro vs cs hn hc y hy;obtain⟨j,hj⟩:=za2 hy;have hlt:=A9 hj;exact⟨_,hc j _ y (zp (by omega)) hj⟩
 cases d;case tup cs=>
  obtain⟨vs,_,hn,hc⟩:=hr.vB;have hall:=hcs hn hc;simp only[PV.view,PV.kH,PV.L2];exact⟨by rw[zO λy hy=>(vD h hs (hall y hy).choose_spec).1],kX λy hy=>(vD h hs (hall y hy).choose_spec).2.1,
   W1 λy hy=>(vD h hs (hall y hy).choose_spec).2.2⟩
 all_goals exact vD h hs hr
theorem uY(h:A6 X g st a w){args:Array Operand}{vs:Array Value}{cap:List PV}(hn:vs.size=cap.length)(hc:∀(i:Nat) v c,vs[i]? = some v->cap[i]? = some c->Rd w g.imm g.μ st.p9 v c) :
  (args.map a.eval++vs).size=(args.toList.map (y7 st.env)++cap).length/\∀(i:Nat) v d,(args.map a.eval++vs)[i]? = some v->(args.toList.map (y7 st.env)++cap)[i]? = some d->Rd w g.imm g.μ st.p9 v d:=by
 refine⟨by simp[hn],λi v d hv hd=>?_⟩;rcases zD i args.size with q | q
 .rw[me (by simpa using q)] at hv;rw[zN (by simpa using q)] at hd;simp[Array.getElem?_map,zp q] at hv hd;rw[<-hv,<-hd];exact h.eval _
 .rw[zah (by simpa using q)] at hv;rw[zM (by simpa using q)] at hd;simp at hv hd;exact hc _ v d hv hd
theorem kG{σF:Nat->Option Row}(h:A6 X g st a w)(hs:E8 st.σ σF){imm2:Nat->Nat->Prop}(hx:Ext w g.imm w imm2){vs:Array Value}{ds:List PV}(hn:vs.size=ds.length)
  (hr:∀(i:Nat) v d,vs[i]? = some v->ds[i]? = some d->Rd w g.imm g.μ st.p9 v d)(hok:ds.all (PV.kH σF)=true)
  (hsh:∀l∈ds.flatMap (PV.L2 σF),∀r,st.σ l=some r->Shown imm2 (g.μ l) r):CA w imm2 vs (ds.map (PV.view σF)):=by
 refine⟨by simp[hn],λi v d hv hd=>?_⟩;rw[zG] at hd;cases hd0:ds[i]? with
 | none=>rw[hd0] at hd;cases hd
 | some d0=>
  rw[hd0] at hd;cases hd;have hm:=zg hd0;have hrd:=hr i v d0 hv hd0;obtain⟨e1,e2,e3⟩:=JK h hs hrd;rw[e1];refine h.view hx hrd (by rw[<-e2];exact zd.1 hok d0 hm) λl hl r hr'=>hsh l (my.2 ⟨d0,hm,by rw[e3];exact hl⟩) r hr'
theorem A6.called(h:A6 X g st a w){w':World}(hb:jh w.heap.size w w')(N:Nat->Nat->Prop) :
  A6 X ⟨λb o=>g.imm b o\/(N b o/\w.heap.size<=b/\b<w'.heap.size),g.μ⟩ st a w':=by
 refine h.move ⟨λ_ _ q=>.inl q,λb o q=>hb.cell (p:=⟨b,o,none⟩) (h.immlt b o q),λb o x q hx _=>by rw[hb.block b (h.immlt b o q)];exact hx⟩
  (λl r b o hl ho=>⟨hb.cell (p:=⟨b,o,none⟩) (h.br hl ho).2,hb.frozen (p:=⟨b,o,none⟩) (h.br hl ho).2,?_⟩) (λb o q=>?_) (λb o q=>?_) (h.below.trans (hb.mono h.below.size))
  (λk x hx _=>by rw[hb.block k (ul.1 hx).1];exact hx)
  (λb o x q hx _=>q.elim id λ⟨_,q,_⟩=>absurd (ul.1 hx).1 (Nat.not_lt.2 q))
 .rintro (q | ⟨_,q,_⟩);·exact h.ownimm l r b o hl ho q
  .have:=(h.br hl ho).2;omega
 .rcases q with q | ⟨_,_,q⟩
  .exact zbj (h.immlt b o q) hb.size
  .exact q
 .rcases q with q | ⟨_,q,_⟩
  .exact h.immsub b o q
  .right;have:=h.below.size;omega
end
end Go.Pw
namespace Go.Pw
open Go.RowKit
section
variable{X:Ctx}{g:Gh}{st:St}{a:Act}{w:World}{n:Nat}{K:Act->World->Prop}{Q:Exit->Act->World->Prop}{ρ:Option Nat}{P:Program}
theorem CA.w2{w:World}{imm:Nat->Nat->Prop}{vs:Array Value}{ds:List PV}{σ:Nat->Option Row}(h:CA w imm vs (ds.map (PV.view σ))):CA w imm vs (ds.map (PV.vw σ)):=by
 refine⟨by simpa using h.1,λi v d hv hd=>?_⟩;obtain⟨c0,k1,rfl⟩:=dm hd;exact (h.2 i v (c0.view σ) hv (by rw[zG,k1];rfl)).w2
theorem Qi{o:Oper}{x:Operand}{args:Array Operand}{ts:Array TypeId}{f:FuncId}{cap:List PV}{d:PV}{σF:Nat->Option Row}(h:A6 X g st a w)(hs:E8 st.σ σF)(ho:o.op = .call { callee:=.value x,args,argTypes:=ts })
  (hdst:∀t,o.dst=some t->t<X.N)(hf:y7 st.env x = .fn (.func f) cap)(hb:∃fn c,X.P.funcs[f]? = some fn/\fn.body=some c/\fn.name ≠ "runtime.NumGoroutine")
  (hok:(args.toList.map (y7 st.env)++cap).all (PV.kH σF)=true)(hc:N9 X.P f ((args.toList.map (y7 st.env)++cap).map (PV.vw σF)) d)(hfl:d.flat=true)
  (hK:∀g' a' w',A6 X g' ⟨Q0 st.env o.dst d,st.σ⟩ a' w'->K a' w'):o.wpIn (FX ρ) n X.P a w K Q:=by
 have hv:=h.eval x;rw[hf] at hv;obtain⟨vs,e,hn,hcap⟩:=gG hv;obtain⟨hsz,hrd⟩:=uY h (args:=args) hn hcap;obtain⟨imm2,hF,hX,hSh⟩:=h.Q5 ((args.toList.map (y7 st.env)++cap).flatMap (PV.L2 σF));have hargs:=kG h hs hX hsz hrd hok (λl hl r hr=>hSh l hl r hr) |>.w2;refine aV (λc=>by rw[ho];simp) (gl ho e hb) ((hc w imm2 _ hF.immlt h.gt hargs).mono λev w' hr=>?_);obtain⟨v,rfl,hbel,hres⟩:=hr;refine⟨v,rfl,?_⟩;have hS:=h.called hbel (λ_ _=>False);exact hK _ _ _ (hS.put hdst (.cl (hres.flat hfl _ _)))
theorem Mi{o:Oper}{x:Operand}{args:Array Operand}{ts:Array TypeId}{f:FuncId}{cap:List PV}{d:PV}{σF:Nat->Option Row}(h:A6 X g st a w)(hs:E8 st.σ σF)(ho:o.op = .call { callee:=.value x,args,argTypes:=ts })
  (hdst:∀t,o.dst=some t->t<X.N)(hf:y7 st.env x = .fn (.func f) cap)(hb:∃fn c,X.P.funcs[f]? = some fn/\fn.body=some c/\fn.name ≠ "runtime.NumGoroutine")
  (hok:(args.toList.map (y7 st.env)++cap).all (PV.kH σF)=true)(hc:N9 X.P f ((args.toList.map (y7 st.env)++cap).map (PV.vw σF)) d)
  (hK:∀g' a' w',A6 X g' ⟨Q0 st.env o.dst d,Q5 st.σ ((args.toList.map (y7 st.env)++cap).flatMap (PV.L2 σF))⟩ a' w'->K a' w'):o.wpIn (FX ρ) n X.P a w K Q:=by
 have hv:=h.eval x;rw[hf] at hv;obtain⟨vs,e,hn,hcap⟩:=gG hv;obtain⟨hsz,hrd⟩:=uY h (args:=args) hn hcap;obtain⟨imm2,hF,hX,hSh⟩:=h.Q5 ((args.toList.map (y7 st.env)++cap).flatMap (PV.L2 σF));have hargs:=kG h hs hX hsz hrd hok (λl hl r hr=>hSh l hl r hr) |>.w2;refine aV (λc=>by rw[ho];simp) (gl ho e hb) ((hc w imm2 _ hF.immlt h.gt hargs).mono λev w' hr=>?_);obtain⟨v,rfl,hbel,hres⟩:=hr;refine⟨v,rfl,?_⟩;have hS:=hF.called hbel (λ_ _=>True);refine hK _ _ _ (hS.put hdst (.cl (hres.mono ⟨λb o q=>?_,λ_ _ _=>rfl,λ_ _ _ _ q _=>q⟩)));rcases q with q | ⟨q1,q2⟩
 .exact .inl q
 .exact .inr ⟨trivial,q1,q2⟩
theorem Mj{o:Oper}{x:Operand}{args:Array Operand}{ts:Array TypeId}{f:FuncId}{cap:List PV}{r:Row}{l:Nat}{σF:Nat->Option Row}(h:A6 X g st a w)(hs:E8 st.σ σF)(ho:o.op = .call { callee:=.value x,args,argTypes:=ts })
  (hdst:∀t,o.dst=some t->t<X.N)(hlm:l<MB)(hl:st.σ l=none)(hf:y7 st.env x = .fn (.func f) cap)(hb:∃fn c,X.P.funcs[f]? = some fn/\fn.body=some c/\fn.name ≠ "runtime.NumGoroutine")
  (hok:(args.toList.map (y7 st.env)++cap).all (PV.kH σF)=true)(hc:kN X.P f ((args.toList.map (y7 st.env)++cap).map (PV.vw σF)) r)
  (hK:∀g' a' w',A6 X g' ⟨Q0 st.env o.dst (.sl l),w8 (Q5 st.σ ((args.toList.map (y7 st.env)++cap).flatMap (PV.L2 σF))) l (some r)⟩ a' w'->K a' w'):o.wpIn (FX ρ) n X.P a w K Q:=by
 have hv:=h.eval x;rw[hf] at hv;obtain⟨vs,e,hn,hcap⟩:=gG hv;obtain⟨hsz,hrd⟩:=uY h (args:=args) hn hcap;generalize hls:(args.toList.map (y7 st.env)++cap).flatMap (PV.L2 σF)=ls at hK;obtain⟨imm2,hF,hX,hSh⟩:=h.Q5 ls;have hargs:=kG h hs hX hsz hrd hok (λl hl r hr=>hSh l (by rw[<-hls];exact hl) r hr) |>.w2;refine aV (λc=>by rw[ho];simp) (gl ho e hb) ((hc w imm2 _ hF.immlt h.gt hargs).mono λev w' hr=>?_);obtain⟨m,rfl,hbel,hRow,hown⟩:=hr;refine⟨_,rfl,?_⟩;have hS:=hF.called hbel (λb o=>¬G9 m r b o);have hl':Q5 st.σ ls l=none:=by
  clear hS hRow hargs hSh hF hK hc hls;revert hl
  generalize st.σ=σ;intro hl;induction ls generalizing σ with
  | nil=>exact hl
  | cons k ls ih=>
   refine ih (ju σ k) ?_;unfold ju;cases hk:σ k with
   | none=>exact hl
   | some q=>
    by_cases e:l=k
    .subst e;rw[hl] at hk;cases hk
    .simp only[o0 _ _ e];exact hl
 have hx2:Ext w' (λb o=>fD imm2 w w' b o/\¬G9 m r b o) w' (λb o=>imm2 b o\/(¬G9 m r b o/\w.heap.size<=b/\b<w'.heap.size)):=by
  refine⟨λb o q=>?_,λ_ _ _=>rfl,λ_ _ _ _ q _=>q⟩;rcases q with ⟨q | ⟨q1,q2⟩,q3⟩;·exact .inl q
  .exact .inr ⟨q3,q1,q2⟩
 have hRow':=hRow.mono (μ':=g.μ) (pres':=St.p9 ⟨st.env,Q5 st.σ ls⟩) hx2 (λ_ q=>q.elim) (λb o ho=>⟨rfl,rfl⟩);have hbase:=h.below.size;have hN:=hS.row (l:=l) (m:=m) (r:=r) hlm hl' ⟨hRow'.n,hRow'.z,hRow'.C,hRow'.lo,hRow'.el,hRow'.nil,hRow'.spot,hRow'.cell,λb o ho=>⟨by have:=(hRow'.own b o ho).1;omega,(hRow'.own b o ho).2⟩⟩
  (λl' r' b o q ho k=>by have:=(hF.br q ho).2;have:=hown b o k;omega)
  (λb o q k=>by
   rcases k with k | ⟨k,_⟩
   .have:=hF.immlt b o k;have:=hown b o q;omega
   .exact k q)
 exact hK _ _ _ (hN.put hdst (cd ⟨_,o8 _ _ _⟩ (o8 _ _ _)))
theorem small(h:A6 X g st a w){dst:Option Tmp}(hdst:∀t,dst=some t->t<X.N){l:Nat}(hd:dst=some l):l<MB:=by
 exact zbj (hdst l hd) (rx h.big.1 (by decide))
set_option maxHeartbeats 2000000 in
theorem Mm {o:Oper} {σF:Nat->Option Row} {d:PV} {e:U1} (h:A6 X g st a w) (hop:C0 X.P σF (y7 st.env) o.dst o.op d e) (hs:E8 st.σ σF) (hok:e.ok st.σ) (hdst:∀t,o.dst=some t->t<X.N)
  (hK:∀g' a' w',A6 X g' ⟨Q0 st.env o.dst d,e.apply st.σ⟩ a' w'->K a' w'):o.wpIn (FX ρ) n X.P a w K Q:=by
 by_cases hl:match o.op with | .move _ | .assign _ | .pick .. | .load .. | .nilCheck _ | .unOp .. | .binOp .. | .convert .. | .fieldAddr .. | .field .. | .indexAddr .. | .extract .. | .makeFunc .. => True | _=>False
 .obtain⟨rfl,hu⟩:=Qn h hop hs hl;refine cZ h (λc q=>?_) hdst hu hK;rw[q] at hl;exact hl
 obtain⟨dst,op,ty,pos,after,guard⟩:=o;simp only at hop hl;have hsrc:∀ {y:Operand} {ys:List PV} {cl:Bool},Src σF (y7 st.env y) ys cl->Src st.σ (y7 st.env y) ys cl:=λ{y ys cl} hy=>hy.same hs λl e=>by
  have:=h.eval y;rw[e] at this;exact this.bx.1
 have hrow:∀ {y:Operand} {l:Nat} {r:Row},y7 st.env y = .sl l->σF l=some r->∃r0,st.σ l=some r0/\r0.els=r.els/\r0.z=r.z/\r0.cl=r.cl:=λ{y l r} e hr=>by
  have:=h.eval y;rw[e] at this;exact hs.at this.bx.1 hr
 cases hop <;> first | (exact absurd trivial hl) | skip
 case pureV hnd hnl hc=>exact cZ h hnd hdst (hc _ w g.imm g.μ st.p9 a.eval rfl λx _=>h.eval x) hK
 case box T x l hd hx=>exact Uv h rfl hdst (small h hdst hd) hok hx hK
 case alloc T l v hd hz hx=>exact Mf h rfl hdst (small h hdst hd) hok hz hx (Hu v) hK
 case store T x y l i f d hx hd hy hsz hpos=>exact Mn h rfl hdst hx hd hy hsz hpos hok hK
 case build T parts pl z zs cs S9 hz hzs hsc hf=>exact cZ h (λc q=>by cases q) hdst (Mg h rfl S9 hz hzs hf hsc) hK
 case mkSlice T x y l k k' m E z v hd hx hy h0 hE hz hv hel hvz b hb hbm hn=>exact FD h rfl hdst (small h hdst hd) hok hx hy h0 hE hz hv hel hvz hb hbm hn hK
 case lenL x t xs T hx hT ts hts=>exact cZ h (λc q=>by cases q) hdst (Qk h rfl hx hT hts) hK
 case lenR x l r T hx hl' hT ts hts=>
  obtain⟨r0,k1,k2,_⟩:=hrow hx hl';have:=Ql h (o:=⟨dst,.call { callee:=.builtin .len,args:=#[x],argTypes:=ts },ty,pos,after,guard⟩) rfl hx k1 hT hts;rw[k2] at this;exact cZ h (λc q=>by cases q) hdst this hK
 case lenS x s T hx hT ts hts=>exact cZ h (λc q=>by cases q) hdst (Qm h rfl hx hT hts) hK
 case min2 x y k p q ts hx hy=>exact cZ h (λc q=>by cases q) hdst (Ux h rfl hx hy) hK
 case max2 x y k p q ts hx hy=>exact cZ h (λc q=>by cases q) hdst (Uw h rfl hx hy) hK
 case call f args ts cap x hf hb hok' hc hfl=>exact Qi h hs rfl hdst hf hb hok' hc hfl hK
 case callF f args ts cap x hf hb hok' hc=>exact Mi h hs rfl hdst hf hb hok' hc hK
 case callN f args ts cap l r x hd hf hb hok' hc hcl=>exact Mj h hs rfl hdst (small h hdst hd) hok hf hb hok' hc hK
 case appT x y T E xs ys cl z by_ l zv hd hx hy hE hz hb hzv hzz hel hfit h63=>exact Qh h rfl hdst (small h hdst hd) hok hx (hsrc hy) hE hz hb hzv hzz hel hfit h63 hK
 case appR x y T E s r ys cl z by_ l zv hd hx hs' hy hE hz hb hzv hzz hel hrz hfit h63=>
  obtain⟨r0,k1,k2,k3,k4⟩:=hrow hx hs';obtain⟨hl',q,hq,hop⟩:=hok;rw[k1] at hq;cases hq;rw[<-k2,<-k4] at hK;rw[<-k2] at hel hfit h63;rw[<-k3] at hrz;exact Qg h rfl hdst (small h hdst hd) hl' hx k1 hop (hsrc hy) hE hz hb hzv hzz hel hrz hfit h63 hK
 case buildSlice T E parts len z l zv els cl hd hE hz hzv hlen hel hbig hf hcl=>exact ya h rfl hdst (small h hdst hd) hok hE hz hzv hlen hel hbig hf hcl hK
 case buildI T E parts len z zv els hE hz hzv hlen hel hbig hf hcl=>exact Jf h rfl hdst hE hz hzv hlen hel hbig hf hcl hK
 case nilSlice T E parts l z hd hE hz hp=>
  subst hp;have hu:=L0 hE;refine D3 (v:=.slice (some ⟨w.heap.size,0,none⟩) 0 0) (w':=w.alloc (.cells #[] E)) (λc q=>by cases q) ?_ (hK g _ _ ((h.alloc _).put hdst (.cl ?_)))
  .refine F2 ?_;simp only[Instr.buildSlice,zq,zP hu,zi,C8 hz];simp[Instr.fill,newRow,Array.range_zero']
  .exact .lst (some ⟨w.heap.size,0,none⟩) 0 1 true [] (λ_ _=>undef) (zt _) (λ_=>rfl) (λq=>by cases q) (λ_ q=>by simp at q) (λq=>absurd q (zbo _)) (λi x j y q=>by simp at q)
 case sliceL T E z x lo hi mx t xs i j k hx hE hz hel hlo hhi hmx hmh hij hjk hk=>exact cZ h (λc q=>by cases q) hdst (Jh h rfl hx hE hz hel hlo hhi hmx hmh hij hjk hk) hK
 case sliceR T E z x lo s r i l hd hx hs' hE hz hrz hlo hi=>
  obtain⟨r0,k1,k2,k3,k4⟩:=hrow hx hs';obtain⟨hl',q,hq,hop⟩:=hok;rw[k1] at hq;cases hq;rw[<-k2,<-k4] at hK;rw[<-k2] at hi;rw[<-k3] at hrz;exact Ji h rfl hdst (small h hdst hd) hl' hx k1 hop hE hz hrz hlo hi hK
 case sliceF T E z x lo hi s r i j hx hs' hcl hE hz hrz hlo hhi hij hj=>
  obtain⟨r0,k1,k2,k3,k4⟩:=hrow hx hs';rw[<-k2] at hK hhi hj;rw[<-k3] at hrz;rw[<-k4] at hcl;exact Jg h rfl hdst hx k1 hcl hE hz hrz hlo hhi hij hj hK
 case copy x y T U E l r ys z hx hl' hcl hy hE hz hrz hel hn hzp=>
  obtain⟨r0,k1,k2,k3,k4⟩:=hrow hx hl';obtain⟨q,hq,hlo,_⟩:=hok;rw[k1] at hq;cases hq;rw[<-k2] at hn;rw[<-k3] at hrz;rw[<-k4] at hcl;exact Qj h rfl hdst hx k1 hcl hlo (hsrc hy) hE hz hrz hel hn hzp hK
end
end Go.Pw
namespace Go.Pw
open Go.RowKit
theorem pc{σ σ':Nat->Option Row}(hs:E8 σ σ'){d:PV}(h:d.cM σ=true):d.v0 σ'=d.v0 σ/\d.cM σ'=true:=by
 cases d <;> first | exact⟨rfl,h⟩ | skip
 rename_i l;simp only[PV.cM] at h;cases hl:σ l with
 | none=>rw[hl] at h;cases h
 | some r=>
  rw[hl] at h;obtain⟨r',h1,h2,h3,h4⟩:=hs l r hl;simp only[PV.v0,PV.cM,hl,h1,h2,h4];exact⟨trivial,h⟩
theorem V5{σ σ':Nat->Option Row}(hs:E8 σ σ'){d:PV}(h:d.kD σ=true):d.v2 σ'=d.v2 σ/\d.kD σ'=true/\d.O3 σ'=d.O3 σ:=by
 by_cases hd:∃l i f,d = .ptr l i f
 .obtain⟨l,i,f,rfl⟩:=hd;simp only[PV.kD] at h;cases hl:σ l with
  | none=>rw[hl] at h;cases h
  | some r=>
   rw[hl] at h;obtain⟨r',h1,h2,h3,h4⟩:=hs l r hl;simp only[PV.v2,PV.kD,PV.O3,hl,h1,h2];cases hx:r.els[i]? with
   | none=>simp only[hx] at h;cases h
   | some x=>
    simp only[hx,zd,zk] at h;simp only[zd,zk];exact⟨by rw[zO λy hy=>(pc hs (h y hy).1).1],λy hy=>⟨(pc hs (h y hy).1).2,(h y hy).2⟩,trivial⟩
 .have e:d.v2 σ'=d.v0 σ':=by cases d <;> first | rfl | exact absurd ⟨_,_,_,rfl⟩ hd
  have e1:d.v2 σ=d.v0 σ:=by cases d <;> first | rfl | exact absurd ⟨_,_,_,rfl⟩ hd
  have e2:d.kD σ'=d.cM σ':=by cases d <;> first | rfl | exact absurd ⟨_,_,_,rfl⟩ hd
  have e3:d.kD σ=d.cM σ:=by cases d <;> first | rfl | exact absurd ⟨_,_,_,rfl⟩ hd
  have e4:d.O3 σ'=d.O3 σ:=by cases d <;> first | rfl | exact absurd ⟨_,_,_,rfl⟩ hd
  rw[e,e1,e2,e4];rw[e3] at h;exact⟨(pc hs h).1,(pc hs h).2,rfl⟩
theorem U0{σ σ':Nat->Option Row}(hs:E8 σ σ'){d:PV}(h:d.mw σ=true):d.v3 σ'=d.v3 σ/\d.mw σ'=true/\d.Y7 σ'=d.Y7 σ:=by
 cases d;case agg cs=>
  simp only[PV.mw,zd,zk] at h;simp only[PV.v3,PV.mw,PV.Y7,zd,zk];exact⟨by rw[zO λy hy=>(pc hs (h y hy).1).1],λy hy=>⟨(pc hs (h y hy).1).2,(h y hy).2⟩,trivial⟩
 case fn f cap=>
  simp only[PV.mw,zd] at h;simp only[PV.v3,PV.mw,PV.Y7,zd];exact⟨by rw[zO λy hy=>(V5 hs (h y hy)).1],λy hy=>(V5 hs (h y hy)).2.1,W1 λy hy=>(V5 hs (h y hy)).2.2⟩
 case tup vs=>exact V5 (d:=.tup vs) hs h
 case bool b=>exact V5 (d:=.bool b) hs h
 case int k m=>exact V5 (d:=.int k m) hs h
 case str s=>exact V5 (d:=.str s) hs h
 case lst t xs=>exact V5 (d:=.lst t xs) hs h
 case sl l=>exact V5 (d:=.sl l) hs h
 case ptr l i f=>exact V5 (d:=.ptr l i f) hs h
 case rptr cs=>exact V5 (d:=.rptr cs) hs h
 case nilfn=>exact V5 (d:=.nilfn) hs h
 case abs R=>exact V5 (d:=.abs R) hs h
 case mp l=>exact V5 (d:=.mp l) hs h
 case mapc es=>exact V5 (d:=.mapc es) hs h
 case junk=>exact V5 (d:=.junk) hs h
theorem pe{σ σ':Nat->Option Row}(hs:E8 σ σ'){d:PV}(h:d.kH σ=true):d.view σ'=d.view σ/\d.kH σ'=true/\d.L2 σ'=d.L2 σ:=by
 cases d;case tup cs=>
  simp only[PV.kH,zd] at h;simp only[PV.view,PV.kH,PV.L2,zd];exact⟨by rw[zO λy hy=>(U0 hs (h y hy)).1],λy hy=>(U0 hs (h y hy)).2.1,W1 λy hy=>(U0 hs (h y hy)).2.2⟩
 case bool b=>exact U0 (d:=.bool b) hs h
 case int k m=>exact U0 (d:=.int k m) hs h
 case str s=>exact U0 (d:=.str s) hs h
 case lst t xs=>exact U0 (d:=.lst t xs) hs h
 case sl l=>exact U0 (d:=.sl l) hs h
 case ptr l i f=>exact U0 (d:=.ptr l i f) hs h
 case rptr cs=>exact U0 (d:=.rptr cs) hs h
 case nilfn=>exact U0 (d:=.nilfn) hs h
 case abs R=>exact U0 (d:=.abs R) hs h
 case mp l=>exact U0 (d:=.mp l) hs h
 case mapc es=>exact U0 (d:=.mapc es) hs h
 case junk=>exact U0 (d:=.junk) hs h
 case agg cs=>exact U0 (d:=.agg cs) hs h
 case fn f cap=>exact U0 (d:=.fn f cap) hs h
theorem qC{σ σ':Nat->Option Row}(hs:E8 σ σ'){ds:List PV}(h:ds.all (PV.kH σ)=true) :
  ds.map (PV.view σ')=ds.map (PV.view σ)/\ds.all (PV.kH σ')=true/\ds.flatMap (PV.L2 σ')=ds.flatMap (PV.L2 σ):=by
 rw[zd] at h;exact⟨zO λd hd=>(pe hs (h d hd)).1,zd.2 λd hd=>(pe hs (h d hd)).2.1,W1 λd hd=>(pe hs (h d hd)).2.2⟩
theorem xF{σ σ':Nat->Option Row}(hs:E8 σ σ'){ds:List PV}(h:ds.all (PV.kH σ)=true):ds.map (PV.vw σ')=ds.map (PV.vw σ):=by
 rw[zd] at h;exact zO λd hd=>by unfold PV.vw;rw[(pe hs (h d hd)).1]
theorem Src.mono{σ σ':Nat->Option Row}(hs:E8 σ σ'){d:PV}{ys:List PV}{cl:Bool}(h:Src σ d ys cl):Src σ' d ys cl:=by
 rcases h with h | ⟨l,r,h1,h2,h3,h4⟩
 .exact .inl h
 .obtain⟨r',k1,k2,k3,k4⟩:=hs l r h2;exact .inr ⟨l,r',h1,k1,by rw[h3,k2],by rw[h4,k4]⟩
theorem C0.mono{P:Program}{σ σ':Nat->Option Row}{ρ:Operand->PV}{dst:Option Tmp}{op:Op}{d:PV}{e:U1}(hs:E8 σ σ')(h:C0 P σ ρ dst op d e):C0 P σ' ρ dst op d e:=by
 cases h;case mH T x l i f r y n hx hl hy ha hsz hf=>
  obtain⟨r',k1,k2,k3,k4⟩:=hs l r hl;exact .mH T x l i f r' y n hx k1 (by rw[k2];exact hy) ha hsz hf
 case jR T x l i f r y hx hl hy ha hf=>
  obtain⟨r',k1,k2,k3,k4⟩:=hs l r hl;exact .jR T x l i f r' y _ hx k1 (by rw[k2];exact hy) ha hf
 case idxR T x y l r k n E hx hl hy h0 hn hE hz=>
  obtain⟨r',k1,k2,k3,k4⟩:=hs l r hl;exact .idxR T x y l r' k n E hx k1 hy h0 (by rw[k2];exact hn) hE (by rw[k3];exact hz)
 case lenR x l r T hx hl hT ts hts=>
  obtain⟨r',k1,k2,k3,k4⟩:=hs l r hl;rw[<-k2];exact .lenR x l r' T hx k1 hT ts hts
 case call f args ts cap x hf hb hok hc hfl=>
  obtain⟨k1,k2,k3⟩:=qC hs hok;exact .call f args ts cap _ x hf hb k2 (by rw[xF hs hok];exact hc) hfl
 case callF f args ts cap x hf hb hok hc=>
  obtain⟨k1,k2,k3⟩:=qC hs hok;rw[<-k3];exact .callF f args ts cap _ x hf hb k2 (by rw[xF hs hok];exact hc)
 case callN f args ts cap l r x hd hf hb hok hc hcl=>
  obtain⟨k1,k2,k3⟩:=qC hs hok;rw[<-k3];exact .callN f args ts cap l r x hd hf hb k2 (by rw[xF hs hok];exact hc) hcl
 case appT x y T E xs ys cl z by_ l zv hd hx hy hE hz hb hzv hzz hel hfit h63=>exact .appT x y T E xs ys cl z by_ l zv hd hx (hy.mono hs) hE hz hb hzv hzz hel hfit h63
 case appR x y T E s r ys cl z by_ l zv hd hx hs' hy hE hz hb hzv hzz hel hrz hfit h63=>
  obtain⟨r',k1,k2,k3,k4⟩:=hs s r hs';rw[<-k2,<-k4];exact .appR x y T E s r' ys cl z by_ l zv hd hx k1 (hy.mono hs) hE hz hb hzv hzz (by rw[k2];exact hel) (by rw[k3];exact hrz) (by rw[k2];exact hfit) (by rw[k2];exact h63)
 case sliceR T E z x lo s r i l hd hx hs' hE hz hrz hlo hi=>
  obtain⟨r',k1,k2,k3,k4⟩:=hs s r hs';rw[<-k2,<-k4];exact .sliceR T E z x lo s r' i l hd hx k1 hE hz (by rw[k3];exact hrz) hlo (by rw[k2];exact hi)
 case sliceF T E z x lo hi s r i j hx hs' hcl hE hz hrz hlo hhi hij hj=>
  obtain⟨r',k1,k2,k3,k4⟩:=hs s r hs';rw[<-k2];exact .sliceF T E z x lo hi s r' i j hx k1 (by rw[k4];exact hcl) hE hz (by rw[k3];exact hrz) hlo (by rw[k2];exact hhi) hij (by rw[k2];exact hj)
 case copy x y T U E l r ys z hx hl hcl hy hE hz hrz hel hn hzp=>
  obtain⟨r',k1,k2,k3,k4⟩:=hs l r hl;exact .copy x y T U E l r' ys z hx k1 (by rw[k4];exact hcl) (hy.mono hs) hE hz (by rw[k3];exact hrz) hel (by rw[k2];exact hn) hzp
 case move x=>exact .move x
 case assign x=>exact .assign x
 case pick c a b t h=>exact .pick c a b t h
 case box T x l hd hx=>exact .box T x l hd hx
 case alloc T l v hd hz hx=>exact .alloc T l v hd hz hx
 case fz T x cs n hx ha hsz hf=>exact .fz T x cs n hx ha hsz hf
 case fA T x cs hx ha hf=>exact .fA T x cs _ hx ha hf
 case store T x y l i f d hx hd hy hsz hpos=>exact .store T x y l i f d hx hd hy hsz hpos
 case pureV hnd hnl h=>exact .pureV _ _ hnd hnl h
 case nilCheckP x l i f hx=>exact .nilCheckP x l i f hx
 case nilCheckR x cs hx=>exact .nilCheckR x cs hx
 case not t x b hx=>exact .not t x b hx
 case neg t x k n hx=>exact .neg t x k n hx
 case ari op t u x y k a b r hx hy hr=>exact .ari op t u x y k a b r hx hy hr
 case cmp op t u x y k a b r hx hy hr=>exact .cmp op t u x y k a b r hx hy hr
 case eqB t u x y a b hx hy ht=>exact .eqB t u x y a b hx hy ht
 case neB t u x y a b hx hy ht=>exact .neB t u x y a b hx hy ht
 case eqS t u x y a b hx hy=>exact .eqS t u x y a b hx hy
 case neS t u x y a b hx hy=>exact .neS t u x y a b hx hy
 case conv s t x k k' n hx h1 ht=>exact .conv s t x k k' n hx h1 ht
 case fieldAddrP T x f l i q off ft hx ho=>exact .fieldAddrP T x f l i q off ft hx ho
 case fieldAddrR T x f cs off ft hx ho=>exact .fieldAddrR T x f cs off ft hx ho
 case fieldA T x f cs off ft n hx ho ha hsz hn=>exact .fieldA T x f cs off ft n hx ho ha hsz hn
 case fieldS T x f cs off ft hx ho ha hd=>exact .fieldS T x f cs off ft _ hx ho ha hd
 case idxL T x y t xs k n e E hx hy h0 he hE hz=>exact .idxL T x y t xs k n e E hx hy h0 he hE hz
 case idxA T x y l i f k n len E z hx hy h0 hn hE hz=>exact .idxA T x y l i f k n len E z hx hy h0 hn hE hz
 case idxRA T x y cs k n len E z hx hy h0 hn hE hz=>exact .idxRA T x y cs k n len E z hx hy h0 hn hE hz
 case extract x i ds hx hd=>exact .extract x i ds _ hx hd
 case build T parts pl z zs cs S9 hz hzs hsc hf=>exact .build T parts pl z zs cs S9 hz hzs hsc hf
 case mkFunc fn cap=>exact .mkFunc fn cap
 case mkSlice T x y l k k' n E z v hd hx hy h0 hE hz hv hel hvz b hb hbm hn=>exact .mkSlice T x y l k k' n E z v hd hx hy h0 hE hz hv hel hvz b hb hbm hn
 case lenL x t xs T hx hT ts hts=>exact .lenL x t xs T hx hT ts hts
 case lenS x s T hx hT ts hts=>exact .lenS x s T hx hT ts hts
 case min2 x y k a b ts hx hy=>exact .min2 x y k a b ts hx hy
 case max2 x y k a b ts hx hy=>exact .max2 x y k a b ts hx hy
 case buildSlice T E parts len z l zv els cl hd hE hz hzv hlen hel hbig hf hcl=>exact .buildSlice T E parts len z l zv els cl hd hE hz hzv hlen hel hbig hf hcl
 case nilSlice T E parts l z hd hE hz hp=>exact .nilSlice T E parts l z hd hE hz hp
 case buildI T E parts len z zv els hE hz hzv hlen hel hbig hf hcl=>exact .buildI T E parts len z zv els hE hz hzv hlen hel hbig hf hcl
 case sliceL T E z x lo hi mx t xs i j k hx hE hz hel hlo hhi hmx hmh hij hjk hk=>exact .sliceL T E z x lo hi mx t xs i j k hx hE hz hel hlo hhi hmx hmh hij hjk hk
def U1.key:U1->Option Nat
 | .new l _ | .app _ l _ | .frzN _ l _=>some l
 | _=>Option.none
theorem C0.key{P:Program}{σ:Nat->Option Row}{ρ:Operand->PV}{dst:Option Tmp}{op:Op}{d:PV}{e:U1}(h:C0 P σ ρ dst op d e):∀l,e.key=some l->dst=some l:=by
 intro l hl;cases h <;> first | (cases hl;done) | (cases hl;assumption)
theorem Pr{env:Nat->PV}{dst:Option Tmp}{d:PV}{x:Operand}(h:∀t,dst=some t->x ≠ .tmp t):y7 (Q0 env dst d) x=y7 env x:=by
 cases dst with
 | none=>rfl
 | some t=>
  cases x with
  | tmp u=>
   have:u≠t:=λe=>h t rfl (by rw[e]);simp only[y7,Q0,o0 _ _ this]
  | _=>rfl
theorem C0.congr{P:Program}{σ:Nat->Option Row}{ρ ρ':Operand->PV}{dst:Option Tmp}{op:Op}{d:PV}{e:U1}(hρ:∀x∈op.operands,ρ x=ρ' x)(h:C0 P σ ρ dst op d e):C0 P σ ρ' dst op d e:=by
 have key:∃ρ'':Operand->PV,(∀x∈op.operands,ρ'' x=ρ' x)/\ρ''=ρ:=⟨ρ,hρ,rfl⟩;clear key;cases h;case move x=>rw[hρ x (by simp[Op.operands])];exact .move x
 case assign x=>rw[hρ x (by simp[Op.operands])];exact .assign x
 case pick c a b t h=>
  rw[hρ c (by simp[Op.operands])] at h;rw[hρ a (by simp[Op.operands]),hρ b (by simp[Op.operands])];exact .pick c a b t h
 case box T x l hd hx=>
  rw[hρ x (by simp[Op.operands])] at hx |-;exact .box T x l hd hx
 case alloc T l v hd hz hx=>exact .alloc T l v hd hz hx
 case mH T x l i f r y n hx hl hy ha hsz hf=>exact .mH T x l i f r y n (by rw[<-hρ x (by simp[Op.operands])];exact hx) hl hy ha hsz hf
 case jR T x l i f r y hx hl hy ha hf=>exact .jR T x l i f r y _ (by rw[<-hρ x (by simp[Op.operands])];exact hx) hl hy ha hf
 case fz T x cs n hx ha hsz hf=>exact .fz T x cs n (by rw[<-hρ x (by simp[Op.operands])];exact hx) ha hsz hf
 case fA T x cs hx ha hf=>exact .fA T x cs _ (by rw[<-hρ x (by simp[Op.operands])];exact hx) ha hf
 case store T x y l i f d hx hd hy hsz hpos=>
  rw[hρ y (by simp[Op.operands])] at hd;exact .store T x y l i f d (by rw[<-hρ x (by simp[Op.operands])];exact hx) hd hy hsz hpos
 case pureV hnd hnl h=>
  exact .pureV _ _ hnd hnl λo w imm μ p9 ev ho hx=>h o w imm μ p9 ev ho λx hm=>by rw[hρ x hm];exact hx x hm
 case nilCheckP x l i f hx=>
  rw[hρ x (by simp[Op.operands])] at hx |-;exact .nilCheckP x l i f hx
 case nilCheckR x cs hx=>
  rw[hρ x (by simp[Op.operands])] at hx |-;exact .nilCheckR x cs hx
 case not t x b hx=>exact .not t x b (by rw[<-hρ x (by simp[Op.operands])];exact hx)
 case neg t x k n hx=>exact .neg t x k n (by rw[<-hρ x (by simp[Op.operands])];exact hx)
 case ari op t u x y k a b r hx hy hr=>exact .ari op t u x y k a b r (by rw[<-hρ x (by simp[Op.operands])];exact hx) (by rw[<-hρ y (by simp[Op.operands])];exact hy) hr
 case cmp op t u x y k a b r hx hy hr=>exact .cmp op t u x y k a b r (by rw[<-hρ x (by simp[Op.operands])];exact hx) (by rw[<-hρ y (by simp[Op.operands])];exact hy) hr
 case eqB t u x y a b hx hy ht=>exact .eqB t u x y a b (by rw[<-hρ x (by simp[Op.operands])];exact hx) (by rw[<-hρ y (by simp[Op.operands])];exact hy) ht
 case neB t u x y a b hx hy ht=>exact .neB t u x y a b (by rw[<-hρ x (by simp[Op.operands])];exact hx) (by rw[<-hρ y (by simp[Op.operands])];exact hy) ht
 case eqS t u x y a b hx hy=>exact .eqS t u x y a b (by rw[<-hρ x (by simp[Op.operands])];exact hx) (by rw[<-hρ y (by simp[Op.operands])];exact hy)
 case neS t u x y a b hx hy=>exact .neS t u x y a b (by rw[<-hρ x (by simp[Op.operands])];exact hx) (by rw[<-hρ y (by simp[Op.operands])];exact hy)
 case conv s t x k k' n hx h1 ht=>exact .conv s t x k k' n (by rw[<-hρ x (by simp[Op.operands])];exact hx) h1 ht
 case fieldAddrP T x f l i q off ft hx ho=>exact .fieldAddrP T x f l i q off ft (by rw[<-hρ x (by simp[Op.operands])];exact hx) ho
 case fieldAddrR T x f cs off ft hx ho=>exact .fieldAddrR T x f cs off ft (by rw[<-hρ x (by simp[Op.operands])];exact hx) ho
 case fieldA T x f cs off ft n hx ho ha hsz hn=>exact .fieldA T x f cs off ft n (by rw[<-hρ x (by simp[Op.operands])];exact hx) ho ha hsz hn
 case fieldS T x f cs off ft hx ho ha hd=>exact .fieldS T x f cs off ft _ (by rw[<-hρ x (by simp[Op.operands])];exact hx) ho ha hd
 case idxL T x y t xs k n e E hx hy h0 he hE hz=>exact .idxL T x y t xs k n e E (by rw[<-hρ x (by simp[Op.operands])];exact hx) (by rw[<-hρ y (by simp[Op.operands])];exact hy) h0 he hE hz
 case idxR T x y l r k n E hx hl hy h0 hn hE hz=>exact .idxR T x y l r k n E (by rw[<-hρ x (by simp[Op.operands])];exact hx) hl (by rw[<-hρ y (by simp[Op.operands])];exact hy) h0 hn hE hz
 case idxA T x y l i f k n len E z hx hy h0 hn hE hz=>exact .idxA T x y l i f k n len E z (by rw[<-hρ x (by simp[Op.operands])];exact hx) (by rw[<-hρ y (by simp[Op.operands])];exact hy) h0 hn hE hz
 case idxRA T x y cs k n len E z hx hy h0 hn hE hz=>exact .idxRA T x y cs k n len E z (by rw[<-hρ x (by simp[Op.operands])];exact hx) (by rw[<-hρ y (by simp[Op.operands])];exact hy) h0 hn hE hz
 case extract x i ds hx hd=>exact .extract x i ds _ (by rw[<-hρ x (by simp[Op.operands])];exact hx) hd
 case build T parts pl z zs cs S9 hz hzs hsc hf=>
  refine .build T parts pl z zs cs S9 hz hzs hsc ?_;rw[<-hf];congr 1;refine zO λp hp=>?_;rw[hρ p.2 (by simp only[Op.operands,List.mem_toArray,zE];exact (by simp;exact⟨p.1,by simpa using hp⟩))]
 case mkFunc fn cap=>
  rw[zO λx hx=>hρ x (by simp only[Op.operands];simpa using hx)];exact .mkFunc fn cap
 case mkSlice T x y l k k' n E z v hd hx hy h0 hE hz hv hel hvz b hb hbm hn=>
  exact .mkSlice T x y l k k' n E z v hd (by rw[<-hρ x (by simp[Op.operands])];exact hx) (by rw[<-hρ y (by simp[Op.operands])];exact hy) h0 hE hz hv hel hvz b hb hbm hn
 case lenL x t xs T hx hT ts hts=>exact .lenL x t xs T (by rw[<-hρ x (by simp[Op.operands,Call.operands])];exact hx) hT ts hts
 case lenR x l r T hx hl hT ts hts=>exact .lenR x l r T (by rw[<-hρ x (by simp[Op.operands,Call.operands])];exact hx) hl hT ts hts
 case lenS x s T hx hT ts hts=>exact .lenS x s T (by rw[<-hρ x (by simp[Op.operands,Call.operands])];exact hx) hT ts hts
 case min2 x y k a b ts hx hy=>exact .min2 x y k a b ts (by rw[<-hρ x (by simp[Op.operands,Call.operands])];exact hx) (by rw[<-hρ y (by simp[Op.operands,Call.operands])];exact hy)
 case max2 x y k a b ts hx hy=>exact .max2 x y k a b ts (by rw[<-hρ x (by simp[Op.operands,Call.operands])];exact hx) (by rw[<-hρ y (by simp[Op.operands,Call.operands])];exact hy)
 case call f args ts cap x hf hb hok hc hfl=>
  have e:args.toList.map ρ=args.toList.map ρ':=zO λy hy=>hρ y (by simp[Op.operands,Call.operands];right;simpa using hy);rw[e] at hok hc;exact .call f args ts cap _ x (by rw[<-hρ x (by simp[Op.operands,Call.operands])];exact hf) hb hok hc hfl
 case callF f args ts cap x hf hb hok hc=>
  have e:args.toList.map ρ=args.toList.map ρ':=zO λy hy=>hρ y (by simp[Op.operands,Call.operands];right;simpa using hy);rw[e] at hok hc |-;exact .callF f args ts cap _ x (by rw[<-hρ x (by simp[Op.operands,Call.operands])];exact hf) hb hok hc
 case callN f args ts cap l r x hd hf hb hok hc hcl=>
  have e:args.toList.map ρ=args.toList.map ρ':=zO λy hy=>hρ y (by simp[Op.operands,Call.operands];right;simpa using hy);rw[e] at hok hc |-;exact .callN f args ts cap l r x hd (by rw[<-hρ x (by simp[Op.operands,Call.operands])];exact hf) hb hok hc hcl
 case appT x y T E xs ys cl z by_ l zv hd hx hy hE hz hb hzv hzz hel hfit h63=>
  exact .appT x y T E xs ys cl z by_ l zv hd (by rw[<-hρ x (by simp[Op.operands,Call.operands])];exact hx) (by rw[<-hρ y (by simp[Op.operands,Call.operands])];exact hy) hE hz hb hzv hzz hel hfit h63
 case appR x y T E s r ys cl z by_ l zv hd hx hs' hy hE hz hb hzv hzz hel hrz hfit h63=>
  exact .appR x y T E s r ys cl z by_ l zv hd (by rw[<-hρ x (by simp[Op.operands,Call.operands])];exact hx) hs' (by rw[<-hρ y (by simp[Op.operands,Call.operands])];exact hy) hE hz hb hzv hzz hel hrz hfit h63
 case buildSlice T E parts len z l zv els cl hd hE hz hzv hlen hel hbig hf hcl=>
  refine .buildSlice T E parts len z l zv els cl hd hE hz hzv hlen hel hbig ?_ hcl;rw[<-hf];congr 1;refine zO λp hp=>?_;rw[hρ p.2 (by simp only[Op.operands,List.mem_toArray,zE];exact (by simp;exact⟨p.1,by simpa using hp⟩))]
 case buildI T E parts len z zv els hE hz hzv hlen hel hbig hf hcl=>
  refine .buildI T E parts len z zv els hE hz hzv hlen hel hbig ?_ hcl;rw[<-hf];congr 1;refine zO λp hp=>?_;rw[hρ p.2 (by simp only[Op.operands,List.mem_toArray,zE];exact (by simp;exact⟨p.1,by simpa using hp⟩))]
 case nilSlice T E parts l z hd hE hz hp=>exact .nilSlice T E parts l z hd hE hz hp
 case sliceL T E z x lo hi mx t xs i j k hx hE hz hel hlo hhi hmx hmh hij hjk hk=>
  have hb:∀ {y:Option Operand} {d m:Nat},(∀o,y=some o->o∈(Op.slice T x lo hi mx).operands)->qE ρ y d m->qE ρ' y d m:=by
   intro y d m hm h;cases y with
   | none=>exact h
   | some o=>obtain⟨q,hq⟩:=h;exact⟨q,by rw[<-hρ o (hm o rfl)];exact hq⟩
  exact .sliceL T E z x lo hi mx t xs i j k (by rw[<-hρ x (by simp[Op.operands])];exact hx) hE hz hel (hb (λo e=>by subst e;simp[Op.operands]) hlo) (hb (λo e=>by subst e;simp[Op.operands]) hhi)
   (hb (λo e=>by subst e;simp[Op.operands]) hmx) hmh hij hjk hk
 case sliceR T E z x lo s r i l hd hx hs' hE hz hrz hlo hi=>
  refine .sliceR T E z x lo s r i l hd (by rw[<-hρ x (by simp[Op.operands])];exact hx) hs' hE hz hrz ?_ hi;cases lo with
  | none=>exact hlo
  | some o=>obtain⟨q,hq⟩:=hlo;exact⟨q,by rw[<-hρ o (by simp[Op.operands])];exact hq⟩
 case sliceF T E z x lo hi s r i j hx hs' hcl hE hz hrz hlo hhi hij hj=>
  refine .sliceF T E z x lo hi s r i j (by rw[<-hρ x (by simp[Op.operands])];exact hx) hs' hcl hE hz hrz ?_ ?_ hij hj
  .cases lo with
   | none=>exact hlo
   | some o=>obtain⟨q,hq⟩:=hlo;exact⟨q,by rw[<-hρ o (by simp[Op.operands])];exact hq⟩
  .cases hi with
   | none=>exact hhi
   | some o=>obtain⟨q,hq⟩:=hhi;exact⟨q,by rw[<-hρ o (by simp[Op.operands])];exact hq⟩
 case copy x y T U E l r ys z hx hl hcl hy hE hz hrz hel hn hzp=>
  exact .copy x y T U E l r ys z (by rw[<-hρ x (by simp[Op.operands,Call.operands])];exact hx) hl hcl (by rw[<-hρ y (by simp[Op.operands,Call.operands])];exact hy) hE hz hrz hel hn hzp
def B2(ops:Array Oper)(env:Nat->PV)(o:Oper):Option Bool:=
 match o.guard with
 | none=>some true
 | some (j,want)=>match (ops[j]?).bind (·.dst) with
  | some t=>match y7 env (.tmp t) with
   | .bool b=>some (b==want)
   | .tup []=>some false
   | _=>none
  | none=>none
def cls(bar:List Nat)(i:Nat):Op->Nat
 | .move _ | .assign _ | .pick .. | .nilCheck _ | .unOp .. | .binOp .. | .convert .. | .fieldAddr .. | .field .. | .extract .. | .makeFunc .. | .build .. => 7
 | .load .. | .indexAddr .. | .slice .. => if bar.contains i then 7 else 0
 | .lookup .. => if bar.contains i then 7 else 4
 | .alloc _ | .box .. | .buildSlice .. | .makeSlice .. => 1
 | .call { callee:=.builtin .len,.. }=>if bar.contains i then 7 else 0
 | .call { callee:=.builtin .min,.. } | .call { callee:=.builtin .max,.. }=>7
 | .call { callee:=.builtin .append,.. }=>3
 | .call { callee:=.value _,.. }=>if bar.contains i then 5 else 2
 | _=>4
def dJ:Nat->U1->Prop->Prop
 | 0,e,_=>e = .none
 | 1,e,_=>e = .none\/∃l r,e = .new l r
 | 2,e,_=>e = .none\/e = .kM []\/∃l r,e = .frzN [] l r
 | 3,e,_=>(∃l r,e = .new l r)\/∃s l r,e = .app s l r
 | 5,e,_=>e = .none\/(∃ls,e = .kM ls)\/∃ls l r,e = .frzN ls l r
 | 7,e,F=>e = .none/\F
 | _,_,_=>True
def allowed:Nat->Nat->Bool
 | 7,_ | _,7=>true
 | 0,0 | 0,1 | 1,0 | 0,2 | 2,0 | 1,1 | 1,2 | 2,1 | 0,3 | 3,0 | 3,1 | 0,5 | 5,0 | 5,1=>true
 | _,_=>false
def kept(bar:List Nat):List Nat:=bar.filterMap λn=>if 1000<=n then some (n-1000) else none
def core(r:Row):List PV × Nat × Bool:=(r.els,r.z,r.cl)
def D7(T:List Nat)(σ σ':Nat->Option Row):Prop:=∀l,T.contains l=true->(σ l).map core=(σ' l).map core
theorem D7.refl{T:List Nat}(σ:Nat->Option Row):D7 T σ σ:=λ_ _=>rfl
theorem D7.symm{T:List Nat}{σ σ':Nat->Option Row}(h:D7 T σ σ'):D7 T σ' σ:=λl q=>(h l q).symm
theorem D7.trans{T:List Nat}{σ σ' σ'':Nat->Option Row}(h:D7 T σ σ')(k:D7 T σ' σ''):D7 T σ σ'':=λl q=>(h l q).trans (k l q)
def U1.off(T:List Nat):U1->Bool
 | .none | .kM _=>true
 | .new l _ | .app _ l _ | .frzN _ l _ | .sto l _ _ _ | .uG l _ => !T.contains l
theorem IT(σ:Nat->Option Row)(l k:Nat):((ju σ l) k).map core=(σ k).map core:=by
 unfold ju;cases hl:σ l with
 | none=>rfl
 | some q=>
  by_cases e:k=l
  .subst e;simp[o8,hl,core]
  .simp only;rw[o0 _ _ e]
theorem te(ls:List Nat):∀(σ:Nat->Option Row) (k:Nat),((Q5 σ ls) k).map core=(σ k).map core:=by
 induction ls with
 | nil=>intro σ k;rfl
 | cons l ls ih=>intro σ k;exact (ih (ju σ l) k).trans (IT σ l k)
theorem U1.WK{T:List Nat}{σ:Nat->Option Row}{e:U1}(h:e.off T=true):D7 T σ (e.apply σ):=by
 intro l hl;have ne:∀ {k:Nat},(!T.contains k)=true->l≠k:=λ{k} q e=>by subst e;rw[hl] at q;cases q
 cases e with
 | none=>rfl
 | new k r=>simp only[U1.apply];rw[o0 _ _ (ne h)]
 | app s k r=>
  simp only[U1.apply];rw[o0 _ _ (ne h)];cases hs:σ s with
  | none=>rfl
  | some q=>
   by_cases e:l=s
   .subst e;simp[o8,hs,core]
   .simp only;rw[o0 _ _ e]
 | sto k i f cs=>
  simp only[U1.apply];cases σ k with
  | none=>rfl
  | some q=>cases hq:q.els[i]? with
   | none=>simp only[hq]
   | some x=>simp only[hq];rw[o0 _ _ (ne h)]
 | uG k ys=>
  simp only[U1.apply];cases σ k with
  | none=>rfl
  | some q=>simp only;rw[o0 _ _ (ne h)]
 | kM ls=>exact (te ls σ l).symm
 | frzN ls k r=>simp only[U1.apply];rw[o0 _ _ (ne h)];exact (te ls σ l).symm
inductive qI (P:Program) (ops:Array Oper) (dr:Bool) (T:List Nat) (c:Nat) (σF:Nat->Option Row) (o:Oper) (st:St):St->Prop
 | run (d e) (hw:B2 ops st.env o=some true) (h:C0 P σF (y7 st.env) o.dst o.op d e) (hs:E8 st.σ σF/\D7 T st.σ σF) (hok:e.ok st.σ) (ht:dr=true->e.off T=true)
  (hc:dr=true->dJ c e (∀σ',D7 T σF σ'->C0 P σ' (y7 st.env) o.dst o.op d e)):qI P ops dr T c σF o st ⟨Q0 st.env o.dst d,e.apply st.σ⟩
 | skip (hw:B2 ops st.env o=some false):qI P ops dr T c σF o st ⟨Q0 st.env o.dst (.tup []),st.σ⟩
abbrev Oe(P:Program)(ops:Array Oper)(dr:Bool)(T:List Nat)(c:Nat)(o:Oper)(st st':St):Prop:=qI P ops dr T c st.σ o st st'
theorem gp{env:Nat->PV}{x y:Option Tmp}{d d':PV}(h:∀t,x=some t->y≠some t):Q0 (Q0 env x d) y d'=Q0 (Q0 env y d') x d:=by
 cases x with
 | none=>rfl
 | some t=>cases y with
  | none=>rfl
  | some u=>exact dE _ _ _ (λe=>h t rfl (by rw[e]))
theorem bI{ops:Array Oper}{env:Nat->PV}{o:Oper}{dst:Option Tmp}{d:PV}(h:∀t,dst=some t->t∉o.looksAt ops):B2 ops (Q0 env dst d) o=B2 ops env o:=by
 unfold B2;cases hg:o.guard with
 | none=>rfl
 | some p=>
  obtain⟨j,want⟩:=p;simp only;cases hd:(ops[j]?).bind (·.dst) with
  | none=>rfl
  | some t=>
   simp only;have:Q0 env dst d t=env t:=by
    cases dst with
    | none=>rfl
    | some u=>
     refine o0 _ _ (λe=>?_);subst e;refine h t rfl ?_;unfold Oper.looksAt;rw[hg];simp[hd]
   have this2:y7 (Q0 env dst d) (.tmp t)=y7 env (.tmp t):=by simp only[y7,this]
   rw[this2]
theorem dZ{P:Program}{σ:Nat->Option Row}{ops:Array Oper}{env:Nat->PV}{o:Oper}{dst:Option Tmp}{d d':PV}{e:U1}(h:∀t,dst=some t->t∉o.looksAt ops) :
  C0 P σ (y7 (Q0 env dst d)) o.dst o.op d' e↔C0 P σ (y7 env) o.dst o.op d' e:=by
 have hx:∀x∈o.op.operands,y7 (Q0 env dst d) x=y7 env x:=λx hx=>Pr λt ht e=>by
  subst e;refine h t ht ?_;unfold Oper.looksAt;exact m9 _ (List.mem_filterMap.2 ⟨.tmp t,by simpa using hx,rfl⟩)
 exact⟨λh=>h.congr hx,λh=>h.congr λx q=>(hx x q).symm⟩
def He:U1->Bool
 | .sto .. | .uG .. => false
 | _=>true
theorem IV(σ:Nat->Option Row)(l:Nat):E8 σ (ju σ l):=by
 intro k r hk;unfold ju;cases hl:σ l with
 | none=>exact⟨r,hk,rfl,rfl,rfl⟩
 | some q=>
  by_cases e:k=l
  .subst e;rw[hl] at hk;cases hk;exact⟨_,o8 _ _ _,rfl,rfl,rfl⟩
  .exact⟨r,by simp only[o0 _ _ e];exact hk,rfl,rfl,rfl⟩
theorem E8.trans{σ σ' σ'':Nat->Option Row}(h:E8 σ σ')(k:E8 σ' σ''):E8 σ σ'':=by
 intro l r hl;obtain⟨r',h1,h2,h3,h4⟩:=h l r hl;obtain⟨r'',k1,k2,k3,k4⟩:=k l r' h1;exact⟨r'',k1,by rw[k2,h2],by rw[k3,h3],by rw[k4,h4]⟩
theorem yF(ls:List Nat):∀(σ:Nat->Option Row),E8 σ (Q5 σ ls):=by
 induction ls with
 | nil=>exact λσ=>E8.refl σ
 | cons l ls ih=>exact λσ=>(IV σ l).trans (ih (ju σ l))
theorem P7{σ:Nat->Option Row}{l:Nat}{r:Row}(h:σ l=none):E8 σ (w8 σ l (some r)):=λk q hk=>by
 have:k≠l:=λe=>by subst e;rw[h] at hk;cases hk
 exact⟨q,by rw[o0 _ _ this];exact hk,rfl,rfl,rfl⟩
theorem IU{σ:Nat->Option Row}{l k:Nat}(h:σ l=none):ju σ k l=none:=by
 unfold ju;cases hk:σ k with
 | none=>exact h
 | some q=>
  have:l≠k:=λe=>by subst e;rw[h] at hk;cases hk
  simp only[o0 _ _ this];exact h
theorem yE{l:Nat}:∀ {ls:List Nat} {σ:Nat->Option Row},σ l=none->Q5 σ ls l=none
 | [],_,h=>h
 | k::ls,σ,h=>yE (ls:=ls) (σ:=ju σ k) (IU h)
theorem U1.same{σ:Nat->Option Row}{e:U1}(hk:He e=true)(hok:e.ok σ):E8 σ (e.apply σ):=by
 cases e with
 | none=>exact E8.refl σ
 | new l r=>exact P7 hok
 | app s l r=>
  obtain⟨h1,q,h2,_⟩:=hok;simp only[U1.apply,h2];have hne:l≠s:=λe=>by subst e;rw[h1] at h2;cases h2
  intro k p hp;have hkl:k≠l:=λe=>by subst e;rw[h1] at hp;cases hp
  rw[o0 _ _ hkl];by_cases e:k=s
  .subst e;rw[h2] at hp;cases hp;exact⟨_,o8 _ _ _,rfl,rfl,rfl⟩
  .exact⟨p,by rw[o0 _ _ e];exact hp,rfl,rfl,rfl⟩
 | sto l i f cs=>cases hk
 | uG l ys=>cases hk
 | kM ls=>exact yF ls σ
 | frzN ls l r=>exact (yF ls σ).trans (P7 (yE hok))
theorem la{c:Nat}{e:U1}{F:Prop}(h:dJ c e F)(hc:c≠4)(hc':c<=5):He e=true:=by
 match c,hc,hc',h with
 | 0,_,_,h=>rw[show e = .none from h];rfl
 | 1,_,_,h=>rcases h with rfl | ⟨l,r,rfl⟩ <;> rfl
 | 2,_,_,h=>rcases h with rfl | rfl | ⟨l,r,rfl⟩ <;> rfl
 | 3,_,_,h=>rcases h with ⟨l,r,rfl⟩ | ⟨s,l,r,rfl⟩ <;> rfl
 | 5,_,_,h=>rcases h with rfl | ⟨ls,rfl⟩ | ⟨ls,l,r,rfl⟩ <;> rfl
theorem PV.xB{σ:Nat->Option Row}{d:PV}(h:d.cM σ=true):∀k∈d.bz,σ k≠none:=by
 intro k hk q;cases d <;> first | (simp[PV.bz] at hk;done) | skip
 rename_i l;simp only[PV.bz,zJ] at hk;subst hk;have h':(match σ k with | some r=>r.cl | none=>false)=true:=h;rw[q] at h';cases h'
theorem PV.xC{σ:Nat->Option Row}{d:PV}(h:d.kD σ=true):∀k∈d.O3 σ,σ k≠none:=by
 intro k hk q;cases d <;> first | (simp[PV.O3,PV.bz] at hk;done) | exact PV.xB (d:=.sl _) h k hk q | skip
 rename_i l i f;have h':(match σ l with | some r=>(match r.els[i]? with | some x=>(x.cells.drop f).all λy=>y.cM σ&&y.sc | none=>false) | none=>false)=true:=h;have hk':k∈l::(match σ l with | some r=>(match r.els[i]? with | some x=>(x.cells.drop f).flatMap PV.bz | none=>[]) | none=>[]):=hk;cases hl:σ l with
 | none=>rw[hl] at h';cases h'
 | some r=>
  rw[hl] at h' hk';dsimp only at h' hk';cases hx:r.els[i]? with
  | none=>rw[hx] at h';cases h'
  | some x=>
   rw[hx] at h' hk';dsimp only at h' hk';rcases zL.1 hk' with e | hk'
   .rw[e,hl] at q;cases q
   .obtain⟨y,hy,hk'⟩:=my.1 hk';have:=zd.1 h' y hy;rw[zk] at this;exact PV.xB this.1 k hk' q
theorem PV.kE{σ:Nat->Option Row}{d:PV}(h:d.mw σ=true):∀k∈d.Y7 σ,σ k≠none:=by
 intro k hk q;cases d <;> first | (simp[PV.Y7,PV.O3,PV.bz] at hk;done) | exact PV.xC (d:=.sl _) h k hk q | exact PV.xC (d:=.ptr _ _ _) h k hk q | skip
 .obtain⟨y,hy,hk⟩:=my.1 hk;have:=zd.1 h y hy;rw[zk] at this;exact PV.xB this.1 k hk q
 .obtain⟨y,hy,hk⟩:=my.1 hk;exact PV.xC (zd.1 h y hy) k hk q
theorem PV.Rk{σ:Nat->Option Row}{d:PV}(h:d.kH σ=true):∀k∈d.L2 σ,σ k≠none:=by
 intro k hk q;cases d <;> first | (simp[PV.L2,PV.Y7,PV.O3,PV.bz] at hk;done) | exact PV.kE (d:=.sl _) h k hk q | exact PV.kE (d:=.ptr _ _ _) h k hk q | exact PV.kE (d:=.agg _) h k hk q | exact PV.kE (d:=.fn _ _) h k hk q | skip
 .obtain⟨y,hy,hk⟩:=my.1 hk;exact PV.kE (zd.1 h y hy) k hk q
 .rename_i f cap;have h':PV.mw σ (.fn f cap)=true:=h;have hk':k∈PV.Y7 σ (.fn f cap):=hk;exact PV.kE h' k hk' q
theorem C0.there{P:Program}{σ:Nat->Option Row}{ρ:Operand->PV}{dst:Option Tmp}{op:Op}{d:PV}{e:U1}(h:C0 P σ ρ dst op d e):∀ls,(e = .kM ls\/∃l r,e = .frzN ls l r)->∀k∈ls,σ k≠none:=by
 have all:∀ {ds:List PV} {k:Nat},ds.all (PV.kH σ)=true->k∈ds.flatMap (PV.L2 σ)->σ k≠none:=λ{ds k} h hk=>by
  obtain⟨y,hy,hk⟩:=my.1 hk;exact PV.Rk (zd.1 h y hy) k hk
 intro ls he k hk;cases h <;> first | (exfalso;rcases he with he | ⟨_,_,he⟩ <;> cases he;done) | skip
 all_goals rcases he with he | ⟨_,_,he⟩ <;> cases he
 all_goals first | exact all (by assumption) hk | skip
 all_goals
  rw[zJ] at hk;subst hk;simp_all
theorem wm{l:Nat}{x:Option Row}:∀(ls:List Nat) (σ:Nat->Option Row),l∉ls->Q5 (w8 σ l x) ls=w8 (Q5 σ ls) l x
 | [],_,_=>rfl
 | k::ls,σ,h=>by
  have hk:k≠l:=λe=>h (by rw[e];exact zh ..);have e1:ju (w8 σ l x) k=w8 (ju σ k) l x:=by
   unfold ju;rw[o0 _ _ hk];cases σ k with
   | none=>rfl
   | some r=>first | exact dE _ _ _ hk | exact dE _ _ _ (zar hk) | exact (dE _ _ _ hk).symm | exact (dE _ _ _ (zar hk)).symm
  show Q5 (ju (w8 σ l x) k) ls=w8 (Q5 (ju σ k) ls) l x;rw[e1];exact wm ls _ λq=>h (zo _ q)
theorem KJ{σ:Nat->Option Row}{cj cx:Nat}{ej ex:U1}{Fj Fx:Prop}(h7j:cj≠7)(h7x:cx≠7)(ha:allowed cj cx=true)(hj:dJ cj ej Fj)(hx:dJ cx ex Fx)(hokj:ej.ok σ)(hokx:ex.ok (ej.apply σ))(hkey:∀l,ej.key=some l->ex.key≠some l)(hth:∀ls,(ej = .kM ls\/∃l r,ej = .frzN ls l r)->∀k∈ls,σ k≠none) :
  ex.ok σ/\ej.ok (ex.apply σ)/\ej.apply (ex.apply σ)=ex.apply (ej.apply σ)/\E8 σ (ej.apply σ)/\E8 σ (ex.apply σ):=by
 have e0:∀(σ:Nat->Option Row),(U1.kM []).apply σ=σ:=λ_=>rfl;have e1:∀(σ:Nat->Option Row) l r,(U1.frzN [] l r).apply σ=(U1.new l r).apply σ:=λ_ _ _=>rfl;have simple:∀ {e:U1},(e = .none\/e = .kM []\/(∃l r,e = .new l r)\/∃l r,e = .frzN [] l r)->(∀σ,e.apply σ=σ/\e.ok σ)\/∃l r,e.key=some l/\(∀σ,e.apply σ=w8 σ l (some r))/\(∀σ,e.ok σ↔σ l=none):=by
  rintro e (rfl | rfl | ⟨l,r,rfl⟩ | ⟨l,r,rfl⟩);·exact .inl λ_=>⟨rfl,trivial⟩
  .exact .inl λ_=>⟨rfl,trivial⟩
  .exact .inr ⟨l,r,rfl,λ_=>rfl,λ_=>Iff.rfl⟩
  .exact .inr ⟨l,r,rfl,λ_=>rfl,λ_=>Iff.rfl⟩
 have s0:∀ {e:U1} {F:Prop},dJ 0 e F->(e = .none\/e = .kM []\/(∃l r,e = .new l r)\/∃l r,e = .frzN [] l r):=λh=>.inl h;have s1:∀ {e:U1} {F:Prop},dJ 1 e F->(e = .none\/e = .kM []\/(∃l r,e = .new l r)\/∃l r,e = .frzN [] l r):=λh=>h.elim .inl λh=>.inr (.inr (.inl h));have s2:∀ {e:U1} {F:Prop},dJ 2 e F->(e = .none\/e = .kM []\/(∃l r,e = .new l r)\/∃l r,e = .frzN [] l r):=λh=>h.elim .inl λh=>h.elim (λh=>.inr (.inl h)) λh=>.inr (.inr (.inr h));have both:(ej = .none\/ej = .kM []\/(∃l r,ej = .new l r)\/∃l r,ej = .frzN [] l r)->(ex = .none\/ex = .kM []\/(∃l r,ex = .new l r)\/∃l r,ex = .frzN [] l r) ->
   ex.ok σ/\ej.ok (ex.apply σ)/\ej.apply (ex.apply σ)=ex.apply (ej.apply σ)/\E8 σ (ej.apply σ)/\E8 σ (ex.apply σ):=by
  intro hj hx;rcases simple hj with kj | ⟨l,r,kj0,kj1,kj2⟩ <;> rcases simple hx with kx | ⟨l',r',kx0,kx1,kx2⟩
  .rw[(kj σ).1,(kx σ).1];exact⟨(kx σ).2,(kj σ).2,by rw[(kj σ).1],E8.refl _,E8.refl _⟩
  .rw[(kj σ).1] at hokx |-;rw[kx1];exact⟨hokx,(kj _).2,(kj _).1,E8.refl _,P7 ((kx2 σ).1 hokx)⟩
  .exact⟨(kx σ).2,by rw[(kx σ).1];exact hokj,by rw[(kx σ).1,(kx _).1],by rw[kj1];exact P7 ((kj2 σ).1 hokj),by rw[(kx σ).1];exact E8.refl _⟩
  .have hne:l≠l':=λe=>hkey l kj0 (by rw[kx0,e]);have hl:=(kj2 σ).1 hokj;have hl':σ l'=none:=by
    have:=(kx2 _).1 hokx;rw[kj1,o0 _ _ (zar hne)] at this;exact this
   rw[kj1,kx1,kj1,kx1];exact⟨(kx2 σ).2 hl',(kj2 _).2 (by rw[o0 _ _ hne];exact hl),dE _ _ _ (zar hne),P7 hl,P7 hl'⟩
 have lookj:ej = .none->ex.ok σ/\ej.ok (ex.apply σ)/\ej.apply (ex.apply σ)=ex.apply (ej.apply σ)/\E8 σ (ej.apply σ)/\(He ex=true->E8 σ (ex.apply σ)):=by
  rintro rfl;exact⟨hokx,trivial,rfl,E8.refl _,λq=>U1.same q hokx⟩
 have lookx:ex = .none->He ej=true->ex.ok σ/\ej.ok (ex.apply σ)/\ej.apply (ex.apply σ)=ex.apply (ej.apply σ)/\E8 σ (ej.apply σ)/\E8 σ (ex.apply σ):=by
  rintro rfl q;exact⟨trivial,hokj,rfl,U1.same q hokj,E8.refl _⟩
 have look0:dJ cj ej Fj->cj=0->cx≠4->cx<=5->ex.ok σ/\ej.ok (ex.apply σ)/\ej.apply (ex.apply σ)=ex.apply (ej.apply σ)/\E8 σ (ej.apply σ)/\E8 σ (ex.apply σ):=by
  intro h q h4 h5;subst q;obtain⟨k1,k2,k3,k4,k5⟩:=lookj h;exact⟨k1,k2,k3,k4,k5 (la hx h4 h5)⟩
 unfold allowed at ha;split at ha;·exact absurd rfl h7j
 .exact absurd rfl h7x
 .exact both (s0 hj) (s0 hx)
 .exact both (s0 hj) (s1 hx)
 .exact both (s1 hj) (s0 hx)
 .exact both (s0 hj) (s2 hx)
 .exact both (s2 hj) (s0 hx)
 .exact both (s1 hj) (s1 hx)
 .exact both (s1 hj) (s2 hx)
 .exact both (s2 hj) (s1 hx)
 .exact look0 hj rfl (by omega) (by omega)
 .exact lookx hx (la hj (by omega) (by omega))
 .-- an append,and a row that is new
  rcases hj with ⟨l,r,rfl⟩ | ⟨s,l,r,rfl⟩;·exact both (.inr (.inr (.inl ⟨l,r,rfl⟩))) (s1 hx)
  .rcases hx with rfl | ⟨l',r',rfl⟩
   .exact lookx rfl rfl
   .obtain⟨h1,q,h2,h3⟩:=hokj;have hne:l≠l':=λe=>hkey l rfl (by rw[e];rfl);have hsl:s≠l:=λe=>by subst e;rw[h1] at h2;cases h2
    have hx':w8 (w8 σ s (some { q with lo:=q.els.length,opn:=false })) l (some r) l'=none:=by
     have:=hokx;simp only[U1.ok,U1.apply,h2] at this;exact this
    rw[o0 _ _ (zar hne)] at hx';have hsl':s≠l':=λe=>by subst e;rw[o8] at hx';cases hx'
    rw[o0 _ _ (zar hsl')] at hx';refine⟨hx',⟨by simp only[U1.apply];rw[o0 _ _ hne];exact h1,q,by simp only[U1.apply];rw[o0 _ _ hsl'];exact h2,h3⟩,?_,U1.same rfl ⟨h1,q,h2,h3⟩,P7 hx'⟩;simp only[U1.apply,o0 _ _ hsl',h2];rw[dE _ _ _ (zar hsl'),dE _ _ _ (zar hne)]
 .exact look0 hj rfl (by omega) (by omega)
 .exact lookx hx (la hj (by omega) (by omega))
 .-- what shows rows,and a row that is new
  rcases hx with rfl | ⟨l',r',rfl⟩
  .exact lookx rfl (la hj (by omega) (by omega))
  .have back:∀ls,Q5 σ ls l'=none->σ l'=none:=λls q=>by
    have:=te ls σ l';rw[q] at this;cases e:σ l' with
    | none=>rfl
    | some r=>rw[e] at this;cases this
   rcases hj with rfl | ⟨ls,rfl⟩ | ⟨ls,l,r,rfl⟩
   .obtain⟨k1,k2,k3,k4,k5⟩:=lookj rfl;exact⟨k1,k2,k3,k4,k5 rfl⟩
   .have h0:=back ls hokx;have hn:l'∉ls:=λq=>hth ls (.inl rfl) l' q h0;exact⟨h0,trivial,wm ls σ hn,U1.same rfl hokj,P7 h0⟩
   .have hne:l≠l':=λe=>hkey l rfl (by rw[e];rfl);have hx1:w8 (Q5 σ ls) l (some r) l'=none:=hokx;rw[o0 _ _ (zar hne)] at hx1;have h0:=back ls hx1;have hn:l'∉ls:=λq=>hth ls (.inr ⟨l,r,rfl⟩) l' q h0;refine⟨h0,?_,?_,U1.same rfl hokj,P7 h0⟩
    .show w8 σ l' (some r') l=none;rw[o0 _ _ hne];exact hokj
    .show w8 (Q5 (w8 σ l' (some r')) ls) l (some r)=w8 (w8 (Q5 σ ls) l (some r)) l' (some r');rw[wm ls σ hn];exact dE _ _ _ (zar hne)
 .cases ha
theorem JD{P:Program}{ops:Array Oper}{T:List Nat}{cj cx:Nat}{oj ox:Oper}{st s s':St}{σF:Nat->Option Row}(hap:oj.apart ops ox=true)(ha:allowed cj cx=true)
  (hj:Oe P ops true T cj oj st s)(hx:qI P ops true T cx σF ox s s'):∃σF' st',qI P ops true T cx σF' ox st st'/\Oe P ops true T cj oj st' s':=by
 obtain⟨a1,a2,a3⟩:=Oper.apart_spec hap;have rr:∀σ:Nat->Option Row,E8 σ σ/\D7 T σ σ:=λσ=>⟨E8.refl _,D7.refl _⟩;have weak:∀ {c:Nat} {e:U1} {F G:Prop},(c=7->F->G)->dJ c e F->dJ c e G:=λ{c e F G} hne q=>by
  unfold dJ at q |-;split at q <;> first | exact q | exact⟨q.1,hne rfl q.2⟩ | trivial
 cases hj with
 | run d e hw h hs hok ht hc=>
  cases hx with
  | run d' e' hw' h' hs' hok' ht' hc'=>
   simp only at hw' h' hs' hok' |-;have hkey:∀l,e.key=some l->e'.key≠some l:=λl q q'=>a2 l (h.key l q) (h'.key l q');have near1:D7 T st.σ (e.apply st.σ):=U1.WK (ht rfl);rw[bI a1] at hw';by_cases h7x:cx=7
   .subst h7x;obtain⟨rfl,hfree⟩:=hc' rfl;have hfree':∀σ',D7 T st.σ σ'->C0 P σ' (y7 st.env) ox.dst ox.op d' .none:=λσ' q=>(dZ a1).1 (hfree σ' ((near1.trans hs'.2).symm.trans q));refine⟨st.σ,_,.run d' .none hw' (hfree' _ (D7.refl _)) (rr _) trivial (λ_=>rfl) (λ_=>⟨rfl,hfree'⟩),?_⟩;have:=qI.run (P:=P) (ops:=ops) (dr:=true) (T:=T) (c:=cj) (σF:=st.σ) (o:=oj) (st:=⟨Q0 st.env ox.dst d',st.σ⟩) d e (by rw[bI a3];exact hw) ((dZ a3).2 h) (rr _) hok ht
     (λq=>weak (λ_ f σ' hσ=>(dZ a3).2 (f σ' hσ)) (hc q))
    rw[gp (x:=ox.dst) (y:=oj.dst) λt q q'=>a2 t q' q] at this;exact this
   by_cases h7j:cj=7
   .subst h7j;obtain⟨rfl,hfree⟩:=hc rfl;rw[dZ a1] at h';have near2:D7 T st.σ (e'.apply st.σ):=U1.WK (ht' rfl);refine⟨σF,_,.run d' e' hw' h' hs' hok' ht' (λq=>weak (λ_ f σ' hσ=>(dZ a1).1 (f σ' hσ)) (hc' q)),?_⟩;have:=qI.run (P:=P) (ops:=ops) (dr:=true) (T:=T) (c:=7) (σF:=e'.apply st.σ) (o:=oj) (st:=⟨Q0 st.env ox.dst d',e'.apply st.σ⟩) d .none (by rw[bI a3];exact hw) ((dZ a3).2 (hfree _ near2)) (rr _) trivial (λ_=>rfl)
     (λ_=>⟨rfl,λσ' q=>(dZ a3).2 (hfree σ' (near2.trans q))⟩)
    rw[gp (x:=ox.dst) (y:=oj.dst) λt q q'=>a2 t q' q] at this;exact this
   .have fj:dJ cj e True:=weak (λ_ _=>trivial) (hc rfl);have fx:dJ cx e' True:=weak (λ_ _=>trivial) (hc' rfl);obtain⟨k1,k2,k3,k4,k5⟩:=KJ h7j h7x ha fj fx hok hok' hkey λls he=>h.there ls he;rw[dZ a1] at h';refine⟨σF,_,.run d' e' hw' h' ⟨k4.trans hs'.1,near1.trans hs'.2⟩ k1 ht' (λ_=>weak (λq=>absurd q h7x) fx),?_⟩;have:=qI.run (P:=P) (ops:=ops) (dr:=true) (T:=T) (c:=cj) (σF:=e'.apply st.σ) (o:=oj) (st:=⟨Q0 st.env ox.dst d',e'.apply st.σ⟩) d e (by rw[bI a3];exact hw) ((dZ a3).2 (h.mono k5)) (rr _) k2 ht (λ_=>weak (λq=>absurd q h7j) fj);rw[k3,gp (x:=ox.dst) (y:=oj.dst) λt q q'=>a2 t q' q] at this;exact this
  | skip hw'=>
   simp only at hw' |-;rw[bI a1] at hw';refine⟨st.σ,_,.skip hw',?_⟩;have:=qI.run (P:=P) (ops:=ops) (dr:=true) (T:=T) (c:=cj) (σF:=st.σ) (o:=oj) (st:=⟨Q0 st.env ox.dst (.tup []),st.σ⟩) d e (by rw[bI a3];exact hw) ((dZ a3).2 h) (rr _) hok ht
    (λq=>weak (λ_ f σ' hσ=>(dZ a3).2 (f σ' hσ)) (hc q))
   rw[gp (x:=ox.dst) (y:=oj.dst) λt q q'=>a2 t q' q] at this;exact this
 | skip hw=>
  cases hx with
  | run d' e' hw' h' hs' hok' ht' hc'=>
   simp only at hw' h' hs' hok' |-;rw[bI a1] at hw';rw[dZ a1] at h';refine⟨σF,_,.run d' e' hw' h' hs' hok' ht' (λq=>weak (λ_ f σ' hσ=>(dZ a1).1 (f σ' hσ)) (hc' q)),?_⟩;have:=qI.skip (P:=P) (ops:=ops) (dr:=true) (T:=T) (c:=cj) (σF:=e'.apply st.σ) (o:=oj) (st:=⟨Q0 st.env ox.dst d',e'.apply st.σ⟩) (by rw[bI a3];exact hw);rw[gp (x:=ox.dst) (y:=oj.dst) λt q q'=>a2 t q' q] at this;exact this
  | skip hw'=>
   simp only at hw' |-;rw[bI a1] at hw';refine⟨st.σ,_,.skip hw',?_⟩;have:=qI.skip (P:=P) (ops:=ops) (dr:=true) (T:=T) (c:=cj) (σF:=st.σ) (o:=oj) (st:=⟨Q0 st.env ox.dst (.tup []),st.σ⟩) (by rw[bI a3];exact hw);rw[gp (x:=ox.dst) (y:=oj.dst) λt q q'=>a2 t q' q] at this;exact this
def CB(P:Program)(ops:Array Oper)(bar:List Nat)(dr:Bool):List Nat->St->St->Prop
 | [],st,st'=>st=st'
 | i::is,st,st'=>∃o s,ops[i]? = some o/\Oe P ops dr (kept bar) (cls bar i o.op) o st s/\CB P ops bar dr is s st'
theorem xm{P:Program}{ops:Array Oper}{bar:List Nat}{x:Nat}{ox:Oper}(hox:ops[x]? = some ox):∀(c1 c2:List Nat) (st s':St),
  (∀j∈c1,∀oj,ops[j]? = some oj->oj.apart ops ox=true/\allowed (cls bar j oj.op) (cls bar x ox.op)=true)->CB P ops bar true (c1++x::c2) st s' ->
  ∃σF st',qI P ops true (kept bar) (cls bar x ox.op) σF ox st st'/\CB P ops bar true (c1++c2) st' s':=by
 intro c1;induction c1 with
 | nil=>
  intro c2 st s' _ h;obtain⟨o,s,ho,hs,hr⟩:=h;rw[hox] at ho;cases ho;exact⟨_,s,hs,hr⟩
 | cons j c1 ih=>
  intro c2 st s' hj h;obtain⟨oj,s,hoj,hs,hr⟩:=h;obtain⟨σF,s1,h1,h2⟩:=ih c2 s s' (λk hk=>hj k (zo _ hk)) hr;obtain⟨k1,k2⟩:=hj j (zh ..) oj hoj;obtain⟨σF',st',q1,q2⟩:=JD k1 k2 hs h1;exact⟨σF',st',q1,oj,s1,hoj,q2,h2⟩
end Go.Pw
namespace Go.Pw
open Go.RowKit
section
variable{X:Ctx}{g:Gh}{st:St}{a:Act}{w:World}{n:Nat}{K:Act->World->Prop}{Q:Exit->Act->World->Prop}{ρ:Option Nat}{ops:Array Oper}
theorem R2(h:A6 X g st a w){o:Oper}{b:Bool}(hw:B2 ops st.env o=some b):Region.wanted o (yielded ops a.tmps)=b:=by
 unfold B2 at hw;unfold Region.wanted;cases hg:o.guard with
 | none=>rw[hg] at hw;simpa using hw
 | some p=>
  obtain⟨j,want⟩:=p;rw[hg] at hw;simp only at hw |-;cases hd:(ops[j]?).bind (·.dst) with
  | none=>rw[hd] at hw;cases hw
  | some t=>
   rw[hd] at hw;simp only at hw;have ht:=h.KK t;cases he:y7 st.env (.tmp t) <;> rw[he] at hw ht <;> first | (cases hw;done) | skip
   case bool b'=>
    simp only[un] at hw;have hv:=ht.eP;have:a.tmps[t]? = some (.bool b'):=by
     rw[zF] at hv;cases hq:a.tmps[t]? with
     | none=>rw[hq] at hv;cases hv
     | some v=>rw[hq] at hv;simp only[zX] at hv;rw[hv]
    have hy:yielded ops a.tmps j=some b':=by
     unfold yielded;rw[hd];simp only[zbw,this]
    rw[hy,<-hw];rfl
   case tup vs=>
    cases vs with
    | cons _ _=>cases hw
    | nil=>
     simp only[un] at hw;subst hw;obtain⟨us,hv,_⟩:=ht.vB;have hy:yielded ops a.tmps j=none:=by
      unfold yielded;rw[hd];simp only[zbw];rw[zF] at hv;cases hq:a.tmps[t]? with
      | none=>rfl
      | some v=>rw[hq] at hv;simp only[zX] at hv;rw[hv]
     rw[hy];rfl
theorem tV{c:Nat}{T:List Nat}{dr:Bool}{σF:Nat->Option Row}{o:Oper}{st':St}{i:Nat}(hi:ops[i]? = some o)(h:A6 X g st a w)(hs:qI X.P ops dr T c σF o st st')(hdst:∀t,o.dst=some t->t<X.N)
  (hK:∀g' a' w',A6 X g' st' a' w'->K a' w'):wpOpIn (FX ρ) n X.P ops Q i K a w:=by
 unfold wpOpIn;rw[hi];simp only;cases hs with
 | run d e hw ho hsame hok ht hc=>
  rw[zb (R2 h hw)];exact Mm h ho hsame.1 hok hdst hK
 | skip hw=>
  rw[za (by rw[R2 h hw];simp)];exact⟨λ_ _=>trivial,hK g _ w (h.put hdst (.cl (.tup #[] [] rfl λi v c _ hc=>by simp at hc)))⟩
def eV(N:Nat)(ops:Array Oper):Bool:=ops.toList.all λo=>match o.dst with | some t=>decide (t<N) | none=>true
theorem F7{N:Nat}(h:eV N ops=true){i:Nat}{o:Oper}(hi:ops[i]? = some o):∀t,o.dst=some t->t<N:=by
 intro t ht;have hm:o∈ops.toList:=by
  have:ops.toList[i]? = some o:=by simpa using hi
  exact zg this
 have:=zd.1 h o hm;rw[ht] at this;simpa using this
def WA(M:Array Nat)(es:List Edge):Nat:=es.foldl (λs e=>if Region.binds .any e then s ||| (2 ^ e.on ||| M.getD e.on 0) else s) 0
theorem yR(M:Array Nat)(j:Nat):∀(es:List Edge) (s:Nat),(es.foldl (λs e=>if Region.binds .any e then s ||| (2 ^ e.on ||| M.getD e.on 0) else s) s).testBit j=true ->
  s.testBit j=true\/∃e∈es,Region.binds .any e=true/\(e.on=j\/(M.getD e.on 0).testBit j=true)
 | [],s,h=>.inl h
 | e::es,s,h=>by
  rw[zat] at h;rcases yR M j es _ h with q | ⟨e',q1,q2⟩
  .split at q
   .rename_i hb;rw[Nat.testBit_or,Nat.testBit_or,zae,zae] at q;rcases q with q | q | q
    .exact .inl q
    .refine .inr ⟨e,zh ..,hb,.inl ?_⟩;rw[Nat.testBit_two_pow] at q;simpa using q
    .exact .inr ⟨e,zh ..,hb,.inr q⟩
   .exact .inl q
  .exact .inr ⟨e',zo _ q1,q2⟩
def pU(ops:Array Oper)(bar:List Nat)(M:Array Nat):Bool:=
 (List.range ops.size).all λx=>match ops[x]? with
  | some ox=>(M.getD x 0==WA M ox.after.toList)&&(ox.after.toList.all λe => !Region.binds .any e||decide (e.on<x)) &&
   ((List.range x).all λj=>(M.getD x 0).testBit j||(match ops[j]? with
    | some oj=>oj.apart ops ox&&allowed (cls bar j oj.op) (cls bar x ox.op)
    | none=>true))
  | none=>true
theorem aO{bar:List Nat}{M:Array Nat}(h:pU ops bar M=true){x:Nat}{ox:Oper}(hx:ops[x]? = some ox) :
  (∀j,(M.getD x 0).testBit j=true->∃e∈ox.after,Region.binds .any e=true/\(e.on=j\/(M.getD e.on 0).testBit j=true))/\(∀e∈ox.after,Region.binds .any e=true->e.on<x) /\
  (∀j oj,j<x->ops[j]? = some oj->(M.getD x 0).testBit j=true\/(oj.apart ops ox=true/\allowed (cls bar j oj.op) (cls bar x ox.op)=true)):=by
 have hlt:x<ops.size:=by
  rcases zD x ops.size with q | q
  .exact q
  .rw[zbv q] at hx;cases hx
 have:=zd.1 h x (by simpa using hlt);rw[hx] at this;simp only[zk,we] at this;obtain⟨⟨h1,h2⟩,h3⟩:=this;refine⟨λj hj=>?_,λe he hb=>?_,λj oj hj hoj=>?_⟩
 .rw[h1] at hj;rcases yR M j _ _ hj with q | ⟨e,q1,q2⟩
  .simp at q
  .exact⟨e,by simpa using q1,q2⟩
 .simpa[hb] using zd.1 h2 e (by simpa using he)
 .have:=zd.1 h3 j (by simpa using hj);rw[hoj] at this;simp only[zae,zk] at this;exact this
def dI(n:Nat)(listed:Array Bool):List Nat:=(List.range n).filter λi => !listed.getD i true
theorem fq(n:Nat)(listed:Array Bool):(dI n listed).Pairwise (· < ·):=zb2 _ List.pairwise_lt_range
theorem xh{n:Nat}{listed:Array Bool}{i:Nat}{c1 c2:List Nat}(hsz:listed.size=n)(hi:i<n)(h:dI n listed=c1++i::c2):dI n (listed.setIfInBounds i true)=c1++c2:=by
 have hs:=fq n listed;rw[h] at hs;rw[za8] at hs;obtain⟨h1,h2,h3⟩:=hs;rw[t6] at h2;have e:dI n (listed.setIfInBounds i true)=(dI n listed).filter λj=>decide (j≠i):=by
  unfold dI;rw[List.filter_filter];refine zbb λj hj=>?_;have hj':j<n:=by simpa using hj
  by_cases q:j=i
  .subst q;simp[zF,hsz,hj']
  .rw[getD_set_ne (listed:=listed) (i:=i) (j:=j) true (zar q)];simp[q]
 rw[e,h,zas,m7,za (by simp)];congr 1;·exact zbf.2 λj hj=>by have:=h3 j hj i (zh ..);simp;omega
 .exact zbf.2 λj hj=>by have:=h2.1 j hj;simp;omega
theorem IC{bar:List Nat}{M:Array Nat}{stF:St}(hd:eV X.N ops=true)(hr:pU ops bar M=true)(hQ:∀g' a' w',A6 X g' stF a' w'->Q .normal a' w') :
  ∀(fuel:Nat) (listed:Array Bool) (g:Gh) (st:St) (a:Act) (w:World),A6 X g st a w->listed.size=ops.size->(dI ops.size listed).length=fuel ->
   (∀i o,listed.getD i false=true->ops[i]? = some o->∀e∈o.after,Region.binds .any e=true->listed.getD e.on false=true) ->
   CB X.P ops bar true (dI ops.size listed) st stF->wpAnyIn (FX ρ) n X.P .any ops Q fuel listed a w:=by
 intro fuel;have hfirst:∀(listed:Array Bool),listed.size=ops.size->∀i c,dI ops.size listed=i::c->i∈Region.ready .any ops listed:=by
  intro listed hsz i c h;have hmem:i∈dI ops.size listed:=by rw[h];simp
  obtain⟨hi1,hi2⟩:=zB.1 hmem;have hi:i<ops.size:=by simpa using hi1
  refine zB.2 ⟨hi1,?_⟩;rw[hi2,zap,zp hi];simp only[wl,zX];rw[zbc];intro e he;cases hb:Region.binds .any e with
  | false=>rfl
  | true=>
  have hlt:=(aO hr (zp hi)).2.1 e he hb;show (!true||_)=true;rw[zae];right;cases hq:listed.getD e.on false with
  | true=>rfl
  | false=>
   exfalso;have hon:e.on∈dI ops.size listed:=zB.2 ⟨by simp;omega,by
    have:listed.getD e.on true=false:=by
     have hlt':e.on<listed.size:=by omega
     simp[zF,hlt'] at hq |-;exact hq
    rw[this];rfl⟩
   have hs:=fq ops.size listed;rw[h] at hs hon;rw[t6] at hs;rcases zL.1 hon with q | q
   .omega
   .have:=hs.1 _ q;omega
 induction fuel with
 | zero=>
  intro listed g st a w h hsz hf _ hrun;have hnil:dI ops.size listed = []:=zH hf;rw[hnil] at hrun;have:st=stF:=hrun;subst this;refine⟨?_,hQ g a w h⟩;cases hq:Region.ready .any ops listed with
  | nil=>rfl
  | cons i l=>
   exfalso;have hm:i∈Region.ready .any ops listed:=by rw[hq];simp
   obtain⟨k1,k2⟩:=zB.1 hm;rw[zk] at k2;have:i∈dI ops.size listed:=zB.2 ⟨k1,k2.1⟩;rw[hnil] at this;cases this
 | succ fuel ih=>
  intro listed g st a w h hsz hf hdown hrun;refine⟨λhnil=>?_,λi hi=>?_⟩
  .exfalso;cases hq:dI ops.size listed with
   | nil=>rw[hq] at hf;simp at hf
   | cons j c=>
    have:=hfirst listed hsz j c hq;rw[hnil] at this;cases this
  .obtain⟨k1,k2⟩:=zB.1 hi;rw[zk] at k2;have hil:i<ops.size:=by simpa using k1
   have hget:=zp hil;have hirem:i∈dI ops.size listed:=zB.2 ⟨k1,k2.1⟩;obtain⟨c1,c2,hc⟩:=List.append_of_mem hirem;have hs:=fq ops.size listed;rw[hc] at hs hrun;rw[za8] at hs;have hafter:∀e∈ops[i].after,Region.binds .any e=true->listed.getD e.on false=true:=by
    have:=k2.2;rw[hget] at this;simp only[wl,zX] at this;rw[zbc] at this;intro e he hb;have:=this e he;rw[hb] at this;simpa using this
   have hnotl:∀j∈c1,listed.getD j false=false:=by
    intro j hj;have:j∈dI ops.size listed:=by rw[hc];simp[hj]
    obtain⟨q1,q2⟩:=zB.1 this;have q2':listed.getD j true=false:=by simpa using q2
    rw[zF] at q2' |-;cases hq:listed[j]? with
    | none=>rfl
    | some b=>rw[hq] at q2';exact q2'
   have hwait:∀j,(M.getD i 0).testBit j=true->listed.getD j false=true:=by
    have key:∀(m k:Nat) (o:Oper),k<m->ops[k]? = some o->(∀e∈o.after,Region.binds .any e=true->listed.getD e.on false=true)->∀j,(M.getD k 0).testBit j=true->listed.getD j false=true:=by
     intro m;induction m with
     | zero=>intro k o hk;omega
     | succ m ihm=>
      intro k o hk ho haf j hj;obtain⟨e,he1,he2,he3⟩:=(aO hr ho).1 j hj;have hl:=haf e he1 he2;rcases he3 with rfl | he3
      .exact hl
      .have hlt:=(aO hr ho).2.1 e he1 he2;have hklt:k<ops.size:=by
        rcases zD k ops.size with q | q
        .exact q
        .rw[zbv q] at ho;cases ho
       exact ihm e.on _ (by omega) (zp (show e.on<ops.size by omega)) (λe' h1 h2=>hdown e.on _ hl (zp (show e.on<ops.size by omega)) e' h1 h2) j he3
    exact key (i+1) i _ (by omega) hget hafter
   have hind:∀j∈c1,∀oj,ops[j]? = some oj->oj.apart ops ops[i]=true/\allowed (cls bar j oj.op) (cls bar i ops[i].op)=true:=by
    intro j hj oj hoj;have hji:=hs.2.2 j hj i (zh ..);rcases (aO hr hget).2.2 j oj hji hoj with q | q
    .have:=hwait j q;rw[hnotl j hj] at this;cases this
    .exact q
   obtain⟨σF,st',hst,hrest⟩:=xm hget c1 c2 st stF hind hrun;refine tV hget h hst (F7 hd hget) λg' a' w' h'=>?_;have hrem:=xh hsz hil hc;refine ih _ g' st' a' w' h' (by simpa using hsz) ?_ ?_ (by rw[hrem];exact hrest)
   .rw[hrem];rw[hc] at hf;simp at hf |-;omega
   .intro k o hk ho e he hb;by_cases q:k=i
    .subst q;rw[hget] at ho;cases ho;exact getD_set_true (hafter e he hb)
    .rw[getD_set_ne (listed:=listed) (i:=i) (j:=k) false (zar q)] at hk;exact getD_set_true (hdown k o hk ho e he hb)
end
end Go.Pw
namespace Go.Pw
open Go.RowKit
inductive PX where
 | normal
 | exit (id:Nat)
 | goto (l:Nat)
 | ret
def lift(X:Ctx)(Q:PX->Ctx->St->Prop):Exit->Act->World->Prop
 | .normal,a,w=>∃X' g st,A6 X' g st a w/\(X'.P=X.P/\X'.ρ=X.ρ)/\Q .normal X' st
 | .exit id,a,w=>∃X' g st,A6 X' g st a w/\(X'.P=X.P/\X'.ρ=X.ρ)/\Q (.exit id) X' st
 | .goto l,a,w=>∃X' g st,A6 X' g st a w/\(X'.P=X.P/\X'.ρ=X.ρ)/\Q (.goto l) X' st
 | .ret,a,w=>∃X' g st,A6 X' g st a w/\(X'.P=X.P/\X'.ρ=X.ρ)/\Q .ret X' st
 | .panic _,_,_=>False
 | .outgrown,_,_=>False
def X4(X:Ctx)(c:Code)(Q:PX->Ctx->St->Prop)(st:St):Prop:=∀(n:Nat) (g:Gh) (a:Act) (w:World),A6 X g st a w->c.wpIn (FX X.ρ) n X.P (lift X Q) a w
section
variable{X:Ctx}{Q:PX->Ctx->St->Prop}{st:St}
theorem X4.mono{c:Code}{Q':PX->Ctx->St->Prop}(h:X4 X c Q st)(hq:∀e X' s,Q e X' s->Q' e X' s):X4 X c Q' st:=λn g a w hs=>zbx (h n g a w hs) λe a' w' q=>by
 cases e <;> simp only[lift] at q |- <;> first | exact q | (obtain⟨X',g',st',h1,h3,h2⟩:=q;exact⟨X',g',st',h1,h3,hq _ _ _ h2⟩)
theorem c9(h:Q .normal X st):X4 X .skip Q st:=λn g a w hs=>wpIn_skip ⟨X,g,st,hs,⟨rfl,rfl⟩,h⟩
theorem wZ{l:Nat}(h:Q .normal X st):X4 X (.label l) Q st:=λn g a w hs=>wpIn_label ⟨X,g,st,hs,⟨rfl,rfl⟩,h⟩
theorem x8{id:Nat}(h:Q (.exit id) X st):X4 X (.exit id) Q st:=λn g a w hs=>wpIn_exit ⟨X,g,st,hs,⟨rfl,rfl⟩,h⟩
theorem HF{l:Nat}(h:Q (.goto l) X st):X4 X (.goto l) Q st:=λn g a w hs=>wpIn_goto ⟨X,g,st,hs,⟨rfl,rfl⟩,h⟩
theorem b9(h:Q .ret X st):X4 X .ret Q st:=λn g a w hs=>wpIn_ret ⟨X,g,st,hs,⟨rfl,rfl⟩,h⟩
def jd(N:Ctx->St->Prop)(Q:PX->Ctx->St->Prop):PX->Ctx->St->Prop
 | .normal,X,s=>N X s
 | e,X,s=>Q e X s
theorem rB{X X':Ctx}(h:X'.P=X.P/\X'.ρ=X.ρ):lift X' Q=lift X Q:=by
 funext e a w
 cases e <;> simp only[lift,h.1,h.2]
theorem l5{x y:Code}(h:X4 X x (jd (λX'=>X4 X' y Q) Q) st):X4 X (.seq x y) Q st:=λn g a w hs=>wpIn_seq (zbx (h n g a w hs) λe a' w' q=>by
 cases e <;> simp only[lift,jd,Exit.then] at q |- <;> first | exact q | (
  obtain⟨X',g',st',h1,h3,h2⟩:=q;have:=h2 n g' a' w' h1;rw[rB h3,h3.1,h3.2] at this;exact this))
theorem F5{c:Operand}{x y:Code}(b:Bool)(hc:y7 st.env c = .bool b)(hx:b=true->X4 X x Q st)(hy:b=false->X4 X y Q st):X4 X (.cond c x y) Q st:=λn g a w hs=>by
 have hv:=hs.eval c;rw[hc] at hv;refine wpIn_cond hv.eP ?_;cases b;·exact hy rfl n g a w hs
 .exact hx rfl n g a w hs
def sS(id:Nat)(Q:PX->Ctx->St->Prop):PX->Ctx->St->Prop
 | .exit id',X,s=>if id'=id then Q .normal X s else Q (.exit id') X s
 | e,X,s=>Q e X s
theorem l6 {id : Nat} {c : Code} (h : X4 X c (sS id Q) st) : X4 X (.block id c) Q st := fun n g a w hs => wpIn_block (zbx (h n g a w hs) fun e a' w' q => by
  cases e <;> simp only [lift, sS, Exit.inBlock] at q |- <;> first
    | exact q
    | (obtain ⟨X', g', st', h1, h3, h2⟩ := q
       split;· rename_i e; rw [zb e] at h2; exact ⟨X', g', st', h1, h3, h2⟩
       . rename_i e; rw [za e] at h2; exact ⟨X', g', st', h1, h3, h2⟩))
theorem exists_least{p:Nat->Prop}(h:∃m,p m):∃m,p m/\∀k,p k->m<=k:=by
 obtain⟨m,hm⟩:=h;induction m using Nat.strongRecOn with
 | _ m ih=>
  by_cases q:∃k,k<m/\p k
  .obtain⟨k,h1,h2⟩:=q;exact ih k h1 h2
  .exact⟨m,hm,λk hk=>Nat.le_of_not_lt λh=>q ⟨k,h,hk⟩⟩
theorem QB{id:Nat}{ops:Array Oper}(bar:List Nat)(hm:X.P.follows .mixedOrders=true)(hd:eV X.N ops=true)(hr:pU ops bar (Region.before ops)=true)
  (h:∃s,CB X.P ops bar true (List.range ops.size) st s/\Q .normal X s):X4 X (.region id ops true) Q st:=by
 intro n g a w hs;obtain⟨s,hrun,hq⟩:=h;have hrem:dI ops.size (Array.replicate ops.size false)=List.range ops.size:=zbf.2 λi hi=>by
  have:i<ops.size:=by simpa using hi
  simp[zF,this]
 refine wpIn_region_any hm (IC hd hr (λg' a' w' h'=>⟨X,g',s,h',⟨rfl,rfl⟩,hq⟩) _ _ g st a _ hs.drew (by simp) (by rw[hrem];simp) (λi o hi=>?_) (by rw[hrem];exact hrun));exfalso;rw[zF,zbp] at hi;split at hi <;> cases hi
end
def L8(ds:List PV):Nat->PV:=λi=>ds.getD i (.tup [])
def SA(P:Program)(st:St):ResultVar->PV->Prop
 | .tmp t,d=>y7 st.env (.tmp t)=d
 | .cell t T,d=>C0 P st.σ (y7 st.env) none (.load T (.tmp t)) d .none
def xR(P:Program)(st:St):List ResultVar->List PV->Prop
 | [],[]=>True
 | r::rs,d::ds=>SA P st r d/\xR P st rs ds
 | _,_=>False
def fN:List PV->PV
 | [d]=>d
 | ds=>.tup ds
def Fin(P:Program)(fn:Func)(d:PV)(st:St):Prop:=
 ∃rs,xR P st fn.results.toList rs/\(fN rs).kH st.σ=true/\((fN rs).view st.σ=d\/((fN rs).view st.σ).w3=d)
def JO(P:Program)(fn:Func)(r:Row)(st:St):Prop:=
 ∃t l,fn.results = #[.tmp t]/\y7 st.env (.tmp t) = .sl l/\st.σ l=some r/\r.cl=true
def NU(X:Ctx)(F:St->Prop):PX->Ctx->St->Prop
 | .normal,X',s | .ret,X',s=>X'=X/\F s
 | _,_,_=>False
section
variable{X:Ctx}{g:Gh}{st:St}{a:Act}{w:World}
def nM(tmps:Array Value):ResultVar->Sem Value
 | .tmp t=>pure (tmps.getD t undef)
 | .cell t T=>do loadVar T (<-asAddr (tmps.getD t undef))
theorem gZ(fn:Func)(tmps:Array Value):results fn tmps=(do let vs <-fn.results.mapM (nM tmps);pure (if h:vs.size=1 then vs[0] else .tuple vs)):=by
 have:(λx:ResultVar=>match x with
   | .tmp t=>(pure (tmps.getD t undef):Sem Value)
   | .cell a t=>do loadVar t (<-asAddr (tmps.getD a undef)))=nM tmps:=by
  funext r
  cases r <;> rfl
 unfold results;rw[<-this];rfl
theorem HS(h:A6 X g st a w){r:ResultVar}{d:PV}(hr:SA X.P st r d) :
  ∃v,(nM a.tmps r).run X.P w = .ok v w/\Rd w g.imm g.μ st.p9 v d:=by
 cases r with
 | tmp t=>
  have:y7 st.env (.tmp t)=d:=hr;subst this;exact⟨_,rfl,h.KK t⟩
 | cell t T=>
  have hv:=h.KK t;have hr':C0 X.P st.σ (y7 st.env) none (.load T (.tmp t)) d .none:=hr;have key:∀(b o:Nat) (u:Value),a.tmps.getD t undef = .pointer (some ⟨b,o,none⟩)->(Instr.loadAt T (a.tmps.getD t undef)).run X.P w = .ok u w ->
    (do loadVar T (<-asAddr (a.tmps.getD t undef)):Sem Value).run X.P w = .ok u w:=by
   intro b o u e hrun;rw[e] at hrun |-;exact hrun
  cases hr' with
  | pureV _ _ hnd hnl h=>exact absurd rfl (hnl _ _)
  | mH _ _ l i f r y n hx hl hy ha hsz hf=>
   have hx':y7 st.env (.tmp t) = .ptr l i f:=hx;rw[hx'] at hv;obtain⟨u,h1,h2⟩:=h.mH hv hl hy ha hsz hf;obtain⟨_,b,s,_,e⟩:=hv.Y5;exact⟨u,key _ _ u e h1,h2⟩
  | jR _ _ l i f r y _ hx hl hy ha hf=>
   have hx':y7 st.env (.tmp t) = .ptr l i f:=hx;rw[hx'] at hv;obtain⟨u,h1,h2⟩:=h.jR hv hl hy ha hf;obtain⟨_,b,s,_,e⟩:=hv.Y5;exact⟨u,key _ _ u e h1,h2⟩
  | fz _ _ cs n hx ha hsz hf=>
   have hx':y7 st.env (.tmp t) = .rptr cs:=hx;rw[hx'] at hv;obtain⟨u,h1,h2⟩:=h.fz hv ha hsz hf;obtain⟨b,o,_,e,_⟩:=hv.bG;exact⟨u,key _ _ u e h1,h2⟩
  | fA _ _ cs _ hx ha hf=>
   have hx':y7 st.env (.tmp t) = .rptr cs:=hx;rw[hx'] at hv;obtain⟨u,h1,h2⟩:=h.fA hv ha hf;obtain⟨b,o,_,e,_⟩:=hv.bG;exact⟨u,key _ _ u e h1,h2⟩
theorem se(h:A6 X g st a w):∀ {rs:List ResultVar} {ds:List PV},xR X.P st rs ds ->
  ∃vs:List Value,(rs.mapM (nM a.tmps)).run X.P w = .ok vs w/\vs.length=ds.length /\
   ∀(i:Nat) v d,vs[i]? = some v->ds[i]? = some d->Rd w g.imm g.μ st.p9 v d
 | [],[],_=>⟨[],rfl,rfl,λi v d hv=>by simp at hv⟩
 | r::rs,d::ds,hr=>by
  obtain⟨v,h1,h2⟩:=HS h hr.1;obtain⟨vs,k1,k2,k3⟩:=se h hr.2;refine⟨v::vs,?_,by simp[k2],λi v' d' hv hd=>?_⟩
  .rw[List.mapM_cons,zq,h1,zi,zq,k1,zi];rfl
  .cases i with
   | zero=>simp at hv hd;subst hv hd;exact h2
   | succ i=>exact k3 i v' d' (by simpa using hv) (by simpa using hd)
 | [],_::_,hr=>hr.elim
 | _::_,[],hr=>hr.elim
theorem HQ(h:A6 X g st a w){fn:Func}{ds:List PV}(hr:xR X.P st fn.results.toList ds):∃v,(results fn a.tmps).run X.P w = .ok v w/\Rd w g.imm g.μ st.p9 v (fN ds):=by
 obtain⟨vs,k1,k2,k3⟩:=se h hr;have hm:(fn.results.mapM (nM a.tmps)).run X.P w = .ok vs.toArray w:=by
  rw[Array.mapM_eq_mapM_toList];simp only[<-bind_pure_comp];rw[zq,k1];rfl
 by_cases h1:vs.length=1
 .match vs,h1,k1,k2,k3,hm with
  | [v],_,k1,k2,k3,hm=>
   match ds,k2,k3 with
   | [d],_,k3=>
    refine⟨v,?_,k3 0 v d rfl rfl⟩;rw[gZ,zq,hm];rfl
 .refine⟨.tuple vs.toArray,?_,?_⟩
  .rw[gZ,zq,hm];simp only[zi];rw[dif_neg (by simpa using h1)];rfl
  .have:fN ds = .tup ds:=by
    match ds,k2 with
    | [],_=>rfl
    | [d],k2=>simp at k2;exact absurd k2 h1
    | _::_::_,_=>rfl
   rw[this];exact .tup _ _ (by simpa using k2) λi v c hv hc=>k3 i v c (by simpa using hv) hc
theorem nw{fn:Func}{tmps:Array Value}{R:Ending->World->Prop}{P:Program}{n:Nat}{base:Nat}{v:Value}:∀(rs:List Nat) (w:World),rs.Nodup ->
  (∀r∈rs,w.heap[r]? = some (.deferred (some []))/\base<=r)->(∀w',jh base w w'->(∀(b o:Nat),w'.cell? ⟨b,o,none⟩=w.cell? ⟨b,o,none⟩/\w'.frozen? ⟨b,o,none⟩=w.frozen? ⟨b,o,none⟩)->w'.heap.size=w.heap.size->(∀(k:Nat) x,w.heap[k]? = some x->bq x=true->w'.heap[k]? = some x)->(results fn tmps).run P w' = .ok v w'/\R (.returned v) w') ->
  LeavesInM Fence.wide n P fn tmps R (rs.map λr=>{ target:=.collected r,args:=#[] }) .returning w
 | [],w,_,_,hR=>by
  obtain⟨h1,h2⟩:=hR w (jh.refl _ _) (λ_ _=>⟨rfl,rfl⟩) rfl (λ_ _ q _=>q);exact⟨v,h1,h2⟩
 | r::rs,w,hn,hm,hR=>by
  rw[zau] at hn;have hr:=hm r (by simp);have hlt:=(ul.1 hr.1).1;have hcell:∀b o,(w.putObj r (.deferred none)).cell? ⟨b,o,none⟩=w.cell? ⟨b,o,none⟩:=by
   intro b o;by_cases e:b=r
   .subst e;unfold World.cell?;simp only;rw[World.putObj_heap_same hlt,hr.1]
   .exact World.cell?_of_block (by rw[World.putObj_heap_other e])
  have hfro:∀b o,(w.putObj r (.deferred none)).frozen? ⟨b,o,none⟩=w.frozen? ⟨b,o,none⟩:=by
   intro b o;by_cases e:b=r
   .subst e;unfold World.frozen?;simp only;rw[World.putObj_heap_same hlt,hr.1]
   .unfold World.frozen?;simp only;rw[World.putObj_heap_other e]
  have hb:jh base w (w.putObj r (.deferred none)):=⟨⟨rfl,rfl,rfl,by simp,λk hk=>World.putObj_heap_other (by omega)⟩,zt _⟩;refine⟨(by intro q;cases q),.inl ⟨r,w.putObj r (.deferred none),rfl,?_,nw (base:=base) (v:=v) rs _ hn.2 (λk hk=>?_) λw' h1 h2 h3 h4=>?_⟩⟩;·exact run_takeDeferred hr.1
  .rw[World.putObj_heap_other (λe=>hn.1 (by rw[<-e];exact hk))];exact hm k (by simp[hk])
  .exact hR w' (hb.trans h1) (λb o=>⟨(h2 b o).1.trans (hcell b o),(h2 b o).2.trans (hfro b o)⟩) (by rw[h3];simp) (λk x hx hm=>h4 k x (by
    rw[World.putObj_heap_other (λe=>by rw[e,hr.1] at hx;cases hx;cases hm)];exact hx) hm)
theorem Jk{P:Program}{f:FuncId}{fn:Func}{c:Code}{ds:List PV}{d:PV}(hf:P.funcs[f]? = some fn)(hb:fn.body=some c)(hn:ds.length<=fn.ntmps)(h6:fn.ntmps<=1000000)
  (h:∀X:Ctx,X.P=P->X.N=fn.ntmps->X.ρ=none->X.ext=(λ_=>undef)->X.obs = []->X.calm=false->X4 X c (NU X (Fin P fn d)) ⟨L8 ds,λ_=>none⟩):N9 P f ds d:=by
 intro w imm vs hlt hG hargs;let X:Ctx:={ P:=P,N:=fn.ntmps,ρ:=none,w0:=w,imm0:=imm,ext:=λ_=>undef,tab:=hG }
 let a0:Act:={ tmps:=vs++Array.replicate (fn.ntmps-vs.size) undef,defers:=[] }
 have hsim:A6 X ⟨imm,λ_=>⟨none,0,0,0⟩⟩ ⟨L8 ds,λ_=>none⟩ a0 w:=by
  refine⟨?_,λi=>?_,(λl r q=>by cases q),(λl l' r r' _ q=>by cases q),(λl r b o q=>by cases q),hlt,λb o q=>.inl q,λb o q=>q,jh.refl _ _,⟨[],List.nodup_nil,rfl,λr hr=>by cases hr⟩,λp hp=>(by cases hp),⟨h6,λ_=>rfl⟩,⟨λl r _ q=>(by cases q),λl l' r r' _ _ _ q=>(by cases q)⟩⟩
  .have:=hargs.1;simp only[a0,X,zb0,Array.size_replicate];omega
  .by_cases q6:i<1000000
   rotate_left
   .simp only[a0,L8,Ctx.val,za q6,X];rw[zf,qr (by omega)];exact .cl (.tup #[] [] rfl λi v c _ hc=>by simp at hc)
   simp only[a0,L8,Ctx.val,zb q6];rw[zF,zf];rcases zD i vs.size with q | q
   .rw[me q,zp q,zc (by rw[<-hargs.1];exact q)];exact .cl (hargs.2 i _ _ (zp q) (zc (by rw[<-hargs.1];exact q)))
   .rw[zah q,qr (by rw[<-hargs.1];exact q),zbp];split;·exact .cl (.tup #[] [] rfl λi v c _ hc=>by simp at hc)
    .exact .cl (.tup #[] [] rfl λi v c _ hc=>by simp at hc)
 have key:∀(g:Gh) (st:St) (a:Act) (w':World),A6 X g st a w'->Fin P fn d st ->
   LeavesInM Fence.wide 0 P fn a.tmps (λe w'=>∃v,e = .returned v/\jh w.heap.size w w'/\Rd0 w' (fD imm w w') v d) a.defers .returning w':=by
  intro g st a w' hs hfin;obtain⟨rs,hnd,hdef,hmk⟩:=hs.marks;rw[hdef];have hbase:∃v,∀w'',jh w.heap.size w' w''->(∀b o,w''.cell? ⟨b,o,none⟩=w'.cell? ⟨b,o,none⟩)->w''.heap.size=w'.heap.size->(∀(k:Nat) x,w'.heap[k]? = some x->bq x=true->w''.heap[k]? = some x) ->
    (results fn a.tmps).run P w'' = .ok v w''/\Rd0 w'' (fD imm w w'') v d:=by
   obtain⟨ds',hres,hok,hd⟩:=hfin;obtain⟨v,hrun,hrd⟩:=HQ hs hres;refine⟨v,λw'' hbl hc hz hmaps=>?_⟩;have hrun':(results fn a.tmps).run P w'' = .ok v w'':=by
    have same:∀(r:ResultVar) (u:Value),r∈fn.results.toList->(nM a.tmps r).run P w' = .ok u w'->(∃d',SA P st r d')->(nM a.tmps r).run P w'' = .ok u w'':=by
     rintro r u _ hu ⟨d',hr'⟩;cases r with
     | tmp t=>cases hu;rfl
     | cell t T=>
      have hr2:C0 P st.σ (y7 st.env) none (.load T (.tmp t)) d' .none:=hr';have hvt:=hs.KK t;have look:∀(b o:Nat),a.tmps.getD t undef = .pointer (some ⟨b,o,none⟩)->(loadVar T ⟨b,o,none⟩).run P w' = .ok u w' ->
        ((∃n,J1 P T=some true/\u6 P T=some n/\∀j,j<n->∃q,w'.cell? ⟨b,o+j,none⟩=some q)\/(J1 P T=some false/\∃q,w'.cell? ⟨b,o,none⟩=some q)) ->
        (nM a.tmps (.cell t T)).run P w'' = .ok u w'':=by
       intro b o e hl hcase;have goal:(loadVar T ⟨b,o,none⟩).run P w'' = .ok u w'':=by
        rcases hcase with ⟨n,h1,h2,h3⟩ | ⟨h1,q,h3⟩
        .have e1:=bL (w:=w') h1 h2 (λj=>(w'.cell? ⟨b,o+j,none⟩).getD undef) (λj hj=>by obtain⟨q,hq⟩:=h3 j hj;rw[hq];rfl);have e2:=bL (w:=w'') h1 h2 (λj=>(w'.cell? ⟨b,o+j,none⟩).getD undef) (λj hj=>by obtain⟨q,hq⟩:=h3 j hj;rw[hc,hq];rfl);rw[e1] at hl;cases hl;exact e2
        .have e1:=bM (w:=w') h1 h3;have e2:=bM (w:=w'') h1 (by rw[hc];exact h3);rw[e1] at hl;cases hl;exact e2
       simp only[nM,e];exact goal
      have hu2:∀(b o:Nat),a.tmps.getD t undef = .pointer (some ⟨b,o,none⟩)->(loadVar T ⟨b,o,none⟩).run P w' = .ok u w':=by
       intro b o e;simp only[nM,e] at hu;exact hu
      cases hr2 with
      | pureV _ _ hnd hnl h=>exact absurd rfl (hnl _ _)
      | mH _ _ l i f r y n hx' hl hy ha hsz hf=>
       have hx2:y7 st.env (.tmp t) = .ptr l i f:=hx';rw[hx2] at hvt;obtain⟨_,b,s,hA,e⟩:=hvt.Y5;refine look _ _ e (hu2 _ _ e) (.inl ⟨n,ha,hsz,λj hj=>?_⟩);obtain⟨q,h1,_⟩:=hs.cell_of hl hy (zc (show f+j<y.cells.length by omega)) hA;exact⟨q,by rw[so _ f j];exact h1⟩
      | jR _ _ l i f r y _ hx' hl hy ha hf=>
       have hx2:y7 st.env (.tmp t) = .ptr l i f:=hx';rw[hx2] at hvt;obtain⟨_,b,s,hA,e⟩:=hvt.Y5;obtain⟨q,h1,_⟩:=hs.cell_of hl hy hf hA;exact look _ _ e (hu2 _ _ e) (.inr ⟨ha,q,h1⟩)
      | fz _ _ cs n hx' ha hsz hf=>
       have hx2:y7 st.env (.tmp t) = .rptr cs:=hx';rw[hx2] at hvt;obtain⟨b,o,q,e,_,hq⟩:=hvt.bG;exact look _ _ e (hu2 _ _ e) (.inl ⟨n,ha,hsz,λj hj=>⟨_,(hq j _ (zc (show j<cs.length by omega))).2.1⟩⟩)
      | fA _ _ cs _ hx' ha hf=>
       have hx2:y7 st.env (.tmp t) = .rptr cs:=hx';rw[hx2] at hvt;obtain⟨b,o,q,e,_,hq⟩:=hvt.bG;exact look _ _ e (hu2 _ _ e) (.inr ⟨ha,_,by simpa using (hq 0 _ hf).2.1⟩)
    have all:∀(rs:List ResultVar) (ds:List PV) (vs:List Value),(∀r∈rs,r∈fn.results.toList)->xR P st rs ds->(rs.mapM (nM a.tmps)).run P w' = .ok vs w'->(rs.mapM (nM a.tmps)).run P w'' = .ok vs w'':=by
     intro rs;induction rs with
     | nil=>intro ds vs _ _ q;cases q;rfl
     | cons r rs ih=>
      intro ds vs hm hr q;cases ds with
      | nil=>exact hr.elim
      | cons d' ds=>
       obtain⟨u,h1,_⟩:=HS (X:=X) hs hr.1;obtain⟨us,k1,_,_⟩:=se (X:=X) hs hr.2;have h1':(nM a.tmps r).run P w' = .ok u w':=h1;have k1':(rs.mapM (nM a.tmps)).run P w' = .ok us w':=k1;rw[List.mapM_cons,zq,h1',zi,zq,k1',zi] at q;rw[List.mapM_cons,zq,same r u (hm r (by simp)) h1' ⟨d',hr.1⟩,zi,zq,ih ds us (λr hr=>hm r (by simp[hr])) hr.2 k1',zi];cases q;rfl
    obtain⟨us,k1,k2,_⟩:=se (X:=X) hs hres;have k1':(fn.results.toList.mapM (nM a.tmps)).run P w' = .ok us w':=k1;have k3:=all fn.results.toList ds' us (λ_ q=>q) hres k1';have hm:∀w0:World,(fn.results.toList.mapM (nM a.tmps)).run P w0 = .ok us w0->(fn.results.mapM (nM a.tmps)).run P w0 = .ok us.toArray w0:=by
     intro w0 q;rw[Array.mapM_eq_mapM_toList];simp only[<-bind_pure_comp];rw[zq,q];rfl
    have r1:(results fn a.tmps).run P w' = .ok v w':=hrun;rw[gZ,zq,hm w' k1'] at r1;rw[gZ,zq,hm w'' k3];simp only[zi] at r1 |-;cases r1;rfl
   refine⟨hrun',?_⟩;have hX2:Ext w' g.imm w' (fD imm w w'):=⟨λb o q=>by
    rcases hs.immsub b o q with q' | q'
    .exact .inl q'
    .exact .inr ⟨q',hs.immlt b o q⟩,λ_ _ _=>rfl,λ_ _ _ _ q _=>q⟩
   have hv2:=hs.view (imm2:=fD imm w w') hX2 hrd hok (λl _ r hl i x j y b s hx' hy hA=>by
    obtain⟨b',s',u,q1,q2,_,q4,_⟩:=(hs.rows l r hl).cell i x j y hx' hy;rw[hA] at q1;cases q1;by_cases hi:i<r.lo
    .exact hX2.im _ _ (q4 hi)
    .have:=hs.br hl ((hs.rows l r hl).PR hx' hy hA hi);exact .inr this)
   have hfin2:Rd0 w' (fD imm w w') v d:=by
    rcases hd with rfl | rfl
    .exact hv2
    .exact hv2.w3
   refine hfin2.mono ⟨λb o q=>?_,λb o _=>hc b o,λb o x q hx' hcl=>?_⟩
   .rcases q with q | ⟨q1,q2⟩
    .exact .inl q
    .exact .inr ⟨q1,by omega⟩
   .exact hmaps b x hx' hcl
  obtain⟨v,hv⟩:=hbase;exact nw rs w' hnd hmk λw'' h1 h2 h3 h4=>⟨(hv w'' h1 (λb o=>(h2 b o).1) h3 h4).1,v,rfl,hs.below.trans h1,(hv w'' h1 (λb o=>(h2 b o).1) h3 h4).2⟩
 have hcall:CallsIn Fence.wide 0 P f vs w λe w'=>∃v,e = .returned v/\jh w.heap.size w w'/\Rd0 w' (fD imm w w') v d:=by
  refine callsIn_of_wp_marks hf hb trivial ?_;refine zbx (h X rfl rfl rfl rfl rfl rfl 0 _ a0 w hsim) λe a w' q=>?_;cases e <;> simp only[lift,NU] at q
  .obtain⟨_,g,st,h1,_,hX,h2⟩:=q;rw[hX] at h1;exact key g st a w' h1 h2
  .obtain⟨_,g,st,h1,_,h2⟩:=q;exact h2.elim
  .obtain⟨_,g,st,h1,_,h2⟩:=q;exact h2.elim
  .obtain⟨_,g,st,h1,_,hX,h2⟩:=q;rw[hX] at h1;exact key g st a w' h1 h2
 exact callsIn_wide.1 hcall
theorem FF{P:Program}{f:FuncId}{fn:Func}{c:Code}{ds:List PV}{r:Row}(hf:P.funcs[f]? = some fn)(hb:fn.body=some c)(hn:ds.length<=fn.ntmps)(h6:fn.ntmps<=1000000)
  (h:∀X:Ctx,X.P=P->X.N=fn.ntmps->X.ρ=none->X.ext=(λ_=>undef)->X.obs = []->X.calm=false->X4 X c (NU X (JO P fn r)) ⟨L8 ds,λ_=>none⟩):kN P f ds r:=by
 intro w imm vs hlt hG hargs;let X:Ctx:={ P:=P,N:=fn.ntmps,ρ:=none,w0:=w,imm0:=imm,ext:=λ_=>undef,tab:=hG }
 let a0:Act:={ tmps:=vs++Array.replicate (fn.ntmps-vs.size) undef,defers:=[] }
 have hsim:A6 X ⟨imm,λ_=>⟨none,0,0,0⟩⟩ ⟨L8 ds,λ_=>none⟩ a0 w:=by
  refine⟨?_,λi=>?_,(λl r q=>by cases q),(λl l' r r' _ q=>by cases q),(λl r b o q=>by cases q),hlt,λb o q=>.inl q,λb o q=>q,jh.refl _ _,⟨[],List.nodup_nil,rfl,λr hr=>by cases hr⟩,λp hp=>(by cases hp),⟨h6,λ_=>rfl⟩,⟨λl r _ q=>(by cases q),λl l' r r' _ _ _ q=>(by cases q)⟩⟩
  .have:=hargs.1;simp only[a0,X,zb0,Array.size_replicate];omega
  .by_cases q6:i<1000000
   rotate_left
   .simp only[a0,L8,Ctx.val,za q6,X];rw[zf,qr (by omega)];exact .cl (.tup #[] [] rfl λi v c _ hc=>by simp at hc)
   simp only[a0,L8,Ctx.val,zb q6];rw[zF,zf];rcases zD i vs.size with q | q
   .rw[me q,zp q,zc (by rw[<-hargs.1];exact q)];exact .cl (hargs.2 i _ _ (zp q) (zc (by rw[<-hargs.1];exact q)))
   .rw[zah q,qr (by rw[<-hargs.1];exact q),zbp];split;·exact .cl (.tup #[] [] rfl λi v c _ hc=>by simp at hc)
    .exact .cl (.tup #[] [] rfl λi v c _ hc=>by simp at hc)
 have key:∀(g:Gh) (st:St) (a:Act) (w':World),A6 X g st a w'->JO P fn r st ->
   LeavesInM Fence.wide 0 P fn a.tmps (λe w'=>∃m:H8,e = .returned (.slice m.A m.n m.C)/\jh w.heap.size w w' /\
    mY w.heap.size w' (λb o=>fD imm w w' b o/\¬G9 m r b o) (λ_=>m) (λ_=>False) m r/\∀b o,G9 m r b o->w.heap.size<=b) a.defers .returning w':=by
  intro g st a w' hs hfin;obtain⟨rs,hnd,hdef,hmk⟩:=hs.marks;rw[hdef];obtain⟨t,l,hres,ht,hl,hcl⟩:=hfin;have hv:=hs.KK t;rw[ht] at hv;obtain⟨_,hv⟩:=hv.bx;have hR:=hs.rows l r hl;have hrun:∀w0:World,(results fn a.tmps).run P w0 = .ok (.slice (g.μ l).A (g.μ l).n (g.μ l).C) w0:=by
   intro w0;rw[<-hv];simp only[results,hres,List.mapM_toArray,zq];rfl
  refine nw rs w' hnd hmk λw'' h1 h2 h3 h4=>⟨hrun w'',g.μ l,rfl,hs.below.trans h1,?_,λb o ho=>(hR.own b o ho).1⟩;have hX:Ext w' g.imm w'' (λb o=>fD imm w w'' b o/\¬G9 (g.μ l) r b o):=by
   refine⟨λb o q=>⟨?_,λk=>hs.ownimm l r b o hl k q⟩,λb o _=>(h2 b o).1,λb o x q hx hcl=>h4 b x hx hcl⟩;rcases hs.immsub b o q with q' | q'
   .exact .inl q'
   .exact .inr ⟨q',by have:=hs.immlt b o q;omega⟩
  refine⟨hR.n,hR.z,hR.C,hR.lo,hR.el,hR.nil,hR.spot,λi x j y hx hy=>?_,λb o ho=>?_⟩
  .obtain⟨b,s,u,k1,k2,_,k4,k5⟩:=hR.cell i x j y hx hy;exact⟨b,s,u,k1,by rw[(h2 _ _).1];exact k2,.cl ((k5 hcl).mono hX),λq=>hX.im _ _ (k4 q),λ_=>(k5 hcl).mono hX⟩
  .obtain⟨k1,k2,k3⟩:=hR.own b o ho;exact⟨k1,by rw[(h2 _ _).1];exact k2,by rw[(h2 _ _).2];exact k3⟩
 have hcall:CallsIn Fence.wide 0 P f vs w λe w'=>∃m:H8,e = .returned (.slice m.A m.n m.C)/\jh w.heap.size w w' /\
    mY w.heap.size w' (λb o=>fD imm w w' b o/\¬G9 m r b o) (λ_=>m) (λ_=>False) m r/\∀b o,G9 m r b o->w.heap.size<=b:=by
  refine callsIn_of_wp_marks hf hb trivial ?_;refine zbx (h X rfl rfl rfl rfl rfl rfl 0 _ a0 w hsim) λe a w' q=>?_;cases e <;> simp only[lift,NU] at q
  .obtain⟨_,g,st,h1,_,hX,h2⟩:=q;rw[hX] at h1;exact key g st a w' h1 h2
  .obtain⟨_,g,st,h1,_,h2⟩:=q;exact h2.elim
  .obtain⟨_,g,st,h1,_,h2⟩:=q;exact h2.elim
  .obtain⟨_,g,st,h1,_,hX,h2⟩:=q;rw[hX] at h1;exact key g st a w' h1 h2
 exact callsIn_wide.1 hcall
end
end Go.Pw
namespace Go.Pw
open Go.RowKit
def Wk(s s':St):Prop:=∀(X:Ctx) (g:Gh) (a:Act) (w:World),A6 X g s a w->∃g',A6 X g' s' a w
theorem Wk.refl(s:St):Wk s s:=λX g a w h=>⟨g,h⟩
theorem Wk.trans{s s' s'':St}(h:Wk s s')(k:Wk s' s''):Wk s s'':=λX g a w q=>by
 obtain⟨g',q'⟩:=h X g a w q;exact k X g' a w q'
theorem cC{X:Ctx}{c:Code}{Q:PX->Ctx->St->Prop}{st st':St}(h:Wk st st')(hc:X4 X c Q st'):X4 X c Q st:=λn g a w hs=>by
 obtain⟨g',hs'⟩:=h X g a w hs;exact hc n g' a w hs'
theorem u4(s:St)(ls:List Nat):Wk s ⟨s.env,Q5 s.σ ls⟩:=λX g a w h=>by
 obtain⟨imm',h1,_⟩:=h.Q5 ls;exact⟨_,h1⟩
theorem Y8{s:St}{t l z:Nat}(ht:s.env t = .lst true [])(hl:s.σ l=none)(hlm:l<MB:=by exact zC rfl):Wk s ⟨w8 s.env t (.sl l),w8 s.σ l (some ⟨[],0,true,z,true⟩)⟩:=λX g a w h=>by
 have hv:=h.env t;rw[ht] at hv;obtain⟨A,c,z',u,e,h1,h2,h3,_⟩:=hv.eG;have hc:=h2 rfl;simp only[zV] at hc e;subst hc;have hs:=h.su (l:=l) (A:=A) (xs:=[]) (z:=z) hlm hl (λ_=>rfl) (λ_ q=>by cases q) (λq=>absurd q (zbo _)) true;refine⟨_,⟨hs.size,λi=>?_,hs.rows,hs.disj,hs.ownimm,hs.immlt,hs.immsub,hs.immsup,hs.below,hs.marks,hs.obs,hs.big,hs.maps⟩⟩;by_cases q:i=t
 .subst q;rw[show (St.mk (w8 s.env i (.sl l)) (w8 s.σ l (some ⟨[],0,true,z,true⟩))).env i = .sl l from o8 _ _ _,e];exact cd (m:=⟨A,0,0,z⟩) ⟨_,o8 _ _ _⟩ (o8 _ _ _)
 .rw[show (St.mk (w8 s.env t (.sl l)) (w8 s.σ l (some ⟨[],0,true,z,true⟩))).env i=s.env i from o0 _ _ q];exact hs.env i
def PV.BO(π:Nat->Nat):PV->PV
 | .sl l=>.sl (π l)
 | .mp l=>.mp (π l)
 | .ptr l i f=>.ptr (π l) i f
 | d=>d
def PV.sa(π:Nat->Nat):PV->PV
 | .fn f cap=>.fn f (cap.map (PV.BO π))
 | d=>d.BO π
def PV.uM(π:Nat->Nat):PV->PV
 | .agg cs=>.agg (cs.map (PV.sa π))
 | d=>d.sa π
def PV.ur:PV->List Nat
 | .sl l=>[l]
 | .mp l=>[l]
 | .ptr l _ _=>[l]
 | _=>[]
def PV.Ab:PV->List Nat
 | .fn _ cap=>cap.flatMap PV.ur
 | d=>d.ur
def PV.refs:PV->List Nat
 | .agg cs=>cs.flatMap PV.Ab
 | d=>d.Ab
section
variable{w:World}{imm:Nat->Nat->Prop}{μ μ':Nat->H8}{p9 pres':Nat->Prop}{π:Nat->Nat}
theorem Rd.IG{v:Value}{d:PV}(h:Rd w imm μ p9 v d)(h1:∀l,d ≠ .sl l)(h2:∀l i f,d ≠ .ptr l i f)(h3:∀cs,d ≠ .agg cs)(h4:∀f cap,d ≠ .fn f cap)(h5:∀cs,d ≠ .tup cs)(h6:∀l,d ≠ .mp l):Rd w imm μ' pres' v d:=by
 cases h with
 | cl h=>exact .cl h
 | agg vs cs=>exact absurd rfl (h3 cs)
 | tup vs cs=>exact absurd rfl (h5 cs)
 | fn f vs cap=>exact absurd rfl (h4 f cap)
 | sl l=>exact absurd rfl (h1 l)
 | mp l=>exact absurd rfl (h6 l)
 | ptr l i f=>exact absurd rfl (h2 l i f)
theorem Rd.BO{v:Value}{d:PV}(ht:∀cs,d ≠ .tup cs)(ha:∀cs,d ≠ .agg cs)(hf:∀f cap,d ≠ .fn f cap)(h:Rd w imm μ p9 v (d.BO π))(hr:∀l∈d.ur,pres' l/\μ' l=μ (π l)/\(MB<=π l->MB<=l)):Rd w imm μ' pres' v d:=by
 by_cases e1:∃l,d = .sl l
 .obtain⟨l,rfl⟩:=e1;have h':Rd w imm μ p9 v (.sl (π l)):=h;obtain⟨_,rfl⟩:=h'.bx;obtain⟨k1,k2,_⟩:=hr l (by simp[PV.ur]);rw[<-k2];exact .sl l k1
 by_cases e2:∃l i f,d = .ptr l i f
 .obtain⟨l,i,f,rfl⟩:=e2;have h':Rd w imm μ p9 v (.ptr (π l) i f):=h;obtain⟨_,b,s,hA,rfl⟩:=h'.Y5;obtain⟨k1,k2,_⟩:=hr l (by simp[PV.ur]);rw[<-k2] at hA |-;exact .ptr l i f b s k1 hA
 by_cases e3:∃l,d = .mp l
 .obtain⟨l,rfl⟩:=e3;have h':Rd w imm μ p9 v (.mp (π l)):=h;obtain⟨_,h2,b,hA,rfl⟩:=h'.wK;obtain⟨k1,k2,k3⟩:=hr l (by simp[PV.ur]);exact .mp l b k1 (k3 h2) (by rw[k2];exact hA)
 .have e:d.BO π=d:=by cases d <;> first | rfl | exact absurd ⟨_,rfl⟩ e1 | exact absurd ⟨_,_,_,rfl⟩ e2 | exact absurd ⟨_,rfl⟩ e3
  rw[e] at h;exact h.IG (λl q=>e1 ⟨l,q⟩) (λl i f q=>e2 ⟨l,i,f,q⟩) ha hf ht λl q=>e3 ⟨l,q⟩
theorem Rd.sa{v:Value}{d:PV}(ht:∀cs,d ≠ .tup cs)(ha:∀cs,d ≠ .agg cs)(hc:∀f cap,d = .fn f cap->∀y∈cap,(∀cs,y ≠ .tup cs)/\(∀cs,y ≠ .agg cs)/\∀f cap,y ≠ .fn f cap)
  (h:Rd w imm μ p9 v (d.sa π))(hr:∀l∈d.Ab,pres' l/\μ' l=μ (π l)/\(MB<=π l->MB<=l)):Rd w imm μ' pres' v d:=by
 by_cases e1:∃f cap,d = .fn f cap
 .obtain⟨f,cap,rfl⟩:=e1;have h':Rd w imm μ p9 v (.fn f (cap.map (PV.BO π))):=h;obtain⟨vs,rfl,hn,hk⟩:=gG h';refine .fn f vs cap (by simpa using hn) λi v c hv hc'=>?_;have hm:=zg hc';obtain⟨q1,q2,q3⟩:=hc f cap rfl c hm;exact (hk i v _ hv (by rw[zG,hc'];rfl)).BO q1 q2 q3 λl hl=>hr l (my.2 ⟨c,hm,hl⟩)
 .have e:d.sa π=d.BO π:=by cases d <;> first | rfl | exact absurd ⟨_,_,rfl⟩ e1
  have e':d.Ab=d.ur:=by cases d <;> first | rfl | exact absurd ⟨_,_,rfl⟩ e1
  rw[e] at h;rw[e'] at hr;exact h.BO ht ha (λf cap q=>e1 ⟨f,cap,q⟩) hr
def GM:PV->Bool
 | .fn _ cap=>cap.all λy=>match y with | .tup _ | .agg _ | .fn .. => false | _=>true
 | _=>true
def nK:PV->Bool
 | .tup _=>false
 | .agg cs=>cs.all GM
 | d=>GM d
theorem qe{d:PV}(h:GM d=true):∀f cap,d = .fn f cap->∀y∈cap,(∀cs,y ≠ .tup cs)/\(∀cs,y ≠ .agg cs)/\∀f cap,y ≠ .fn f cap:=by
 rintro f cap rfl y hy;have:=zd.1 h y hy;refine⟨λcs e=>?_,λcs e=>?_,λf cap e=>?_⟩ <;> (subst e;cases this)
theorem Rd.uM{v:Value}{d:PV}(hok:nK d=true)(h:Rd w imm μ p9 v (d.uM π))(hr:∀l∈d.refs,pres' l/\μ' l=μ (π l)/\(MB<=π l->MB<=l)):Rd w imm μ' pres' v d:=by
 by_cases e1:∃cs,d = .agg cs
 .obtain⟨cs,rfl⟩:=e1;have h':Rd w imm μ p9 v (.agg (cs.map (PV.sa π))):=h;obtain⟨vs,rfl,hn,hk⟩:=h'.fQ;have hsc:=h'.AE;simp only[nK,zd] at hok;rw[zd] at hsc;have hsc':∀c∈cs,c.sc=true:=λc hc=>by
   have:=hsc (c.sa π) (zE.2 ⟨c,hc,rfl⟩);cases c <;> first | rfl | exact this
  refine .agg vs cs (zd.2 hsc') (by simpa using hn) λi v c hv hc=>?_;have hm:=zg hc;refine (hk i v _ hv (by rw[zG,hc];rfl)).sa (λes q=>?_) (λes q=>?_) (qe (hok c hm)) λl hl=>hr l (my.2 ⟨c,hm,hl⟩);·have:=hsc' c hm;rw[q] at this;cases this
  .have:=hsc' c hm;rw[q] at this;cases this
 .have e:d.uM π=d.sa π:=by cases d <;> first | rfl | exact absurd ⟨_,rfl⟩ e1
  have e':d.refs=d.Ab:=by cases d <;> first | rfl | exact absurd ⟨_,rfl⟩ e1
  have e2:∀cs,d ≠ .tup cs:=λcs q=>by subst q;cases hok
  have e3:GM d=true:=by cases d <;> first | exact hok | exact absurd ⟨_,rfl⟩ e1 | cases hok
  rw[e] at h;rw[e'] at hr;exact h.sa e2 (λcs q=>e1 ⟨cs,q⟩) (qe e3) hr
end
def KL(L:List (Nat × PV)):Nat->PV:=λi=>(L.lookup i).getD .junk
def rowsOf(R:List (Nat × Row)):Nat->Option Row:=λi=>R.lookup i
def St.of(L:List (Nat × PV))(R:List (Nat × Row)):St:=⟨KL L,rowsOf R⟩
theorem bW{α:Type}{L:List (Nat × α)}{i:Nat}{x:α}(h:L.lookup i=some x):(i,x)∈L:=by
 induction L with
 | nil=>cases h
 | cons p L ih=>
  obtain⟨k,y⟩:=p;rw[List.lookup_cons] at h;split at h
  .rename_i q;have:i=k:=by simpa using q
   subst this;cases h;exact zh ..
  .exact zo _ (ih h)
def Sb(l m:Nat)(c c':Bool):Bool:=(decide (MB<=l)==decide (MB<=m))&&(decide (l<MB)||c==c')
def iD(π:Nat->Nat)(R:List (Nat × Row))(σ:Nat->Option Row)(p:Nat × Row):Prop:=
 ∃r,σ (π p.1)=some r/\Sb p.1 (π p.1) r.cl p.2.cl=true/\r.z=p.2.z/\r.lo=p.2.lo/\(p.2.opn=true->r.opn=true)/\(p.2.cl=true->r.cl=true) /\
  ((p.2.cl=true/\r.els=p.2.els)\/(p.2.cl=false/\r.els=p.2.els.map (PV.uM π)/\p.2.els.all nK=true/\(p.2.els.flatMap PV.refs).all (λl=>(R.lookup l).isSome)=true))
theorem Ip{s:St}(π:Nat->Nat)(L:List (Nat × PV))(R:List (Nat × Row))(he:∀p∈L,s.env p.1=p.2.uM π/\nK p.2=true/\p.2.refs.all (λl=>(R.lookup l).isSome)=true)
  (hr:∀p∈R,iD π R s.σ p)(hi:∀p∈R,∀q∈R,π p.1=π q.1->p.1=q.1):∀(X:Ctx) (g:Gh) (a:Act) (w:World),A6 X g s a w->A6 X ⟨g.imm,λl=>g.μ (π l)⟩ (St.of L R) a w:=by
 intro X g a w h;have hget:∀l r',rowsOf R l=some r'->iD π R s.σ (l,r'):=λl r' q=>hr _ (bW q);have hmap:∀l r',rowsOf R l=some r'->(MB<=l↔MB<=π l)/\(MB<=l->∃r,s.σ (π l)=some r/\r.cl=r'.cl/\(∀es,r.els = [.mapc es]->r'.els = [.mapc es])):=λl r' q=>by
  obtain⟨r,h1,h2,_,_,_,_,h6⟩:=hget l r' q;simp only[Sb,zk,we,zae,t8,zbm] at h2;refine⟨h2.1,λh=>⟨r,h1,h2.2.elim (λk=>absurd h (Nat.not_le.2 k)) id,λes he=>?_⟩⟩;rcases h6 with ⟨_,h6⟩ | ⟨_,h6,_⟩;·exact h6▸he
  .simp only at h6;rw[he] at h6;match hq:r'.els with
   | []=>rw[hq] at h6;simp at h6
   | _::_::_=>rw[hq] at h6;simp at h6
   | [x]=>
    rw[hq] at h6;simp only[ww,List.map_nil,List.cons.injEq,and_true] at h6;cases x <;> first | (cases h6;rfl) | cases h6
 have hx:∀(l:Nat),(R.lookup l).isSome=true->St.p9 (St.of L R) l/\g.μ (π l)=g.μ (π l)/\(MB<=π l->MB<=l):=λl q=>by
  obtain⟨r,hr⟩:=zal.1 q;exact⟨⟨r,hr⟩,rfl,(hmap l r hr).1.2⟩
 have hsub:∀l r' r,r.els.length=r'.els.length->r.z=r'.z->r.lo=r'.lo->(r'.opn=true->r.opn=true)->∀b o,G9 (g.μ (π l)) r' b o->s.σ (π l)=some r->G9 (g.μ (π l)) r b o:=by
  rintro l r' r h1 h2 h3 h4 b o ⟨s',hA,k1,k2⟩ hl;refine⟨s',hA,by rw[h3];exact k1,?_⟩;have hC:=(h.rows _ r hl).C;have:(if r'.opn then (g.μ (π l)).C else (g.μ (π l)).n)*(g.μ (π l)).z<=(if r.opn then (g.μ (π l)).C else (g.μ (π l)).n)*(g.μ (π l)).z:=zn _ (by
   cases q:r'.opn;·simp only[zm,zZ];split <;> omega
   .rw[h4 q];exact zt _)
  omega
 have hlen:∀l r',rowsOf R l=some r'->∃r,s.σ (π l)=some r/\r.els.length=r'.els.length/\r.z=r'.z/\r.lo=r'.lo/\(r'.opn=true->r.opn=true):=by
  intro l r' q;obtain⟨r,h1,_,h2,h3,h4,_,h6⟩:=hget l r' q;refine⟨r,h1,?_,h2,h3,h4⟩;rcases h6 with ⟨_,h6⟩ | ⟨_,h6,_⟩;·rw[h6]
  .rw[h6];simp
 refine⟨h.size,λi=>?_,λl r' q=>?_,λl l' r r' hne q q' b o ho=>?_,λl r' b o q ho=>?_,h.immlt,h.immsub,h.immsup,h.below,h.marks,h.obs,h.big,⟨λl r' hl q=>?_,λl l' r r' hl hl' hne q q' hc=>?_⟩⟩
 .show Rd w g.imm (λl=>g.μ (π l)) (St.p9 (St.of L R)) _ ((L.lookup i).getD .junk);cases hq:L.lookup i with
  | none=>exact .cl (.junk _)
  | some d=>
   obtain⟨k1,k2,k3⟩:=he (i,d) (bW hq);have hv:=h.env i;rw[k1] at hv;exact hv.uM k2 λl hl=>hx l (zd.1 k3 l hl)
 .obtain⟨r,h1,_,h2,h3,h4,h5,h6⟩:=hget l r' q;simp only at h1 h2 h3 h4 h5 h6;have hR:=h.rows _ r h1;obtain⟨_,_,hl,_⟩:=hlen l r' q;have hl2:r.els.length=r'.els.length:=by
   rcases h6 with ⟨_,h6⟩ | ⟨_,h6,_⟩;·rw[h6]
   .rw[h6];simp
  have hcellz:∀(d:PV),(d.uM π).cells.length=d.cells.length:=λd=>by
   cases d <;> first | rfl | simp[PV.uM,PV.cells]
  have helz:∀(d:PV),(d.uM π).el=true->d.el=true:=λd=>by
   cases d <;> first | exact λq=>q | skip
   intro q;simp only[PV.uM,PV.el,zd] at q |-;intro c hc;have:=q (c.sa π) (zE.2 ⟨c,hc,rfl⟩);cases c <;> first | rfl | exact this
  refine⟨by rw[<-hl2];exact hR.n,by rw[<-h2];exact hR.z,hR.C,by rw[<-h3];exact hR.lo,λx hx'=>?_,hR.nil,hR.spot,λi x j y hx' hy=>?_,λb o ho=>hR.own b o (hsub l r' r hl2 h2 h3 h4 b o ho h1)⟩
  .rcases h6 with ⟨_,h6⟩ | ⟨_,h6,_⟩;·rw[<-h2];exact hR.el x (by rw[h6];exact hx')
   .have:=hR.el (x.uM π) (by rw[h6];exact zE.2 ⟨x,hx',rfl⟩);exact⟨helz x this.1,by rw[<-hcellz,<-h2];exact this.2⟩
  .rcases h6 with ⟨hc,h6⟩ | ⟨hnc,h6,h7,h8⟩
   .obtain⟨b,s',u,k1,k2,k3,k4,k5⟩:=hR.cell i x j y (by rw[h6];exact hx') hy;exact⟨b,s',u,k1,k2,.cl (k5 (h5 hc)),by rw[<-h3];exact k4,λ_=>k5 (h5 hc)⟩
   .have hm:=zg hx';have hxr:r.els[i]? = some (x.uM π):=by rw[h6,zG,hx'];rfl
    have hok:=zd.1 h7 x hm;have hrefs:∀l'∈x.refs,(R.lookup l').isSome=true:=λl' hl'=>zd.1 h8 l' (my.2 ⟨x,hm,hl'⟩);have hyr:∃y',(x.uM π).cells[j]? = some y'/\∀v,Rd w g.imm g.μ s.p9 v y'->Rd w g.imm (λl=>g.μ (π l)) (St.p9 (St.of L R)) v y:=by
     by_cases e:∃cs,x = .agg cs
     .obtain⟨cs,rfl⟩:=e;have hy':cs[j]? = some y:=hy;refine⟨y.sa π,by show (cs.map (PV.sa π))[j]? = _;rw[zG,hy'];rfl,λv hv=>?_⟩;have hmy:=zg hy';simp only[nK,zd] at hok;have hel:=helz _ (hR.el _ (zg hxr)).1;have hsc:=PV.qW hel y (by exact hmy);exact hv.sa (λes q=>by rw[q] at hsc;cases hsc) (λes q=>by rw[q] at hsc;cases hsc) (qe (hok y hmy)) λl' hl'=>hx l' (hrefs l' (my.2 ⟨y,hmy,hl'⟩))
     .have hxc:x.cells = [x]:=by cases x <;> first | rfl | exact absurd ⟨_,rfl⟩ e | cases hy
      rw[hxc] at hy;have hj:j=0/\y=x:=by
       cases j with
       | zero=>simp at hy;exact⟨rfl,hy.symm⟩
       | succ j=>simp at hy
      obtain⟨rfl,rfl⟩:=hj;have hrc:(y.uM π).cells = [y.uM π]:=by cases y <;> first | rfl | exact absurd ⟨_,rfl⟩ e | cases hxc
      exact⟨y.uM π,by rw[hrc];rfl,λv hv=>hv.uM hok λl' hl'=>hx l' (hrefs l' hl')⟩
    obtain⟨y',hy',hrd⟩:=hyr;obtain⟨b,s',u,k1,k2,k3,k4,k5⟩:=hR.cell i (x.uM π) j y' hxr hy';exact⟨b,s',u,k1,k2,hrd u k3,by rw[<-h3];exact k4,λq'=>by rw[hnc] at q';cases q'⟩
 .obtain⟨r0,k0,k1,k2,k3,k4⟩:=hlen l r q;obtain⟨r1,m0,m1,m2,m3,m4⟩:=hlen l' r' q';exact λk=>h.disj (π l) (π l') r0 r1 (λe=>hne (hi (l,r) (bW q) (l',r') (bW q') e)) k0 m0 b o (hsub l r r0 k1 k2 k3 k4 b o ho k0) (hsub l' r' r1 m1 m2 m3 m4 b o k m0)
 .obtain⟨r0,k0,k1,k2,k3,k4⟩:=hlen l r' q;exact h.ownimm (π l) r0 b o k0 (hsub l r' r0 k1 k2 k3 k4 b o ho k0)
 .obtain⟨k1,k2⟩:=hmap l r' q;obtain⟨r,k3,k4,k5⟩:=k2 hl;obtain⟨b,es,m1,m2,m3,m4,m5,m6⟩:=h.maps.at_ (π l) r (k1.1 hl) k3;exact⟨b,es,k5 es m1,m2,m3,m4,λc=>m5 (by rw[k4];exact c),λc=>m6 (by rw[k4];exact c)⟩
 .obtain⟨k1,k2⟩:=hmap l r q;obtain⟨k1',k2'⟩:=hmap l' r' q';obtain⟨r0,k3,k4,_⟩:=k2 hl;obtain⟨r1,k3',k4',_⟩:=k2' hl';exact h.maps.apart (π l) (π l') r0 r1 (k1.1 hl) (k1'.1 hl') (λe=>hne (hi (l,r) (bW q) (l',r') (bW q') e)) k3 k3' (by rw[k4];exact hc)
theorem Vx{s:St}(π:Nat->Nat)(L:List (Nat × PV))(R:List (Nat × Row))(he:∀p∈L,s.env p.1=p.2.uM π/\nK p.2=true/\p.2.refs.all (λl=>(R.lookup l).isSome)=true)
  (hr:∀p∈R,iD π R s.σ p)(hi:∀p∈R,∀q∈R,π p.1=π q.1->p.1=q.1):Wk s (St.of L R):=λX g a w h=>⟨_,Ip π L R he hr hi X g a w h⟩
end Go.Pw
namespace Go.Pw
open Go.RowKit
def Ex(P:Program)(ops:Array Oper)(bar:List Nat)(dr:Bool):Nat->List Oper->St->(St->Prop)->Prop
 | _,[],st,K=>K st
 | i,o::os,st,K=>∃s,Oe P ops dr (kept bar) (cls bar i o.op) o st s/\Ex P ops bar dr (i+1) os s K
theorem xo{P:Program}{bar:List Nat}{dr:Bool}{K:St->Prop}{ops:Array Oper}:∀(os:List Oper) (i:Nat) (st:St),(∀j,os[j]? = ops[i+j]?)->Ex P ops bar dr i os st K->∃s,CB P ops bar dr (List.range' i os.length) st s/\K s
 | [],_,st,_,h=>⟨st,rfl,h⟩
 | o::os,i,st,hi,h=>by
  obtain⟨s,h1,h2⟩:=h;obtain⟨s',k1,k2⟩:=xo os (i+1) s (λj=>by have:=hi (j+1);simpa[so,zba 1 j] using this) h2;exact⟨s',⟨o,s,by have:=hi 0;simpa using this.symm,h1,k1⟩,k2⟩
section
variable{X:Ctx}{Q:PX->Ctx->St->Prop}{st:St}
theorem wY{id:Nat}{l:List Oper}(bar:List Nat)(hm:X.P.follows .mixedOrders=true)(hd:eV X.N l.toArray=true)(hr:pU l.toArray bar (Region.before l.toArray)=true)
  (h:Ex X.P l.toArray bar true 0 l st (Q .normal X)):X4 X (.region id l.toArray true) Q st:=by
 refine QB bar hm hd hr ?_;have:=xo (ops:=l.toArray) l 0 st (λj=>by simp) h;simpa[List.range_eq_range'] using this
variable{P:Program}{ops:Array Oper}{bar:List Nat}{dr:Bool}{i:Nat}{os:List Oper}{K:St->Prop}{env:Nat->PV}{σ:Nat->Option Row}
theorem NN{t:Tmp}{op:Op}{ty:TypeId}{pos:String}{after:Array Edge}{gd:Option (Nat × Bool)}(hw:B2 ops env ⟨some t,op,ty,pos,after,gd⟩=some false)
  (k:Ex P ops bar dr (i+1) os ⟨w8 env t (.tup []),σ⟩ K):Ex P ops bar dr i (⟨some t,op,ty,pos,after,gd⟩::os) ⟨env,σ⟩ K:=⟨_,.skip hw,k⟩
theorem x0{t:Tmp}{op:Op}{ty:TypeId}{pos:String}{after:Array Edge}{gd:Option (Nat × Bool)}{d:PV}(hw:B2 ops env ⟨some t,op,ty,pos,after,gd⟩=some true)
  (h:C0 P σ (y7 env) (some t) op d .none)(hc:dr=true->dJ (cls bar i op) .none (∀σ',D7 (kept bar) σ σ'->C0 P σ' (y7 env) (some t) op d .none))(k:Ex P ops bar dr (i+1) os ⟨w8 env t d,σ⟩ K) :
  Ex P ops bar dr i (⟨some t,op,ty,pos,after,gd⟩::os) ⟨env,σ⟩ K:=⟨_,.run d .none hw h ⟨E8.refl _,D7.refl _⟩ trivial (λ_=>rfl) hc,k⟩
theorem x7{t:Tmp}{op:Op}{ty:TypeId}{pos:String}{after:Array Edge}{gd:Option (Nat × Bool)}{d:PV}(hw:B2 ops env ⟨some t,op,ty,pos,after,gd⟩=some true)
  (h:∀σ',D7 (kept bar) σ σ'->C0 P σ' (y7 env) (some t) op d .none)(h7:cls bar i op=7)(k:Ex P ops bar dr (i+1) os ⟨w8 env t d,σ⟩ K) :
  Ex P ops bar dr i (⟨some t,op,ty,pos,after,gd⟩::os) ⟨env,σ⟩ K:=⟨_,.run d .none hw (h σ (D7.refl _)) ⟨E8.refl _,D7.refl _⟩ trivial (λ_=>rfl) (λ_=>by rw[h7];exact⟨rfl,h⟩),k⟩
theorem x1{t:Tmp}{op:Op}{ty:TypeId}{pos:String}{after:Array Edge}{gd:Option (Nat × Bool)}{d:PV}{r:Row}(hw:B2 ops env ⟨some t,op,ty,pos,after,gd⟩=some true)
  (h:C0 P σ (y7 env) (some t) op d (.new t r))(hf:σ t=none)(ht:dr=true->(U1.new t r).off (kept bar)=true)(hc:dr=true->dJ (cls bar i op) (.new t r) (∀σ',D7 (kept bar) σ σ'->C0 P σ' (y7 env) (some t) op d (.new t r)))(k:Ex P ops bar dr (i+1) os ⟨w8 env t d,w8 σ t (some r)⟩ K) :
  Ex P ops bar dr i (⟨some t,op,ty,pos,after,gd⟩::os) ⟨env,σ⟩ K:=⟨_,.run d (.new t r) hw h ⟨E8.refl _,D7.refl _⟩ hf ht hc,k⟩
theorem Sw{op:Op}{ty:TypeId}{pos:String}{after:Array Edge}{gd:Option (Nat × Bool)}{l j f:Nat}{cs es:List PV}{q:Row}{x x':PV}{cl:Bool}(hw:B2 ops env ⟨none,op,ty,pos,after,gd⟩=some true)
  (h:C0 P σ (y7 env) none op (.tup []) (.sto l j f cs))(hl:σ l=some q)(hx:q.els[j]? = some x)(hlo:q.lo<=j)(hf:f+cs.length<=x.cells.length)(hsc:cs.all PV.sc=true)(hcl:(q.cl&&cs.all PV.X7)=cl)
  (he:G6 x f cs=x')(hes:q.els.set j x'=es)(ht:dr=true->(U1.sto l j f cs).off (kept bar)=true)(hc:dr=true->dJ (cls bar i op) (.sto l j f cs) (∀σ',D7 (kept bar) σ σ'->C0 P σ' (y7 env) none op (.tup []) (.sto l j f cs)))(k:Ex P ops bar dr (i+1) os ⟨env,w8 σ l (some ⟨es,q.lo,q.opn,q.z,cl⟩)⟩ K) :
  Ex P ops bar dr i (⟨none,op,ty,pos,after,gd⟩::os) ⟨env,σ⟩ K:=by
 refine⟨_,.run (.tup []) (.sto l j f cs) hw h ⟨E8.refl _,D7.refl _⟩ ⟨q,x,hl,hx,hlo,hf,hsc⟩ ht hc,?_⟩;subst he;subst hes;subst hcl;simp only[U1.apply,hl,hx];exact k
theorem Xo{t:Tmp}{op:Op}{ty:TypeId}{pos:String}{after:Array Edge}{gd:Option (Nat × Bool)}{d:PV}{s:Nat}{r q:Row}(hw:B2 ops env ⟨some t,op,ty,pos,after,gd⟩=some true)
  (h:C0 P σ (y7 env) (some t) op d (.app s t r))(hf:σ t=none)(hq:σ s=some q)(ho:q.opn=true)(ht:dr=true->(U1.app s t r).off (kept bar)=true)(hc:dr=true->dJ (cls bar i op) (.app s t r) (∀σ',D7 (kept bar) σ σ'->C0 P σ' (y7 env) (some t) op d (.app s t r)))
  (k:Ex P ops bar dr (i+1) os ⟨w8 env t d,w8 (w8 σ s (some ⟨q.els,q.els.length,false,q.z,q.cl⟩)) t (some r)⟩ K) :
  Ex P ops bar dr i (⟨some t,op,ty,pos,after,gd⟩::os) ⟨env,σ⟩ K:=by
 refine⟨_,.run d (.app s t r) hw h ⟨E8.refl _,D7.refl _⟩ ⟨hf,q,hq,ho⟩ ht hc,?_⟩;simp only[U1.apply,hq];exact k
theorem Xp{t:Tmp}{op:Op}{ty:TypeId}{pos:String}{after:Array Edge}{gd:Option (Nat × Bool)}{d:PV}(hw:B2 ops env ⟨some t,op,ty,pos,after,gd⟩=some true)
  (h:C0 P σ (y7 env) (some t) op d (.kM []))(hc:dr=true->dJ (cls bar i op) (.kM []) (∀σ',D7 (kept bar) σ σ'->C0 P σ' (y7 env) (some t) op d (.kM [])))(k:Ex P ops bar dr (i+1) os ⟨w8 env t d,σ⟩ K) :
  Ex P ops bar dr i (⟨some t,op,ty,pos,after,gd⟩::os) ⟨env,σ⟩ K:=⟨_,.run d (.kM []) hw h ⟨E8.refl _,D7.refl _⟩ trivial (λ_=>rfl) hc,k⟩
end
theorem My{P:Program}{f:FuncId}{fn:Func}{c:Code}{ds:List PV}{d:PV}{N:Nat}(hf:P.funcs[f]? = some fn)(hb:fn.body=some c)(hN:fn.ntmps=N)(hn:ds.length<=N)
  (h:∀(w0:WG P) imm0,X4 { P:=P,N:=N,ρ:=none,w0:=w0.1,imm0:=imm0,tab:=w0.2 } c (NU { P:=P,N:=N,ρ:=none,w0:=w0.1,imm0:=imm0,tab:=w0.2 } (Fin P fn d)) ⟨L8 ds,λ_=>none⟩)(h6:N<=1000000:=by exact zC rfl):N9 P f ds d:=by
 refine Jk hf hb (by rw[hN];exact hn) (by rw[hN];exact h6) ?_;rintro⟨P',N',ρ',w0,imm0,ext,obs,calm,tab⟩ hP hN' hρ hext hobs hcalm;simp only at hP hN' hρ hext hobs hcalm;subst hP hN' hρ hext hobs hcalm hN;exact h ⟨w0,tab⟩ imm0
theorem Jj{P:Program}{f:FuncId}{fn:Func}{c:Code}{ds:List PV}{r:Row}{N:Nat}(hf:P.funcs[f]? = some fn)(hb:fn.body=some c)(hN:fn.ntmps=N)(hn:ds.length<=N)
  (h:∀(w0:WG P) imm0,X4 { P:=P,N:=N,ρ:=none,w0:=w0.1,imm0:=imm0,tab:=w0.2 } c (NU { P:=P,N:=N,ρ:=none,w0:=w0.1,imm0:=imm0,tab:=w0.2 } (JO P fn r)) ⟨L8 ds,λ_=>none⟩)(h6:N<=1000000:=by exact zC rfl):kN P f ds r:=by
 refine FF hf hb (by rw[hN];exact hn) (by rw[hN];exact h6) ?_;rintro⟨P',N',ρ',w0,imm0,ext,obs,calm,tab⟩ hP hN' hρ hext hobs hcalm;simp only at hP hN' hρ hext hobs hcalm;subst hP hN' hρ hext hobs hcalm hN;exact h ⟨w0,tab⟩ imm0
theorem l4{K:Ctx->St->Prop}{Q:PX->Ctx->St->Prop}{i:Nat}{X:Ctx}{s:St}(h:Q (.exit i) X s):jd K Q (.exit i) X s:=h
theorem r7{id:Nat}{Q:PX->Ctx->St->Prop}{X:Ctx}{s:St}(h:Q .normal X s):sS id Q (.exit id) X s:=by
 simp only[sS,zR];exact h
theorem aX{id id':Nat}{Q:PX->Ctx->St->Prop}{X:Ctx}{s:St}(hne:id'≠id)(h:Q (.exit id') X s):sS id Q (.exit id') X s:=by
 simp only[sS,za hne];exact h
def Ag(R:List (Nat × Row))(s:St):List (Nat × PV)->Prop
 | []=>True
 | (i,d)::L=>s.env i=d.uM id/\nK d=true/\d.refs.all (λl=>(R.lookup l).isSome)=true/\Ag R s L
def Ar(R0:List (Nat × Row))(s:St):List (Nat × Row)->Prop
 | []=>True
 | p::R=>iD id R0 s.σ p/\Ar R0 s R
theorem NJ{s:St}(L:List (Nat × PV))(R:List (Nat × Row))(h:Ag R s L)(k:Ar R s R)(X:Ctx)(g:Gh)(a:Act)(w:World)(hs:A6 X g s a w):A6 X g (St.of L R) a w:=by
 refine Ip id L R ?_ ?_ (λp _ q _ e=>e) X g a w hs
 .clear k;induction L with
  | nil=>intro p hp;cases hp
  | cons x L ih=>
   intro p hp;obtain⟨h1,h2,h3,h4⟩:=h;rcases zL.1 hp with rfl | hp
   .exact⟨h1,h2,h3⟩
   .exact ih h4 p hp
 .clear h;have:∀R',Ar R s R'->∀p∈R',iD id R s.σ p:=by
   intro R';induction R' with
   | nil=>intro _ p hp;cases hp
   | cons x R' ih=>
    intro h p hp;rcases zL.1 hp with rfl | hp
    .exact h.1
    .exact ih h.2 p hp
  exact this R k
theorem sK{s:St}(L:List (Nat × PV))(R:List (Nat × Row))(h:Ag R s L)(k:Ar R s R):Wk s (St.of L R):=λX g a w hs=>⟨g,NJ L R h k X g a w hs⟩
def Xv(π:Nat->Nat)(R:List (Nat × Row))(s:St):List (Nat × PV)->Prop
 | []=>True
 | (i,d)::L=>s.env i=d.uM π/\nK d=true/\d.refs.all (λl=>(R.lookup l).isSome)=true/\Xv π R s L
def VM(π:Nat->Nat)(R0:List (Nat × Row))(s:St):List (Nat × Row)->Prop
 | []=>True
 | p::R=>iD π R0 s.σ p/\VM π R0 s R
theorem Gi{s:St}(π:Nat->Nat)(L:List (Nat × PV))(R:List (Nat × Row))(h:Xv π R s L)(k:VM π R s R)(hi:(R.all λp=>R.all λq=>π p.1 != π q.1||p.1==q.1)=true):Wk s (St.of L R):=by
 refine Vx π L R ?_ ?_ λp hp q hq e=>?_
 .clear k hi;induction L with
  | nil=>intro p hp;cases hp
  | cons x L ih=>
   intro p hp;obtain⟨h1,h2,h3,h4⟩:=h;rcases zL.1 hp with rfl | hp
   .exact⟨h1,h2,h3⟩
   .exact ih h4 p hp
 .clear h hi;have:∀R',VM π R s R'->∀p∈R',iD π R s.σ p:=by
   intro R';induction R' with
   | nil=>intro _ p hp;cases hp
   | cons x R' ih=>
    intro h p hp;rcases zL.1 hp with rfl | hp
    .exact h.1
    .exact ih h.2 p hp
  exact this R k
 .have:=zd.1 (zd.1 hi p hp) q hq;simpa[e] using this
theorem Jv{π:Nat->Nat}{R:List (Nat × Row)}{σ:Nat->Option Row}{l:Nat}{r r':Row}(h:σ (π l)=some r)(hz:r.z=r'.z)(hl:r.lo=r'.lo)(ho:r'.opn=true->r.opn=true)(hc:r.cl=true)(he:r.els=r'.els)(hc':r'.cl=true)(hm:Sb l (π l) r.cl r'.cl=true:=by rfl):iD π R σ (l,r'):=
 ⟨r,h,hm,hz,hl,ho,λ_=>hc,.inl ⟨hc',he⟩⟩
theorem FT{R:List (Nat × Row)}{σ:Nat->Option Row}{l:Nat}{r r':Row}(h:σ l=some r)(hz:r.z=r'.z)(hl:r.lo=r'.lo)(ho:r'.opn=true->r.opn=true)(hc:r.cl=true)(he:r.els=r'.els)(hc':r'.cl=true)(hm:Sb l l r.cl r'.cl=true:=by rfl):iD id R σ (l,r'):=
 ⟨r,h,hm,hz,hl,ho,λ_=>hc,.inl ⟨hc',he⟩⟩
theorem ef{π:Nat->Nat}{R:List (Nat × Row)}{σ:Nat->Option Row}{l:Nat}{r r':Row}(h:σ (π l)=some r)(hz:r.z=r'.z)(hl:r.lo=r'.lo)(ho:r'.opn=true->r.opn=true)(hc:r'.cl=false)(he:r.els=r'.els.map (PV.uM π))(h1:r'.els.all nK=true)
  (h2:(r'.els.flatMap PV.refs).all (λl=>(R.lookup l).isSome)=true)(hm:Sb l (π l) r.cl r'.cl=true:=by rfl):iD π R σ (l,r'):=
 ⟨r,h,hm,hz,hl,ho,λq=>(by
  have q':r'.cl=true:=q;rw[hc] at q';cases q'),.inr ⟨hc,he,h1,h2⟩⟩
def Sq(X:Ctx)(ops:Array Oper)(i:Nat)(os:List Oper)(K:Ctx->St->Prop)(st:St):Prop:=
 eV X.N ops=true->(∀j,os[j]? = ops[i+j]?)->∀n g a w (Qo:Exit->Act->World->Prop),A6 X g st a w ->
  (∀X' g' s' a' w',A6 X' g' s' a' w'->X'.P=X.P/\X'.ρ=X.ρ->K X' s'->Qo .normal a' w')->wpOpsIn (FX X.ρ) n X.P ops Qo (List.range' i os.length) a w
section
variable{X:Ctx}{Q:PX->Ctx->St->Prop}{st:St}{ops:Array Oper}{i:Nat}{os:List Oper}{K:Ctx->St->Prop}{env:Nat->PV}{σ:Nat->Option Row}
theorem Xt(h:K X st):Sq X ops i [] K st:=λ_ _ n g a w Qo hs hq=>hq X g st a w hs ⟨rfl,rfl⟩ h
theorem N4{st':St}(h:Wk st st')(k:Sq X ops i os K st'):Sq X ops i os K st:=λhd hi n g a w Qo hs hq=>by
 obtain⟨g',hs'⟩:=h X g a w hs;exact k hd hi n g' a w Qo hs' hq
theorem kL{o:Oper}{s:St}(h:Oe X.P ops false (kept []) (cls [] i o.op) o st s)(k:Sq X ops (i+1) os K s):Sq X ops i (o::os) K st:=λhd hi n g a w Qo hs hq=>by
 have ho:ops[i]? = some o:=by have:=hi 0;simpa using this.symm
 have e:List.range' i (o::os).length=i::List.range' (i+1) os.length:=rfl;rw[e,wpOpsIn_cons];exact tV ho hs h (F7 hd ho) λg' a' w' hs'=>k hd (λj=>by have:=hi (j+1);simpa[so,zba 1 j] using this) n g' a' w' Qo hs' hq
theorem sr{id:Nat}{l:List Oper}{y:Code}(hd:eV X.N l.toArray=true)(h:Sq X l.toArray 0 l (λX' s=>X4 X' y Q s) st):X4 X (.seq (.region id l.toArray false) y) Q st:=λn g a w hs=>by
 refine wpIn_seq (wpIn_region ?_);have hz:List.range l.toArray.size=List.range' 0 l.length:=by simp[List.range_eq_range']
 rw[hz];refine h hd (λj=>by simp) n g a w _ hs λX' g' s' a' w' h1 h3 h2=>?_;have:=h2 n g' a' w' h1;rw[rB h3,h3.1,h3.2] at this;exact this
theorem Sj{id:Nat}{l:List Oper}(hd:eV X.N l.toArray=true)(h:Sq X l.toArray 0 l (Q .normal) st):X4 X (.region id l.toArray false) Q st:=λn g a w hs=>by
 refine wpIn_region ?_;have hz:List.range l.toArray.size=List.range' 0 l.length:=by simp[List.range_eq_range']
 rw[hz];exact h hd (λj=>by simp) n g a w _ hs λX' g' s' a' w' h1 h3 h2=>⟨X',g',s',h1,h3,h2⟩
theorem dr{id:Nat}{l:List Oper}{y:Code}(bar:List Nat)(hm:X.P.follows .mixedOrders=true)(hd:eV X.N l.toArray=true)(hr:pU l.toArray bar (Region.before l.toArray)=true)
  (h:Ex X.P l.toArray bar true 0 l st (λs=>X4 X y Q s)):X4 X (.seq (.region id l.toArray true) y) Q st:=l5 (wY bar hm hd hr h)
end
end Go.Pw
namespace Go.Pw
open Go.RowKit Go.Sh
section
variable{P:Program}{σ:Nat->Option Row}{ρ:Operand->PV}{dst:Option Tmp}
theorem FC{x:Operand}{d:PV}(h:ρ x=d):C0 P σ ρ dst (.move x) d .none:=by rw[<-h];exact .move x
theorem fL{t:TypeId}{x:Operand}{b r:Bool}(h:ρ x = .bool b)(hr:(!b)=r):C0 P σ ρ dst (.unOp .not t x) (.bool r) .none:=by rw[<-hr];exact .not t x b h
theorem Bu{T:TypeId}{x:Operand}{l i f n:Nat}{r:Row}{y:PV}{cs:List PV}(hx:ρ x = .ptr l i f)(hl:σ l=some r)(hy:r.els[i]? = some y)(ha:J1 P T=some true)(hs:u6 P T=some n)(hf:f+n<=y.cells.length)
  (hd:(y.cells.drop f).take n=cs):C0 P σ ρ dst (.load T x) (.agg cs) .none:=by rw[<-hd];exact .mH T x l i f r y n hx hl hy ha hs hf
theorem Md{T:TypeId}{x:Operand}{n:Nat}{es cs:List PV}(hx:ρ x = .rptr es)(ha:J1 P T=some true)(hs:u6 P T=some n)(hf:n<=es.length)
  (hd:es.take n=cs):C0 P σ ρ dst (.load T x) (.agg cs) .none:=by rw[<-hd];exact .fz T x es n hx ha hs hf
theorem vn{T:TypeId}{x:Operand}{l i f:Nat}{r:Row}{y d:PV}(hx:ρ x = .ptr l i f)(hl:σ l=some r)(hy:r.els[i]? = some y)(ha:J1 P T=some false)(hd:y.cells[f]? = some d):C0 P σ ρ dst (.load T x) d .none:=
 .jR T x l i f r y d hx hl hy ha hd
theorem D8{T:TypeId}{x:Operand}{es:List PV}{d:PV}(hx:ρ x = .rptr es)(ha:J1 P T=some false)(hd:es[0]? = some d):C0 P σ ρ dst (.load T x) d .none:=.fA T x es d hx ha hd
theorem D7.row{T:List Nat}{σ σ':Nat->Option Row}{l:Nat}{r:Row}(h:D7 T σ σ')(hm:T.contains l=true)(hl:σ l=some r):∃r',σ' l=some r'/\r'.els=r.els/\r'.z=r.z/\r'.cl=r.cl:=by
 have:=h l hm;rw[hl] at this;cases hq:σ' l with
 | none=>rw[hq] at this;cases this
 | some r'=>
  rw[hq] at this;simp only[wl,un,core,Prod.mk.injEq] at this;exact⟨r',rfl,this.1.symm,this.2.1.symm,this.2.2.symm⟩
theorem lJ{T:TypeId}{x:Operand}{l i f n:Nat}{r:Row}{y:PV}{cs:List PV}{K:List Nat}{σ':Nat->Option Row}(hN:D7 K σ σ')(hx:ρ x = .ptr l i f)(hm:K.contains l=true)(hl:σ l=some r)(hy:r.els[i]? = some y)(ha:J1 P T=some true)(hs:u6 P T=some n)(hf:f+n<=y.cells.length)
  (hd:(y.cells.drop f).take n=cs):C0 P σ' ρ dst (.load T x) (.agg cs) .none:=by
 obtain⟨r',h1,h2,_⟩:=hN.row hm hl;exact Bu hx h1 (by rw[h2];exact hy) ha hs hf hd
theorem vl{T:TypeId}{x:Operand}{l i f:Nat}{r:Row}{y d:PV}{K:List Nat}{σ':Nat->Option Row}(hN:D7 K σ σ')(hx:ρ x = .ptr l i f)(hm:K.contains l=true)(hl:σ l=some r)(hy:r.els[i]? = some y)(ha:J1 P T=some false)(hd:y.cells[f]? = some d):C0 P σ' ρ dst (.load T x) d .none:=by
 obtain⟨r',h1,h2,_⟩:=hN.row hm hl;exact vn hx h1 (by rw[h2];exact hy) ha hd
theorem Up{x:Operand}{T E:TypeId}{t:Bool}{xs:List PV}{n:Int}(hx:ρ x = .lst t xs)(hE:A8 P T=some E)(hn:(xs.length:Int)=n):C0 P σ ρ dst (.call { callee:=.builtin .len,args:=#[x],argTypes:=#[T] }) (.int .i64 n) .none:=by
 subst hn;exact .lenL x t xs T hx (by rw[hE];rfl) _ rfl
theorem Uq{x:Operand}{T E:TypeId}{l:Nat}{r:Row}{n:Int}(hx:ρ x = .sl l)(hl:σ l=some r)(hE:A8 P T=some E)(hn:(r.els.length:Int)=n):C0 P σ ρ dst (.call { callee:=.builtin .len,args:=#[x],argTypes:=#[T] }) (.int .i64 n) .none:=by
 subst hn;exact .lenR x l r T hx hl (by rw[hE];rfl) _ rfl
theorem Ur{x:Operand}{T:TypeId}{s:ByteArray}{n:Int}(hx:ρ x = .str s)(hE:P.underlying T=some .string)(hn:(s.size:Int)=n):C0 P σ ρ dst (.call { callee:=.builtin .len,args:=#[x],argTypes:=#[T] }) (.int .i64 n) .none:=by
 subst hn;exact .lenS x s T hx hE _ rfl
theorem Sa{x y:Operand}{k:IntKind}{a b r:Int}{ts:Array TypeId}(hx:ρ x = .int k a)(hy:ρ y = .int k b)(hr:(if b<a then b else a)=r):C0 P σ ρ dst (.call { callee:=.builtin .min,args:=#[x,y],argTypes:=ts }) (.int k r) .none:=by
 subst hr;exact .min2 x y k a b ts hx hy
theorem Hq{x y:Operand}{k:IntKind}{a b r:Int}{ts:Array TypeId}(hx:ρ x = .int k a)(hy:ρ y = .int k b)(hr:(if b > a then b else a)=r):C0 P σ ρ dst (.call { callee:=.builtin .max,args:=#[x,y],argTypes:=ts }) (.int k r) .none:=by
 subst hr;exact .max2 x y k a b ts hx hy
theorem gR{op:BinOp}{t u:TypeId}{x y:Operand}{k:IntKind}{a b r:Int}(hx:ρ x = .int k a)(hy:ρ y = .int k b)(hr:Kg k op a b=some r):C0 P σ ρ dst (.binOp op t x y u) (.int k r) .none:=.ari op t u x y k a b r hx hy hr
theorem H3{op:BinOp}{t u:TypeId}{x y:Operand}{k:IntKind}{a b:Int}{r:Bool}(hx:ρ x = .int k a)(hy:ρ y = .int k b)(hr:KB op a b=some r):C0 P σ ρ dst (.binOp op t x y u) (.bool r) .none:=.cmp op t u x y k a b r hx hy hr
theorem dp{t u:TypeId}{x y:Operand}{a b:ByteArray}{r:Bool}(hx:ρ x = .str a)(hy:ρ y = .str b)(hr:(a.toList==b.toList)=r):C0 P σ ρ dst (.binOp .eql t x y u) (.bool r) .none:=by subst hr;exact .eqS t u x y a b hx hy
theorem WS{t u:TypeId}{x y:Operand}{a b:ByteArray}{r:Bool}(hx:ρ x = .str a)(hy:ρ y = .str b)(hr:(!(a.toList==b.toList))=r):C0 P σ ρ dst (.binOp .neq t x y u) (.bool r) .none:=by subst hr;exact .neS t u x y a b hx hy
theorem Ma{s t:TypeId}{x:Operand}{k k':IntKind}{n r:Int}{D:TypeDesc}(hx:ρ x = .int k' n)(hs:P.underlying s=some D)(ht:Nx P t=some k)(hr:k.wrap n=r):C0 P σ ρ dst (.convert s t x) (.int k r) .none:=by
 subst hr;exact .conv s t x k k' n hx (by rw[hs];rfl) ht
theorem Hr{T E:TypeId}{z i j k:Nat}{x:Operand}{lo hi mx:Option Operand}{t t':Bool}{xs ys:List PV}(hx:ρ x = .lst t xs)(hE:A8 P T=some E)(hz:u6 P E=some z)(hel:∀e∈xs,e.cells.length=z)(hlo:qE ρ lo 0 i)(hhi:qE ρ hi xs.length j)(hmx:qE ρ mx xs.length k)
  (hmh:mx.isSome=true->hi.isSome=true)(hij:i<=j)(hjk:j<=k)(hk:k<=xs.length)(ht:(if mx.isSome then decide (j=k) else t&&decide (j=xs.length))=t')(hy:(xs.take j).drop i=ys):C0 P σ ρ dst (.slice T x lo hi mx) (.lst t' ys) .none:=by
 subst ht;subst hy;exact .sliceL T E z x lo hi mx t xs i j k hx hE hz hel hlo hhi hmx hmh hij hjk hk
theorem Un{x y:Operand}{T E:TypeId}{t:Tmp}{xs ys zs:List PV}{cl:Bool}{z by_ n:Nat}{zv:Value}(hd:dst=some t)(hx:ρ x = .lst true xs)(hy:Src σ (ρ y) ys cl)(hE:A8 P T=some E)(hz:u6 P E=some z)(hb:K9 P E=some by_)(hzv:A5 P E=some zv)(hzz:zv.cells.size=z)
  (hel:∀e∈xs++ys,e.cells.length=z)(hfit:(xs.length+ys.length)*by_<=140737488355328)(h63:xs.length+ys.length<=9223372036854775807)(hzs:xs++ys=zs)(hn:xs.length=n) :
  C0 P σ ρ dst (.call { callee:=.builtin .append,args:=#[x,y],argTypes:=#[T,T] }) (.sl t) (.new t ⟨zs,n,true,z,cl⟩):=by
 subst hzs;subst hn;exact .appT x y T E xs ys cl z by_ t zv hd hx hy hE hz hb hzv hzz hel hfit h63
theorem Um{x y:Operand}{T E:TypeId}{t:Tmp}{s:Nat}{r:Row}{ys zs:List PV}{cl cl':Bool}{z by_ n:Nat}{zv:Value}(hd:dst=some t)(hx:ρ x = .sl s)(hs:σ s=some r)(hy:Src σ (ρ y) ys cl)(hE:A8 P T=some E)(hz:u6 P E=some z)(hb:K9 P E=some by_)(hzv:A5 P E=some zv)
  (hzz:zv.cells.size=z)(hel:∀e∈r.els++ys,e.cells.length=z)(hrz:r.z=z)(hfit:(r.els.length+ys.length)*by_<=140737488355328)(h63:r.els.length+ys.length<=9223372036854775807)(hzs:r.els++ys=zs)(hn:r.els.length=n)(hcl:(r.cl&&cl)=cl') :
  C0 P σ ρ dst (.call { callee:=.builtin .append,args:=#[x,y],argTypes:=#[T,T] }) (.sl t) (.app s t ⟨zs,n,true,z,cl'⟩):=by
 subst hzs;subst hn;subst hcl;exact .appR x y T E s r ys cl z by_ t zv hd hx hs hy hE hz hb hzv hzz hel hrz hfit h63
theorem LZ{T E:TypeId}{parts:Array (Nat × Operand)}{len z:Nat}{t:Tmp}{zv:Value}{els:List PV}{ps:List (Nat × PV)}{cl:Bool}(hd:dst=some t)(hp:(parts.toList.map λp=>(p.1,(ρ p.2).w1))=ps)(hE:A8 P T=some E)(hz:u6 P E=some z)(hzv:A5 P E=some zv)
  (hlen:els.length=len)(hel:els.all (λx=>x.el&&(x.cells.length==z))=true)(hbig:len*z<=2 ^ 24)(hf:jK (λi=>some (i*z,z)) (List.replicate (len*z) .junk) ps=some (els.flatMap PV.cells))
  (hcl:cl=true->els.all (λx=>x.cells.all PV.X7)=true):C0 P σ ρ dst (.buildSlice T len parts) (.sl t) (.new t ⟨els,0,true,z,cl⟩):=by
 subst hp;refine .buildSlice T E parts len z t zv els cl hd hE hz hzv hlen (λx hx=>?_) hbig hf hcl;have:=zd.1 hel x hx;simp only[zk,we] at this;exact this
theorem Y4{α:Type}{f:α->PV}{l:List α}{T E:TypeId}{parts:Array (Nat × Operand)}{len z:Nat}{zv:Value}{ps:List (Nat × PV)}(hp:(parts.toList.map λp=>(p.1,(ρ p.2).w1))=ps)(hE:A8 P T=some E)(hz:u6 P E=some z)(hzv:A5 P E=some zv)
  (hlen:(l.map f).length=len)(hel:(l.map f).all (λx=>x.el&&(x.cells.length==z))=true)(hbig:len*z<=2 ^ 24)(hf:jK (λi=>some (i*z,z)) (List.replicate (len*z) .junk) ps=some ((l.map f).flatMap PV.cells))
  (hcl:(l.map f).all (λx=>x.cells.all PV.X7)=true):C0 P σ ρ dst (.buildSlice T len parts) (.lst true (l.map f)) .none:=by
 subst hp;refine .buildI T E parts len z zv _ hE hz hzv hlen (λx hx=>?_) hbig hf hcl;have:=zd.1 hel x hx;simp only[zk,we] at this;exact this
theorem wP{T E:TypeId}{z:Nat}{t:Tmp}(hd:dst=some t)(hE:A8 P T=some E)(hz:u6 P E=some z):C0 P σ ρ dst (.buildSlice T 0 #[]) (.lst true []) .none:=.nilSlice T E #[] t z hd hE hz rfl
theorem Uo{x y:Operand}{T U E:TypeId}{l z:Nat}{r:Row}{ys:List PV}{n:Int}(hx:ρ x = .sl l)(hl:σ l=some r)(hcl:r.cl=true)(hy:Src σ (ρ y) ys true)(hE:A8 P T=some E)(hz:u6 P E=some z)(hrz:r.z=z)(hel:∀e∈ys,e.cells.length=z)(hn:ys.length<=r.els.length)
  (hzp:0<z)(hk:(ys.length:Int)=n):C0 P σ ρ dst (.call { callee:=.builtin .copy,args:=#[x,y],argTypes:=#[T,U] }) (.int .i64 n) (.uG l ys):=by
 subst hk;exact .copy x y T U E l r ys z hx hl hcl hy hE hz hrz hel hn hzp
theorem oO{T:TypeId}{x y:Operand}{l i f n:Nat}{d:PV}{cs:List PV}(hx:ρ x = .ptr l i f)(hy:ρ y=d\/(ρ y).w1=d)(hc:d.cells=cs)(he:d.el=true)(hs:u6 P T=some n)(hp:0<n)(hn:cs.length=n) :
  C0 P σ ρ dst (.store T x y) (.tup []) (.sto l i f cs):=by subst hc;subst hn;exact .store T x y l i f d hx hy he hs hp
theorem Bt{T:TypeId}{x:Operand}{f l i q off k:Nat}{ft:TypeId}(hx:ρ x = .ptr l i q)(ho:bT P T f=some (off,ft))(hk:q+off=k):C0 P σ ρ dst (.fieldAddr T x f) (.ptr l i k) .none:=by
 subst hk;exact .fieldAddrP T x f l i q off ft hx ho
theorem rK{T:TypeId}{x:Operand}{f off:Nat}{ft:TypeId}{cs es:List PV}(hx:ρ x = .rptr es)(ho:bT P T f=some (off,ft))(hk:es.drop off=cs):C0 P σ ρ dst (.fieldAddr T x f) (.rptr cs) .none:=by
 subst hk;exact .fieldAddrR T x f es off ft hx ho
theorem x6{T:TypeId}{parts:Array (Nat × Operand)}{pl:Nat->Option (Nat × Nat)}{z:Value}{zs cs:List PV}{ps:List (Nat × PV)}(hp:(parts.toList.map λp=>(p.1,(ρ p.2).w1))=ps)(S9:E7 P T=some pl)(hz:A5 P T=some z)(hzs:PV.iw z = .agg zs)
  (hf:jK pl zs ps=some cs)(hsc:cs.all PV.sc=true):C0 P σ ρ dst (.build T parts) (.agg cs) .none:=by subst hp;exact .build T parts pl z zs cs S9 hz hzs hsc hf
theorem eR{α:Type}{a b:α}{l m:List α}(h:a=b)(k:l=m):a::l=b::m:=by rw[h,k]
def y3(P:Program)(f:FuncId):Prop:=∃fn c,P.funcs[f]? = some fn/\fn.body=some c/\fn.name ≠ "runtime.NumGoroutine"
theorem tA{f:FuncId}{args:Array Operand}{ts:Array TypeId}{x:Operand}{ds vs cap:List PV}{d:PV}(hx:ρ x = .fn (.func f) cap)(hk:y3 P f)(ha:args.toList.map ρ++cap=ds)(h:N9 P f vs d)
  (hok:ds.all (PV.kH σ)=true:=by rfl)(hv:ds.map (PV.vw σ)=vs:=by rfl)(hfl:d.flat=true:=by rfl):C0 P σ ρ dst (.call { callee:=.value x,args,argTypes:=ts }) d .none:=by
 subst ha;subst hv;exact .call f args ts cap d x hx hk hok h hfl
theorem vm{f:FuncId}{args:Array Operand}{ts:Array TypeId}{x:Operand}{ds vs cap:List PV}{ls:List Nat}{d:PV}(hx:ρ x = .fn (.func f) cap)(hk:y3 P f)(ha:args.toList.map ρ++cap=ds)(h:N9 P f vs d)
  (hok:ds.all (PV.kH σ)=true:=by rfl)(hv:ds.map (PV.vw σ)=vs:=by rfl)(hl:ds.flatMap (PV.L2 σ)=ls:=by rfl):C0 P σ ρ dst (.call { callee:=.value x,args,argTypes:=ts }) d (.kM ls):=by
 subst ha;subst hv;subst hl;exact .callF f args ts cap d x hx hk hok h
theorem Qf{f:FuncId}{args:Array Operand}{ts:Array TypeId}{x:Operand}{ds vs cap:List PV}{ls:List Nat}{l:Tmp}{r:Row}(hx:ρ x = .fn (.func f) cap)(hk:y3 P f)(ha:args.toList.map ρ++cap=ds)(h:kN P f vs r)
  (hd:dst=some l:=by rfl)(hok:ds.all (PV.kH σ)=true:=by rfl)(hv:ds.map (PV.vw σ)=vs:=by rfl)(hcl:r.cl=true:=by rfl)(hl:ds.flatMap (PV.L2 σ)=ls:=by rfl) :
  C0 P σ ρ dst (.call { callee:=.value x,args,argTypes:=ts }) (.sl l) (.frzN ls l r):=by
 subst ha;subst hv;subst hl;exact .callN f args ts cap l r x hd hx hk hok h hcl
end
section
variable{P:Program}{σ:Nat->Option Row}{ρ:Operand->PV}{dst:Option Tmp}
theorem I5{c a b:Operand}{x y g:Bool}(hc:ρ c = .bool x)(ha:ρ a = .bool true)(hb:ρ b=cond g (.bool y) (.tup []))(hg:x=false->g=true):C0 P σ ρ dst (.pick c a b) (.bool (x||y)) .none:=by
 have:=C0.pick (P:=P) (σ:=σ) (dst:=dst) c a b x hc;rw[ha,hb] at this;cases x;·rw[hg rfl] at this;exact this
 .exact this
theorem F0{c a b:Operand}{x y g:Bool}(hc:ρ c = .bool x)(ha:ρ a=cond g (.bool y) (.tup []))(hb:ρ b = .bool false)(hg:x=true->g=true):C0 P σ ρ dst (.pick c a b) (.bool (x&&y)) .none:=by
 have:=C0.pick (P:=P) (σ:=σ) (dst:=dst) c a b x hc;rw[ha,hb] at this;cases x;·exact this
 .rw[hg rfl] at this;exact this
theorem ct{g:Bool}{a b:PV}(h:g=true):cond g a b=a:=by rw[h];rfl
theorem XJ{a b:Bool}(h:a=true)(k:b=true):(a&&b)=true:=by rw[h,k];rfl
theorem ln{b:Bool}(h:b=false):(b==false)=true:=by rw[h];rfl
theorem mX{b:Bool}(h:b=true):(b==true)=true:=by rw[h];rfl
theorem nB{α:Type}{f:α->PV}{xs:List α}{x:Operand}{T E:TypeId}{t:Bool}(hx:ρ x = .lst t (xs.map f))(hE:A8 P T=some E):C0 P σ ρ dst (.call { callee:=.builtin .len,args:=#[x],argTypes:=#[T] }) (.int .i64 xs.length) .none:=Up hx hE (by simp)
theorem yW{α:Type}{f:α->PV}{xs:List α}{x:Operand}{T E:TypeId}{l:Nat}{r:Row}(hx:ρ x = .sl l)(hl:σ l=some r)(he:r.els=xs.map f)(hE:A8 P T=some E):C0 P σ ρ dst (.call { callee:=.builtin .len,args:=#[x],argTypes:=#[T] }) (.int .i64 xs.length) .none:=
 Uq hx hl hE (by rw[he];simp)
theorem jx{α β:Type}(f:α->β){xs:List α}{i:Int}{e:α}(h:ix xs i=some e):0<=i/\(xs.map f)[i.toNat]? = some (f e):=by
 obtain⟨h0,h1⟩:=wA h;exact⟨h0,by rw[zG,h1];rfl⟩
theorem E6{α:Type}{f:α->PV}{xs:List α}{i:Int}{e:α}{T E:TypeId}{x y:Operand}{t:Bool}{k:IntKind}{z:Nat}{cs:List PV}(h:ix xs i=some e)(hx:ρ x = .lst t (xs.map f))(hy:ρ y = .int k i)
  (hE:A8 P T=some E)(hz:u6 P E=some z)(hc:(f e).cells=cs)(hl:cs.length=z):C0 P σ ρ dst (.indexAddr T x y) (.rptr cs) .none:=by
 obtain⟨h0,h1⟩:=jx f h;subst hc;subst hl;exact .idxL T x y t (xs.map f) k i (f e) E hx hy h0 h1 hE hz
theorem fg{α:Type}{f:α->PV}{xs:List α}{i:Int}{e:α}{T E:TypeId}{x y:Operand}{l:Nat}{k:IntKind}{z:Nat}{r:Row}(h:ix xs i=some e)(hx:ρ x = .sl l)(hr:σ l=some r)(he:r.els=xs.map f)(hy:ρ y = .int k i)
  (hE:A8 P T=some E)(hz:u6 P E=some z)(hl:r.z=z):C0 P σ ρ dst (.indexAddr T x y) (.ptr l i.toNat 0) .none:=by
 obtain⟨h0,h1⟩:=jx f h;subst hl;exact .idxR T x y l r k i E hx hr hy h0 (by rw[he];exact (zw.1 h1).1) hE hz
theorem WN{α:Type}{f:α->PV}{xs:List α}{i:Int}{e:α}{T:TypeId}{x:Operand}{l q n:Nat}{r:Row}{cs:List PV}(h:ix xs i=some e)(hx:ρ x = .ptr l i.toNat q)(hr:σ l=some r)(he:r.els=xs.map f)
  (ha:J1 P T=some true)(hs:u6 P T=some n)(hf:q+n<=(f e).cells.length)(hd:((f e).cells.drop q).take n=cs):C0 P σ ρ dst (.load T x) (.agg cs) .none:=
 Bu hx hr (by rw[he];exact (jx f h).2) ha hs hf hd
theorem Ho{α:Type}{f:α->PV}{xs:List α}{i:Int}{e:α}{T:TypeId}{x:Operand}{l q:Nat}{r:Row}{d:PV}(h:ix xs i=some e)(hx:ρ x = .ptr l i.toNat q)(hr:σ l=some r)(he:r.els=xs.map f)
  (ha:J1 P T=some false)(hd:(f e).cells[q]? = some d):C0 P σ ρ dst (.load T x) d .none:=
 vn hx hr (by rw[he];exact (jx f h).2) ha hd
theorem Dr{α:Type}{f:α->PV}{xs ys zs:List α}{b:Nat}{x y:Operand}{T E:TypeId}{t:Tmp}{z:Nat}{zv:Value}(h:app b xs ys=some zs)(hd:dst=some t)(hx:ρ x = .lst true (xs.map f))(hy:Src σ (ρ y) (ys.map f) true)
  (hE:A8 P T=some E)(hz:u6 P E=some z)(hb:K9 P E=some b)(hzv:A5 P E=some zv)(hzz:zv.cells.size=z)(hel:∀e,(f e).cells.length=z) :
  C0 P σ ρ dst (.call { callee:=.builtin .append,args:=#[x,y],argTypes:=#[T,T] }) (.sl t) (.new t ⟨zs.map f,xs.length,true,z,true⟩):=by
 obtain⟨h1,h2,rfl⟩:=vK h;exact Un hd hx hy hE hz hb hzv hzz (λe he=>by rw[<-zaf] at he;obtain⟨a,_,rfl⟩:=zE.1 he;exact hel a) (by simpa using h1) (by simpa using h2) (by simp) (by simp)
theorem aD{α:Type}{f:α->PV}{xs ys zs:List α}{b:Nat}{x y:Operand}{T E:TypeId}{t:Tmp}{z s:Nat}{r:Row}{zv:Value}(h:app b xs ys=some zs)(hd:dst=some t)(hx:ρ x = .sl s)(hs:σ s=some r)(he:r.els=xs.map f)(hrz:r.z=z)(hcl:r.cl=true)
  (hy:Src σ (ρ y) (ys.map f) true)(hE:A8 P T=some E)(hz:u6 P E=some z)(hb:K9 P E=some b)(hzv:A5 P E=some zv)(hzz:zv.cells.size=z)(hel:∀e,(f e).cells.length=z) :
  C0 P σ ρ dst (.call { callee:=.builtin .append,args:=#[x,y],argTypes:=#[T,T] }) (.sl t) (.app s t ⟨zs.map f,xs.length,true,z,true⟩):=by
 obtain⟨h1,h2,rfl⟩:=vK h;exact Um hd hx hs hy hE hz hb hzv hzz (λe q=>by rw[he,<-zaf] at q;obtain⟨a,_,rfl⟩:=zE.1 q;exact hel a) hrz (by rw[he];simpa using h1) (by rw[he];simpa using h2) (by rw[he];simp) (by rw[he];simp) (by rw[hcl];rfl)
theorem wO{α:Type}{f:α->PV}{zs:List α}{z0:α}{n:Int}{T E:TypeId}{x y:Operand}{t:Tmp}{k k':IntKind}{z b:Nat}{v:Value}(h:mk b n z0=some zs)(hd:dst=some t)(hx:ρ x = .int k n)(hy:ρ y = .int k' n)(hE:A8 P T=some E)(hz:u6 P E=some z)
  (hv:A5 P E=some v)(hb:K9 P E=some b)(hdv:(PV.iw v).w1=f z0)(hel:(PV.iw v).w1.el=true)(hvz:(PV.iw v).w1.cells.length=z):C0 P σ ρ dst (.makeSlice T x y) (.sl t) (.new t ⟨zs.map f,0,true,z,true⟩):=by
 obtain⟨h1,h2,h3,rfl⟩:=PS h;rw[List.map_replicate,<-hdv];exact .mkSlice T x y t k k' n E z v hd hx hy h1 hE hz hv hel hvz b hb h2 h3
def xP(ρ:Operand->PV)(x:Option Operand)(dflt n:Int):Prop:=
 match x with
 | some y=>∃k,ρ y = .int k n
 | none=>n=dflt
theorem xP.Cv{ρ:Operand->PV}{x:Option Operand}{d n:Int}{d':Nat}(h:xP ρ x d n)(h0:0<=n)(hd:d=d'):qE ρ x d' n.toNat:=by
 cases x with
 | none=>have:n=d:=h;show n.toNat=d';omega
 | some y=>obtain⟨k,hk⟩:=h;exact⟨k,by rw[hk];congr;omega⟩
theorem Br{α:Type}{f:α->PV}{xs zs:List α}{i j:Int}{T E:TypeId}{z:Nat}{x:Operand}{lo hi:Option Operand}(h:cut xs i j=some zs)(hx:ρ x = .lst false (xs.map f))(hlo:xP ρ lo 0 i)(hhi:xP ρ hi xs.length j)
  (hE:A8 P T=some E)(hz:u6 P E=some z)(hel:∀e,(f e).cells.length=z):C0 P σ ρ dst (.slice T x lo hi none) (.lst false (zs.map f)) .none:=by
 obtain⟨h1,h2,h3,rfl⟩:=CM h;have:=Hr (P:=P) (σ:=σ) (dst:=dst) (mx:=none) (t':=false) (i:=i.toNat) (j:=j.toNat) (k:=(xs.map f).length) (ys:=((xs.take j.toNat).drop i.toNat).map f) hx hE hz (λe he=>by obtain⟨a,_,rfl⟩:=zE.1 he;exact hel a)
  (hlo.Cv h1 rfl) (hhi.Cv (by omega) (by simp)) rfl (λq=>by cases q) (by omega) (by simp;omega) (zt _) rfl (by simp[List.map_take,List.map_drop])
 exact this
theorem Mb{α:Type}{f:α->PV}{xs zs:List α}{i j:Int}{T E:TypeId}{z:Nat}{x:Operand}{lo hi mx:Option Operand}(h:cut xs i j=some zs)(hx:ρ x = .lst false (xs.map f))(hlo:xP ρ lo 0 i)(hhi:xP ρ hi xs.length j)(hmx:xP ρ mx xs.length j)(hm:mx.isSome=true)(hs:hi.isSome=true)
  (hE:A8 P T=some E)(hz:u6 P E=some z)(hel:∀e,(f e).cells.length=z):C0 P σ ρ dst (.slice T x lo hi mx) (.lst true (zs.map f)) .none:=by
 obtain⟨h1,h2,h3,rfl⟩:=CM h;exact Hr (P:=P) (σ:=σ) (dst:=dst) (t':=true) (i:=i.toNat) (j:=j.toNat) (k:=j.toNat) (ys:=((xs.take j.toNat).drop i.toNat).map f) hx hE hz (λe he=>by obtain⟨a,_,rfl⟩:=zE.1 he;exact hel a)
  (hlo.Cv h1 rfl) (hhi.Cv (by omega) (by simp)) (hmx.Cv (by omega) (by simp)) (λ_=>hs) (by omega) (zt _) (by simp;omega) (by rw[hm];simp) (by simp[List.map_take,List.map_drop])
end
end Go.Pw
