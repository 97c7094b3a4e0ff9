/- A part. -/
import Derived.Test.YtppgkaeodaaidaaGreatDoorU3hPwA
import Derived.Test.YtppgkaeodaaidaaGreatDoorU3hSh0
set_option linter.unusedVariables false
set_option linter.unusedSimpArgs false
set_option linter.unusedSectionVars false
namespace Go.Pw
open Go.RowKit
section
variable{X:Ctx}{g:Gh}{st:St}{a:Act}{w:World}{n:Nat}{K:Act->World->Prop}{Q:Exit->Act->World->Prop}{ρ:Option Nat}{P:Program}
theorem X9{o:Oper}{b:Builtin}{xs:Array Operand}{ts:Array TypeId}(ho:o.op = .call { callee:=.builtin b,args:=xs,argTypes:=ts }) :
  ∃cs,execOp a.eval o=builtin b ts o.type cs (xs.map a.eval):=by
 obtain⟨dst,op,ty,pos,after,guard⟩:=o;simp only at ho;subst ho;exact⟨_,rfl⟩
theorem PZ{o:Oper}{x:Operand}{t:Bool}{xs:List PV}{T:TypeId}{ts:Array TypeId}(h:A3 X g st a w)(ho:o.op = .call { callee:=.builtin .len,args:=#[x],argTypes:=ts })
  (hx:y5 st.env x = .G8 t xs)(hT:(B0 X.P T).isSome=true)(hts:ts[0]? = some T) :
  ∃u,(execOp a.eval o).run X.P w = .ok (.value u) w/\Rd w g.imm g.μ st.p7 u (.int .i64 xs.length):=by
 have hv:=h.eval x;rw[hx] at hv;obtain⟨A,c,z',u,e,_⟩:=hv.fS;obtain⟨E,hE⟩:=zai.1 hT;obtain⟨cs,hc⟩:=X9 (a:=a) ho;refine⟨.int .i64 xs.length,?_,.cl (.int _ _)⟩;rw[hc];refine F0 ?_;simp[Builtin.len_,hts,e,zO (K8 hE),goInt]
theorem Qa{o:Oper}{x:Operand}{l:Nat}{r:Row}{T:TypeId}{ts:Array TypeId}(h:A3 X g st a w)(ho:o.op = .call { callee:=.builtin .len,args:=#[x],argTypes:=ts })
  (hx:y5 st.env x = .sl l)(hl:st.σ l=some r)(hT:(B0 X.P T).isSome=true)(hts:ts[0]? = some T) :
  ∃u,(execOp a.eval o).run X.P w = .ok (.value u) w/\Rd w g.imm g.μ st.p7 u (.int .i64 r.els.length):=by
 have hv:=h.eval x;rw[hx] at hv;obtain⟨_,e⟩:=hv.bz;obtain⟨E,hE⟩:=zai.1 hT;obtain⟨cs,hc⟩:=X9 (a:=a) ho;refine⟨.int .i64 r.els.length,?_,.cl (.int _ _)⟩;rw[hc];refine F0 ?_;simp[Builtin.len_,hts,e,zO (K8 hE),goInt,(h.rows l r hl).n]
theorem Qc{o:Oper}{x:Operand}{s:ByteArray}{T:TypeId}{ts:Array TypeId}(h:A3 X g st a w)(ho:o.op = .call { callee:=.builtin .len,args:=#[x],argTypes:=ts })
  (hx:y5 st.env x = .str s)(hT:X.P.underlying T=some .string)(hts:ts[0]? = some T) :
  ∃u,(execOp a.eval o).run X.P w = .ok (.value u) w/\Rd w g.imm g.μ st.p7 u (.int .i64 s.size):=by
 have hv:=h.eval x;rw[hx] at hv;obtain⟨cs,hc⟩:=X9 (a:=a) ho;refine⟨.int .i64 s.size,?_,.cl (.int _ _)⟩;rw[hc];refine F0 ?_;simp[Builtin.len_,hts,hv.ga,zO hT,goInt]
theorem Up{o:Oper}{x y:Operand}{k:IntKind}{p q:Int}{ts:Array TypeId}(h:A3 X g st a w)(ho:o.op = .call { callee:=.builtin .min,args:=#[x,y],argTypes:=ts })
  (hx:y5 st.env x = .int k p)(hy:y5 st.env y = .int k q) :
  ∃u,(execOp a.eval o).run X.P w = .ok (.value u) w/\Rd w g.imm g.μ st.p7 u (.int k (if q<p then q else p)):=by
 have hv:=h.eval x;have hu:=h.eval y;rw[hx] at hv;rw[hy] at hu;obtain⟨cs,hc⟩:=X9 (a:=a) ho;refine⟨_,?_,.cl (.int _ _)⟩;rw[hc];refine F0 ?_;simp[Builtin.min_,Builtin.min2,hv.J5,hu.J5]
theorem Uo{o:Oper}{x y:Operand}{k:IntKind}{p q:Int}{ts:Array TypeId}(h:A3 X g st a w)(ho:o.op = .call { callee:=.builtin .max,args:=#[x,y],argTypes:=ts })
  (hx:y5 st.env x = .int k p)(hy:y5 st.env y = .int k q) :
  ∃u,(execOp a.eval o).run X.P w = .ok (.value u) w/\Rd w g.imm g.μ st.p7 u (.int k (if q > p then q else p)):=by
 have hv:=h.eval x;have hu:=h.eval y;rw[hx] at hv;rw[hy] at hu;obtain⟨cs,hc⟩:=X9 (a:=a) ho;refine⟨_,?_,.cl (.int _ _)⟩;rw[hc];refine F0 ?_;simp[Builtin.max_,Builtin.max2,hv.J5,hu.J5]
theorem PY{o:Oper}{x y:Operand}{T U E:TypeId}{l z:Nat}{r:Row}{ys:List PV}(h:A3 X g st a w)(ho:o.op = .call { callee:=.builtin .copy,args:=#[x,y],argTypes:=#[T,U] })(hdst:∀t,o.dst=some t->t<X.N)
  (hx:y5 st.env x = .sl l)(hl:st.σ l=some r)(hcl:r.cl=true)(hlo:r.lo=0)(hy:Src st.σ (y5 st.env y) ys true)(hE:B0 X.P T=some E)(hz:u0 X.P E=some z)(hrz:r.z=z)(hel:∀e∈ys,e.cells.length=z)(hn:ys.length<=r.els.length)(hzp:0<z)
  (hK:∀g' a' w',A3 X g' ⟨P8 st.env o.dst (.int .i64 ys.length),(U1.uB l ys).apply st.σ⟩ a' w'->K a' w'):o.wpIn (FX ρ) n X.P a w K Q:=by
 simp only[U1.apply,hl] at hK;have hv:=h.eval x;have hu:=h.eval y;rw[hx] at hv;obtain⟨hp,e⟩:=hv.bz;have hR:=h.rows l r hl;have hmz:(g.μ l).z=z:=by rw[hR.z,hrz]
 obtain⟨B,cB,vals,eB,hyel,hlv,hvr,hone,hvc⟩:=Src.reads h hu hy (z:=z) hel;have hu':=K8 hE;have hnn:=hR.n;have hmin:Nat.min ys.length (g.μ l).n=ys.length:=zb4 (by omega);obtain⟨cs,hc⟩:=X9 (a:=a) ho;have hfc:(Builtin.firstCells z ys.length (a.eval y)).run X.P w = .ok vals.toArray w:=by
  rw[eB];rcases n8 ys.length with q | q
  .have h0:vals = []:=zG (by rw[hlv,q,zbu]);subst h0;rw[q];cases B <;> simp[Builtin.firstCells,loadCells,loadCellsFrom]
  .obtain⟨bB,sB,rfl,hBc⟩:=hvc q;exact run_firstCells_some (P:=X.P) w z ys.length ⟨bB,sB,none⟩ ys.length cB vals hlv (λj u hj=>by rw[H7];exact hBc j u hj)
 have hrun:∀w',(∀A,(g.μ l).A=some A->(storeCells A vals).run X.P w = .ok () w')->((g.μ l).A=none->w'=w)->(Builtin.copy_ #[T,U] o.type #[.slice (g.μ l).A (g.μ l).n (g.μ l).C,a.eval y]).run X.P w = .ok (.int .i64 ys.length) w':=by
  intro w' h1 h2;have hle:(Builtin.lenOf (a.eval y)).run X.P w = .ok ys.length w:=by rw[eB];rfl
  cases hA:(g.μ l).A with
  | none=>
   have:=h2 hA;subst this;simp only[Builtin.copy_,zp,zO hu',zh,hle,hmin,C7 hz,hfc,zb8,m8,zag];rfl
  | some A=>
   have:=h1 A hA;simp only[Builtin.copy_,zp,zO hu',zh,hle,hmin,C7 hz,hfc,zb8,m8,zag,this];rfl
 have hargs:(#[x,y]:Array Operand).map a.eval = #[.slice (g.μ l).A (g.μ l).n (g.μ l).C,a.eval y]:=by simp[e]
 rcases n8 vals.length with hv0 | hv0
 .have h0:vals = []:=zG hv0;subst h0;have hr:=hrun w (λA _=>rfl) (λ_=>rfl);refine D2 (λc=>by rw[ho];simp) (v:=.int .i64 ys.length) (w':=w) (by rw[hc,hargs];exact F0 hr) ?_;have hsame:A3 X g ⟨st.env,w7 st.σ l (some { r with els:=ys++r.els.drop ys.length })⟩ a w:=by
   by_cases hys:ys = []
   .subst hys;simp only[zbl,zW,List.drop_zero];rw[show w7 st.σ l (some { r with els:=r.els })=st.σ from by funext i;unfold w7;split <;> simp_all];exact h
   .have hz0:z=0:=by
     have h0:ys.length*z=0:=by simpa using hlv.symm
     rcases Nat.mul_eq_zero.1 h0 with q | q
     .exact absurd (zG q) hys
     .exact q
    omega
  exact hK g _ _ (hsame.put hdst (.cl (.int _ _)))
 .have hC:=hR.C;have hys:0<ys.length:=by
   rcases n8 ys.length with q | q
   .rw[q,zbu] at hlv;omega
   .exact q
  obtain⟨b,s,hA⟩:=hR.spot (by omega);have hmine:∀j,j<vals.length->G9 (g.μ l) r b (s+j):=λj hj=>⟨s,hA,by rw[hlo];omega,by
   have:ys.length*z<=(if r.opn then (g.μ l).C else (g.μ l).n)*(g.μ l).z:=by rw[hmz];exact zn _ (by split <;> omega)
   omega⟩
  have hst:=run_storeCells_cells (P:=X.P) b s vals 0 w (λj hj=>by simpa using (hR.own b _ (hmine j hj)).2.1) (λj hj=>by simpa using (hR.own b _ (hmine j hj)).2.2) (λu hu=>by rw[<-Br];exact hone u hu);simp only[zaf] at hst;have hr:=hrun (w.setCells b s vals) (λA hA'=>by rw[hA] at hA';cases hA';exact hst) (λq=>by rw[hA] at q;cases q);refine D2 (λc=>by rw[ho];simp) (v:=.int .i64 ys.length) (w':=w.setCells b s vals) (by rw[hc,hargs];exact F0 hr) ?_;have hW:=h.write (l:=l) (r:=r) (b:=b) (o:=s) (vs:=vals) (els:=ys++r.els.drop ys.length) (cl:=r.cl) hl hmine (by simp;omega)
   (λx hx=>by
    rcases zw.1 hx with q | q
    .exact⟨hyel x q,by rw[hrz];exact hel x q⟩
    .exact hR.el x (zal q))
   (λi x j y hx hy=>by
    rcases zB i ys.length with q | q
    .rw[zN q] at hx;have hxz:=hel x (zg hx);have hj:=PV.C1 hy;have hlt:i*z+j<vals.length:=by
      have:(i+1)*z<=ys.length*z:=zn _ (by omega);rw[we,zaw] at this;omega
     have hrd:=hvr i x j y _ hx hy (zc hlt);have hin:=my b vals s w (λj' hj'=>(hR.own b _ (hmine j' hj')).2.1) _ hlt;rw[<-so] at hin;exact⟨b,s,_,hA,by rw[hmz];exact hin,hrd.1,λq'=>by omega,λ_=>hrd.2 rfl⟩
    .rw[zM q,sm,show ys.length+(i-ys.length)=i by omega] at hx;obtain⟨b',s',u,k1,k2,k3,k4,k5⟩:=hR.cell i x j y hx hy;rw[hA] at k1;cases k1;refine⟨b,s,u,hA,?_,k3,k4,k5⟩;rw[pi b vals s w _ λ_ _=>?_];·exact k2
     .right;have:ys.length*z<=i*(g.μ l).z:=by rw[hmz];exact zn _ q
      simp only;omega) hv0
  exact hK g _ _ (hW.put hdst (.cl (.int _ _)))
theorem Rd0.flat{w:World}{imm:Nat->Nat->Prop}{v:Value}{d:PV}(h:Rd0 w imm v d)(hf:d.flat=true)(w':World)(imm':Nat->Nat->Prop):Rd0 w' imm' v d:=by
 have h1:∀ {v:Value} {d:PV},Rd0 w imm v d->d.vT=true->Rd0 w' imm' v d:=by
  intro v d h hf;cases h <;> first | (simp[PV.vT] at hf;done) | skip
  .exact .bool _
  .exact .int _ _
  .exact .str _
 cases h <;> first | (simp[PV.flat,PV.vT] at hf;done) | skip
 case bool b=>exact .bool b
 case int k m=>exact .int k m
 case str s=>exact .str s
 case agg vs cs hsc hn hc=>exact .agg vs cs hsc hn λi v c hv hc'=>h1 (hc i v c hv hc') (by simp only[PV.flat,zd] at hf;exact hf c (zg hc'))
 case tup vs cs hn hc=>
  refine .tup vs cs hn λi v c hv hc'=>?_;have hq:=hc i v c hv hc';simp only[PV.flat,zd] at hf;have hq2:=hf c (zg hc');by_cases e:∃es,c = .agg es
  .obtain⟨es,rfl⟩:=e;cases hq with
   | agg us _ hsc hn' hc2=>exact .agg us es hsc hn' λi v c hv hc3=>h1 (hc2 i v c hv hc3) (by simp only[PV.Rx,zd] at hq2;exact hq2 c (zg hc3))
  .exact h1 hq (by cases c <;> first | exact hq2 | exact absurd ⟨_,rfl⟩ e)
theorem gh{o:Oper}{x:Operand}{args:Array Operand}{ts:Array TypeId}{f:FuncId}{vs:Array Value}(ho:o.op = .call { callee:=.value x,args,argTypes:=ts })(hx:a.eval x = .func (.func f) #[] vs)
  (hb:∃fn c,P.funcs[f]? = some fn/\fn.body=some c/\fn.name ≠ "runtime.NumGoroutine"):(execOp a.eval o).run P w = .ok (.enter f (args.map a.eval++vs)) w:=by
 obtain⟨fn,c,h1,h2,h3⟩:=hb;obtain⟨dst,op,ty,pos,after,guard⟩:=o;simp only at ho;subst ho;have hne:(fn.name == "runtime.NumGoroutine")=false:=by simpa using h3
 simp only[execOp,resolve,hx,Deferred.ofValue,zp,rx,zh,invoke,callFunc,program,Sem.run,h1,hne,h2];simp
theorem gC{w:World}{imm:Nat->Nat->Prop}{μ:Nat->H6}{p7:Nat->Prop}{v:Value}{f:Fn}{cap:List PV}(h:Rd w imm μ p7 v (.fn f cap)) :
  ∃vs:Array Value,v = .func f #[] vs/\vs.size=cap.length/\∀(i:Nat) v c,vs[i]? = some v->cap[i]? = some c->Rd w imm μ p7 v c:=by
 cases h with
 | cl h=>cases h with | fn _ vs _ hn h=>exact⟨vs,rfl,hn,λi v c hv hc=>.cl (h i v c hv hc)⟩
 | fn _ vs _ hn h=>exact⟨vs,rfl,hn,h⟩
theorem sn{σ σF:Nat->Option Row}(hs:E6 σ σF){w:World}{imm:Nat->Nat->Prop}{μ:Nat->H6}{v:Value}{d:PV}(hr:Rd w imm μ (λl=>∃r,σ l=some r) v d) :
  d.v0 σF=d.v0 σ/\d.cL σF=d.cL σ:=by
 cases d <;> first | exact⟨rfl,rfl⟩ | skip
 rename_i l;obtain⟨⟨r,hl⟩,_⟩:=hr.bz;obtain⟨r',h1,h2,h3,h4⟩:=hs l r hl;simp only[PV.v0,PV.cL,hl,h1,h2,h4,and_self]
theorem vu{σF:Nat->Option Row}(h:A3 X g st a w)(hs:E6 st.σ σF){v:Value}{d:PV}(hr:Rd w g.imm g.μ st.p7 v d) :
  d.v2 σF=d.v2 st.σ/\d.kp σF=d.kp st.σ/\d.O1 σF=d.O1 st.σ:=by
 by_cases hd:∃l i f,d = .ptr l i f
 .obtain⟨l,i,f,rfl⟩:=hd;obtain⟨⟨r,hl⟩,b,s,hA,_⟩:=hr.Y4;obtain⟨r',h1,h2,h3,h4⟩:=hs l r hl;simp only[PV.v2,PV.kp,PV.O1,hl,h1,h2];cases hx:r.els[i]? with
  | none=>exact⟨rfl,rfl,trivial⟩
  | some x=>
   simp only;have hall:∀y∈x.cells.drop f,y.v0 σF=y.v0 st.σ/\y.cL σF=y.cL st.σ:=by
    intro y hy;obtain⟨j,hj⟩:=zax hy;obtain⟨u,_,k2,_⟩:=h.cell_of hl hx (vL hj) hA;exact sn hs k2
   have hok:∀(L:List PV),(∀y∈L,y.v0 σF=y.v0 st.σ/\y.cL σF=y.cL st.σ)->(L.all λy=>y.cL σF&&y.sc)=(L.all λy=>y.cL st.σ&&y.sc):=by
    intro L hL;induction L with
    | nil=>rfl
    | cons y L ih=>
     simp only[List.all_cons];rw[(hL y (by simp)).2,ih λz hz=>hL z (by simp[hz])]
   exact⟨by rw[zP λy hy=>(hall y hy).1],hok _ hall,trivial⟩
 .have e:d.v2 σF=d.v0 σF:=by cases d <;> first | rfl | exact absurd ⟨_,_,_,rfl⟩ hd
  have e1:d.v2 st.σ=d.v0 st.σ:=by cases d <;> first | rfl | exact absurd ⟨_,_,_,rfl⟩ hd
  have e2:d.kp σF=d.cL σF:=by cases d <;> first | rfl | exact absurd ⟨_,_,_,rfl⟩ hd
  have e3:d.kp st.σ=d.cL st.σ:=by cases d <;> first | rfl | exact absurd ⟨_,_,_,rfl⟩ hd
  have e4:d.O1 σF=d.O1 st.σ:=by cases d <;> first | rfl | exact absurd ⟨_,_,_,rfl⟩ hd
  rw[e,e1,e2,e3,e4];exact⟨(sn hs hr).1,(sn hs hr).2,rfl⟩
theorem kP{α:Type}{p q:α->Bool}:∀ {L:List α},(∀y∈L,p y=q y)->L.all p=L.all q
 | [],_=>rfl
 | y::L,h=>by rw[List.all_cons,List.all_cons,h y (by simp),kP λz hz=>h z (by simp[hz])]
theorem W1{α β:Type}{p q:α->List β}:∀ {L:List α},(∀y∈L,p y=q y)->L.flatMap p=L.flatMap q
 | [],_=>rfl
 | y::L,h=>by rw[za7,za7,h y (by simp),W1 λz hz=>h z (by simp[hz])]
theorem vx{σF:Nat->Option Row}(h:A3 X g st a w)(hs:E6 st.σ σF){v:Value}{d:PV}(hr:Rd w g.imm g.μ st.p7 v d) :
  d.v3 σF=d.v3 st.σ/\d.mg σF=d.mg st.σ/\d.Y6 σF=d.Y6 st.σ:=by
 have hcs:∀ {vs:Array Value} {cs:List PV},vs.size=cs.length->(∀(i:Nat) v c,vs[i]? = some v->cs[i]? = some c->Rd w g.imm g.μ st.p7 v c)->∀y∈cs,∃v,Rd w g.imm g.μ st.p7 v y:=by
  intro vs cs hn hc y hy;obtain⟨j,hj⟩:=zax hy;have hlt:=A7 hj;exact⟨_,hc j _ y (zo (by omega)) hj⟩
 cases d;case agg cs=>
  obtain⟨vs,_,hn,hc⟩:=hr.fL;have hall:=hcs hn hc;simp only[PV.v3,PV.mg,PV.Y6];exact⟨by rw[zP λy hy=>(sn hs (hall y hy).choose_spec).1],kP λy hy=>by rw[(sn hs (hall y hy).choose_spec).2],trivial⟩
 case fn f cap=>
  obtain⟨vs,_,hn,hc⟩:=gC hr;have hall:=hcs hn hc;simp only[PV.v3,PV.mg,PV.Y6];exact⟨by rw[zP λy hy=>(vu h hs (hall y hy).choose_spec).1],kP λy hy=>by rw[(vu h hs (hall y hy).choose_spec).2.1],
   W1 λy hy=>(vu h hs (hall y hy).choose_spec).2.2⟩
 all_goals exact vu h hs hr
theorem JF{σF:Nat->Option Row}(h:A3 X g st a w)(hs:E6 st.σ σF){v:Value}{d:PV}(hr:Rd w g.imm g.μ st.p7 v d) :
  d.view σF=d.view st.σ/\d.ky σF=d.ky st.σ/\d.L0 σF=d.L0 st.σ:=by
 have hcs:∀ {vs:Array Value} {cs:List PV},vs.size=cs.length->(∀(i:Nat) v c,vs[i]? = some v->cs[i]? = some c->Rd w g.imm g.μ st.p7 v c)->∀y∈cs,∃v,Rd w g.imm g.μ st.p7 v y:=by
  intro vs cs hn hc y hy;obtain⟨j,hj⟩:=zax hy;have hlt:=A7 hj;exact⟨_,hc j _ y (zo (by omega)) hj⟩
 cases d;case tup cs=>
  obtain⟨vs,_,hn,hc⟩:=hr.vt;have hall:=hcs hn hc;simp only[PV.view,PV.ky,PV.L0];exact⟨by rw[zP λy hy=>(vx h hs (hall y hy).choose_spec).1],kP λy hy=>(vx h hs (hall y hy).choose_spec).2.1,
   W1 λy hy=>(vx h hs (hall y hy).choose_spec).2.2⟩
 all_goals exact vx h hs hr
theorem uS(h:A3 X g st a w){args:Array Operand}{vs:Array Value}{cap:List PV}(hn:vs.size=cap.length)(hc:∀(i:Nat) v c,vs[i]? = some v->cap[i]? = some c->Rd w g.imm g.μ st.p7 v c) :
  (args.map a.eval++vs).size=(args.toList.map (y5 st.env)++cap).length/\∀(i:Nat) v d,(args.map a.eval++vs)[i]? = some v->(args.toList.map (y5 st.env)++cap)[i]? = some d->Rd w g.imm g.μ st.p7 v d:=by
 refine⟨by simp[hn],λi v d hv hd=>?_⟩;rcases zB i args.size with q | q
 .rw[pu (by simpa using q)] at hv;rw[zN (by simpa using q)] at hd;simp[Array.getElem?_map,zo q] at hv hd;rw[<-hv,<-hd];exact h.eval _
 .rw[zac (by simpa using q)] at hv;rw[zM (by simpa using q)] at hd;simp at hv hd;exact hc _ v d hv hd
theorem kr{σF:Nat->Option Row}(h:A3 X g st a w)(hs:E6 st.σ σF){imm2:Nat->Nat->Prop}(hx:Ext w g.imm w imm2){vs:Array Value}{ds:List PV}(hn:vs.size=ds.length)
  (hr:∀(i:Nat) v d,vs[i]? = some v->ds[i]? = some d->Rd w g.imm g.μ st.p7 v d)(hok:ds.all (PV.ky σF)=true)
  (hsh:∀l∈ds.flatMap (PV.L0 σF),∀r,st.σ l=some r->Shown imm2 (g.μ l) r):Ct w imm2 vs (ds.map (PV.view σF)):=by
 refine⟨by simp[hn],λi v d hv hd=>?_⟩;rw[zL] at hd;cases hd0:ds[i]? with
 | none=>rw[hd0] at hd;cases hd
 | some d0=>
  rw[hd0] at hd;cases hd;have hm:=zg hd0;have hrd:=hr i v d0 hv hd0;obtain⟨e1,e2,e3⟩:=JF h hs hrd;rw[e1];refine h.view hx hrd (by rw[<-e2];exact zd.1 hok d0 hm) λl hl r hr'=>hsh l (n7.2 ⟨d0,hm,by rw[e3];exact hl⟩) r hr'
theorem A3.called(h:A3 X g st a w){w':World}(hb:jf w.heap.size w w')(N:Nat->Nat->Prop) :
  A3 X ⟨λb o=>g.imm b o\/(N b o/\w.heap.size<=b/\b<w'.heap.size),g.μ⟩ st a w':=by
 refine h.move ⟨λ_ _ q=>.inl q,λb o q=>hb.cell (p:=⟨b,o,none⟩) (h.immlt b o q),λb o x q hx _=>by rw[hb.block b (h.immlt b o q)];exact hx⟩
  (λl r b o hl ho=>⟨hb.cell (p:=⟨b,o,none⟩) (h.bt hl ho).2,hb.frozen (p:=⟨b,o,none⟩) (h.bt hl ho).2,?_⟩) (λb o q=>?_) (λb o q=>?_) (h.below.trans (hb.mono h.below.size))
  (λk x hx _=>by rw[hb.block k (wl.1 hx).1];exact hx)
  (λb o x q hx _=>q.elim id λ⟨_,q,_⟩=>absurd (wl.1 hx).1 (Nat.not_lt.2 q))
 .rintro (q | ⟨_,q,_⟩);·exact h.ownimm l r b o hl ho q
  .have:=(h.bt hl ho).2;omega
 .rcases q with q | ⟨_,_,q⟩
  .exact zbg (h.immlt b o q) hb.size
  .exact q
 .rcases q with q | ⟨_,q,_⟩
  .exact h.immsub b o q
  .right;have:=h.below.size;omega
end
end Go.Pw
namespace Go.Pw
open Go.RowKit
section
variable{X:Ctx}{g:Gh}{st:St}{a:Act}{w:World}{n:Nat}{K:Act->World->Prop}{Q:Exit->Act->World->Prop}{ρ:Option Nat}{P:Program}
theorem Ct.w2{w:World}{imm:Nat->Nat->Prop}{vs:Array Value}{ds:List PV}{σ:Nat->Option Row}(h:Ct w imm vs (ds.map (PV.view σ))):Ct w imm vs (ds.map (PV.vw σ)):=by
 refine⟨by simpa using h.1,λi v d hv hd=>?_⟩;obtain⟨c0,k1,rfl⟩:=dh hd;exact (h.2 i v (c0.view σ) hv (by rw[zL,k1];rfl)).w2
theorem PW{o:Oper}{x:Operand}{args:Array Operand}{ts:Array TypeId}{f:FuncId}{cap:List PV}{d:PV}{σF:Nat->Option Row}(h:A3 X g st a w)(hs:E6 st.σ σF)(ho:o.op = .call { callee:=.value x,args,argTypes:=ts })
  (hdst:∀t,o.dst=some t->t<X.N)(hf:y5 st.env x = .fn (.func f) cap)(hb:∃fn c,X.P.funcs[f]? = some fn/\fn.body=some c/\fn.name ≠ "runtime.NumGoroutine")
  (hok:(args.toList.map (y5 st.env)++cap).all (PV.ky σF)=true)(hc:N7 X.P f ((args.toList.map (y5 st.env)++cap).map (PV.vw σF)) d)(hfl:d.flat=true)
  (hK:∀g' a' w',A3 X g' ⟨P8 st.env o.dst d,st.σ⟩ a' w'->K a' w'):o.wpIn (FX ρ) n X.P a w K Q:=by
 have hv:=h.eval x;rw[hf] at hv;obtain⟨vs,e,hn,hcap⟩:=gC hv;obtain⟨hsz,hrd⟩:=uS h (args:=args) hn hcap;obtain⟨imm2,hF,hX,hSh⟩:=h.Q2 ((args.toList.map (y5 st.env)++cap).flatMap (PV.L0 σF));have hargs:=kr h hs hX hsz hrd hok (λl hl r hr=>hSh l hl r hr) |>.w2;refine aW (λc=>by rw[ho];simp) (gh ho e hb) ((hc w imm2 _ hF.immlt h.gt hargs).mono λev w' hr=>?_);obtain⟨v,rfl,hbel,hres⟩:=hr;refine⟨v,rfl,?_⟩;have hS:=h.called hbel (λ_ _=>False);exact hK _ _ _ (hS.put hdst (.cl (hres.flat hfl _ _)))
theorem Mc{o:Oper}{x:Operand}{args:Array Operand}{ts:Array TypeId}{f:FuncId}{cap:List PV}{d:PV}{σF:Nat->Option Row}(h:A3 X g st a w)(hs:E6 st.σ σF)(ho:o.op = .call { callee:=.value x,args,argTypes:=ts })
  (hdst:∀t,o.dst=some t->t<X.N)(hf:y5 st.env x = .fn (.func f) cap)(hb:∃fn c,X.P.funcs[f]? = some fn/\fn.body=some c/\fn.name ≠ "runtime.NumGoroutine")
  (hok:(args.toList.map (y5 st.env)++cap).all (PV.ky σF)=true)(hc:N7 X.P f ((args.toList.map (y5 st.env)++cap).map (PV.vw σF)) d)
  (hK:∀g' a' w',A3 X g' ⟨P8 st.env o.dst d,Q2 st.σ ((args.toList.map (y5 st.env)++cap).flatMap (PV.L0 σF))⟩ a' w'->K a' w'):o.wpIn (FX ρ) n X.P a w K Q:=by
 have hv:=h.eval x;rw[hf] at hv;obtain⟨vs,e,hn,hcap⟩:=gC hv;obtain⟨hsz,hrd⟩:=uS h (args:=args) hn hcap;obtain⟨imm2,hF,hX,hSh⟩:=h.Q2 ((args.toList.map (y5 st.env)++cap).flatMap (PV.L0 σF));have hargs:=kr h hs hX hsz hrd hok (λl hl r hr=>hSh l hl r hr) |>.w2;refine aW (λc=>by rw[ho];simp) (gh ho e hb) ((hc w imm2 _ hF.immlt h.gt hargs).mono λev w' hr=>?_);obtain⟨v,rfl,hbel,hres⟩:=hr;refine⟨v,rfl,?_⟩;have hS:=hF.called hbel (λ_ _=>True);refine hK _ _ _ (hS.put hdst (.cl (hres.mono ⟨λb o q=>?_,λ_ _ _=>rfl,λ_ _ _ _ q _=>q⟩)));rcases q with q | ⟨q1,q2⟩
 .exact .inl q
 .exact .inr ⟨trivial,q1,q2⟩
theorem Md{o:Oper}{x:Operand}{args:Array Operand}{ts:Array TypeId}{f:FuncId}{cap:List PV}{r:Row}{l:Nat}{σF:Nat->Option Row}(h:A3 X g st a w)(hs:E6 st.σ σF)(ho:o.op = .call { callee:=.value x,args,argTypes:=ts })
  (hdst:∀t,o.dst=some t->t<X.N)(hlm:l<MB)(hl:st.σ l=none)(hf:y5 st.env x = .fn (.func f) cap)(hb:∃fn c,X.P.funcs[f]? = some fn/\fn.body=some c/\fn.name ≠ "runtime.NumGoroutine")
  (hok:(args.toList.map (y5 st.env)++cap).all (PV.ky σF)=true)(hc:kG X.P f ((args.toList.map (y5 st.env)++cap).map (PV.vw σF)) r)
  (hK:∀g' a' w',A3 X g' ⟨P8 st.env o.dst (.sl l),w7 (Q2 st.σ ((args.toList.map (y5 st.env)++cap).flatMap (PV.L0 σF))) l (some r)⟩ a' w'->K a' w'):o.wpIn (FX ρ) n X.P a w K Q:=by
 have hv:=h.eval x;rw[hf] at hv;obtain⟨vs,e,hn,hcap⟩:=gC hv;obtain⟨hsz,hrd⟩:=uS h (args:=args) hn hcap;generalize hls:(args.toList.map (y5 st.env)++cap).flatMap (PV.L0 σF)=ls at hK;obtain⟨imm2,hF,hX,hSh⟩:=h.Q2 ls;have hargs:=kr h hs hX hsz hrd hok (λl hl r hr=>hSh l (by rw[<-hls];exact hl) r hr) |>.w2;refine aW (λc=>by rw[ho];simp) (gh ho e hb) ((hc w imm2 _ hF.immlt h.gt hargs).mono λev w' hr=>?_);obtain⟨m,rfl,hbel,hRow,hown⟩:=hr;refine⟨_,rfl,?_⟩;have hS:=hF.called hbel (λb o=>¬G9 m r b o);have hl':Q2 st.σ ls l=none:=by
  clear hS hRow hargs hSh hF hK hc hls;revert hl
  generalize st.σ=σ;intro hl;induction ls generalizing σ with
  | nil=>exact hl
  | cons k ls ih=>
   refine ih (jr σ k) ?_;unfold jr;cases hk:σ k with
   | none=>exact hl
   | some q=>
    by_cases e:l=k
    .subst e;rw[hl] at hk;cases hk
    .simp only[o5 _ _ e];exact hl
 have hx2:Ext w' (λb o=>fA imm2 w w' b o/\¬G9 m r b o) w' (λb o=>imm2 b o\/(¬G9 m r b o/\w.heap.size<=b/\b<w'.heap.size)):=by
  refine⟨λb o q=>?_,λ_ _ _=>rfl,λ_ _ _ _ q _=>q⟩;rcases q with ⟨q | ⟨q1,q2⟩,q3⟩;·exact .inl q
  .exact .inr ⟨q3,q1,q2⟩
 have hRow':=hRow.mono (μ':=g.μ) (pres':=St.p7 ⟨st.env,Q2 st.σ ls⟩) hx2 (λ_ q=>q.elim) (λb o ho=>⟨rfl,rfl⟩);have hbase:=h.below.size;have hN:=hS.row (l:=l) (m:=m) (r:=r) hlm hl' ⟨hRow'.n,hRow'.z,hRow'.C,hRow'.lo,hRow'.el,hRow'.nil,hRow'.spot,hRow'.cell,λb o ho=>⟨by have:=(hRow'.own b o ho).1;omega,(hRow'.own b o ho).2⟩⟩
  (λl' r' b o q ho k=>by have:=(hF.bt q ho).2;have:=hown b o k;omega)
  (λb o q k=>by
   rcases k with k | ⟨k,_⟩
   .have:=hF.immlt b o k;have:=hown b o q;omega
   .exact k q)
 exact hK _ _ _ (hN.put hdst (dy ⟨_,o8 _ _ _⟩ (o8 _ _ _)))
theorem small(h:A3 X g st a w){dst:Option Tmp}(hdst:∀t,dst=some t->t<X.N){l:Nat}(hd:dst=some l):l<MB:=by
 exact zbg (hdst l hd) (un h.big.1 (by decide))
set_option maxHeartbeats 2000000 in
theorem Mf {o:Oper} {σF:Nat->Option Row} {d:PV} {e:U1} (h:A3 X g st a w) (hop:B9 X.P σF (y5 st.env) o.dst o.op d e) (hs:E6 st.σ σF) (hok:e.ok st.σ) (hdst:∀t,o.dst=some t->t<X.N)
  (hK:∀g' a' w',A3 X g' ⟨P8 st.env o.dst d,e.apply st.σ⟩ a' w'->K a' w'):o.wpIn (FX ρ) n X.P a w K Q:=by
 by_cases hl:match o.op with | .move _ | .assign _ | .pick .. | .load .. | .nilCheck _ | .unOp .. | .binOp .. | .convert .. | .fieldAddr .. | .field .. | .indexAddr .. | .extract .. | .makeFunc .. => True | _=>False
 .obtain⟨rfl,hu⟩:=Qe h hop hs hl;refine cX h (λc q=>?_) hdst hu hK;rw[q] at hl;exact hl
 obtain⟨dst,op,ty,pos,after,guard⟩:=o;simp only at hop hl;have hsrc:∀ {y:Operand} {ys:List PV} {cl:Bool},Src σF (y5 st.env y) ys cl->Src st.σ (y5 st.env y) ys cl:=λ{y ys cl} hy=>hy.same hs λl e=>by
  have:=h.eval y;rw[e] at this;exact this.bz.1
 have hrow:∀ {y:Operand} {l:Nat} {r:Row},y5 st.env y = .sl l->σF l=some r->∃r0,st.σ l=some r0/\r0.els=r.els/\r0.z=r.z/\r0.cl=r.cl:=λ{y l r} e hr=>by
  have:=h.eval y;rw[e] at this;exact hs.at this.bz.1 hr
 cases hop <;> first | (exact absurd trivial hl) | skip
 case pureV hnd hnl hc=>exact cX h hnd hdst (hc _ w g.imm g.μ st.p7 a.eval rfl λx _=>h.eval x) hK
 case box T x l hd hx=>exact Un h rfl hdst (small h hdst hd) hok hx hK
 case alloc T l v hd hz hx=>exact LZ h rfl hdst (small h hdst hd) hok hz hx (Hm v) hK
 case store T x y l i f d hx hd hy hsz hpos=>exact Mg h rfl hdst hx hd hy hsz hpos hok hK
 case build T parts pl z zs cs R8 hz hzs hsc hf=>exact cX h (λc q=>by cases q) hdst (Ma h rfl R8 hz hzs hf hsc) hK
 case mkSlice T x y l k k' m E z v hd hx hy h0 hE hz hv hel hvz b hb hbm hn=>exact Fs h rfl hdst (small h hdst hd) hok hx hy h0 hE hz hv hel hvz hb hbm hn hK
 case lenL x t xs T hx hT ts hts=>exact cX h (λc q=>by cases q) hdst (PZ h rfl hx hT hts) hK
 case lenR x l r T hx hl' hT ts hts=>
  obtain⟨r0,k1,k2,_⟩:=hrow hx hl';have:=Qa h (o:=⟨dst,.call { callee:=.builtin .len,args:=#[x],argTypes:=ts },ty,pos,after,guard⟩) rfl hx k1 hT hts;rw[k2] at this;exact cX h (λc q=>by cases q) hdst this hK
 case lenS x s T hx hT ts hts=>exact cX h (λc q=>by cases q) hdst (Qc h rfl hx hT hts) hK
 case min2 x y k p q ts hx hy=>exact cX h (λc q=>by cases q) hdst (Up h rfl hx hy) hK
 case max2 x y k p q ts hx hy=>exact cX h (λc q=>by cases q) hdst (Uo h rfl hx hy) hK
 case call f args ts cap x hf hb hok' hc hfl=>exact PW h hs rfl hdst hf hb hok' hc hfl hK
 case callF f args ts cap x hf hb hok' hc=>exact Mc h hs rfl hdst hf hb hok' hc hK
 case callN f args ts cap l r x hd hf hb hok' hc hcl=>exact Md h hs rfl hdst (small h hdst hd) hok hf hb hok' hc hK
 case appT x y T E xs ys cl z by_ l zv hd hx hy hE hz hb hzv hzz hel hfit h63=>exact PU h rfl hdst (small h hdst hd) hok hx (hsrc hy) hE hz hb hzv hzz hel hfit h63 hK
 case appR x y T E s r ys cl z by_ l zv hd hx hs' hy hE hz hb hzv hzz hel hrz hfit h63=>
  obtain⟨r0,k1,k2,k3,k4⟩:=hrow hx hs';obtain⟨hl',q,hq,hop⟩:=hok;rw[k1] at hq;cases hq;rw[<-k2,<-k4] at hK;rw[<-k2] at hel hfit h63;rw[<-k3] at hrz;exact PT h rfl hdst (small h hdst hd) hl' hx k1 hop (hsrc hy) hE hz hb hzv hzz hel hrz hfit h63 hK
 case buildSlice T E parts len z l zv els cl hd hE hz hzv hlen hel hbig hf hcl=>exact xX h rfl hdst (small h hdst hd) hok hE hz hzv hlen hel hbig hf hcl hK
 case buildI T E parts len z zv els hE hz hzv hlen hel hbig hf hcl=>exact IZ h rfl hdst hE hz hzv hlen hel hbig hf hcl hK
 case nilSlice T E parts l z hd hE hz hp=>
  subst hp;have hu:=K8 hE;refine D2 (v:=.slice (some ⟨w.heap.size,0,none⟩) 0 0) (w':=w.alloc (.cells #[] E)) (λc q=>by cases q) ?_ (hK g _ _ ((h.alloc _).put hdst (.cl ?_)))
  .refine F0 ?_;simp only[Instr.buildSlice,zp,zO hu,zh,C7 hz];simp[Instr.fill,newRow,Array.range_zero']
  .exact .G8 (some ⟨w.heap.size,0,none⟩) 0 1 true [] (λ_ _=>undef) (zq _) (λ_=>rfl) (λq=>by cases q) (λ_ q=>by simp at q) (λq=>absurd q (zbz _)) (λi x j y q=>by simp at q)
 case sliceL T E z x lo hi mx t xs i j k hx hE hz hel hlo hhi hmx hmh hij hjk hk=>exact cX h (λc q=>by cases q) hdst (Jb h rfl hx hE hz hel hlo hhi hmx hmh hij hjk hk) hK
 case sliceR T E z x lo s r i l hd hx hs' hE hz hrz hlo hi=>
  obtain⟨r0,k1,k2,k3,k4⟩:=hrow hx hs';obtain⟨hl',q,hq,hop⟩:=hok;rw[k1] at hq;cases hq;rw[<-k2,<-k4] at hK;rw[<-k2] at hi;rw[<-k3] at hrz;exact Jc h rfl hdst (small h hdst hd) hl' hx k1 hop hE hz hrz hlo hi hK
 case sliceF T E z x lo hi s r i j hx hs' hcl hE hz hrz hlo hhi hij hj=>
  obtain⟨r0,k1,k2,k3,k4⟩:=hrow hx hs';rw[<-k2] at hK hhi hj;rw[<-k3] at hrz;rw[<-k4] at hcl;exact Ja h rfl hdst hx k1 hcl hE hz hrz hlo hhi hij hj hK
 case copy x y T U E l r ys z hx hl' hcl hy hE hz hrz hel hn hzp=>
  obtain⟨r0,k1,k2,k3,k4⟩:=hrow hx hl';obtain⟨q,hq,hlo,_⟩:=hok;rw[k1] at hq;cases hq;rw[<-k2] at hn;rw[<-k3] at hrz;rw[<-k4] at hcl;exact PY h rfl hdst hx k1 hcl hlo (hsrc hy) hE hz hrz hel hn hzp hK
end
end Go.Pw
namespace Go.Pw
open Go.RowKit
theorem pa{σ σ':Nat->Option Row}(hs:E6 σ σ'){d:PV}(h:d.cL σ=true):d.v0 σ'=d.v0 σ/\d.cL σ'=true:=by
 cases d <;> first | exact⟨rfl,h⟩ | skip
 rename_i l;simp only[PV.cL] at h;cases hl:σ l with
 | none=>rw[hl] at h;cases h
 | some r=>
  rw[hl] at h;obtain⟨r',h1,h2,h3,h4⟩:=hs l r hl;simp only[PV.v0,PV.cL,hl,h1,h2,h4];exact⟨trivial,h⟩
theorem V4{σ σ':Nat->Option Row}(hs:E6 σ σ'){d:PV}(h:d.kp σ=true):d.v2 σ'=d.v2 σ/\d.kp σ'=true/\d.O1 σ'=d.O1 σ:=by
 by_cases hd:∃l i f,d = .ptr l i f
 .obtain⟨l,i,f,rfl⟩:=hd;simp only[PV.kp] at h;cases hl:σ l with
  | none=>rw[hl] at h;cases h
  | some r=>
   rw[hl] at h;obtain⟨r',h1,h2,h3,h4⟩:=hs l r hl;simp only[PV.v2,PV.kp,PV.O1,hl,h1,h2];cases hx:r.els[i]? with
   | none=>simp only[hx] at h;cases h
   | some x=>
    simp only[hx,zd,zk] at h;simp only[zd,zk];exact⟨by rw[zP λy hy=>(pa hs (h y hy).1).1],λy hy=>⟨(pa hs (h y hy).1).2,(h y hy).2⟩,trivial⟩
 .have e:d.v2 σ'=d.v0 σ':=by cases d <;> first | rfl | exact absurd ⟨_,_,_,rfl⟩ hd
  have e1:d.v2 σ=d.v0 σ:=by cases d <;> first | rfl | exact absurd ⟨_,_,_,rfl⟩ hd
  have e2:d.kp σ'=d.cL σ':=by cases d <;> first | rfl | exact absurd ⟨_,_,_,rfl⟩ hd
  have e3:d.kp σ=d.cL σ:=by cases d <;> first | rfl | exact absurd ⟨_,_,_,rfl⟩ hd
  have e4:d.O1 σ'=d.O1 σ:=by cases d <;> first | rfl | exact absurd ⟨_,_,_,rfl⟩ hd
  rw[e,e1,e2,e4];rw[e3] at h;exact⟨(pa hs h).1,(pa hs h).2,rfl⟩
theorem U0{σ σ':Nat->Option Row}(hs:E6 σ σ'){d:PV}(h:d.mg σ=true):d.v3 σ'=d.v3 σ/\d.mg σ'=true/\d.Y6 σ'=d.Y6 σ:=by
 cases d;case agg cs=>
  simp only[PV.mg,zd,zk] at h;simp only[PV.v3,PV.mg,PV.Y6,zd,zk];exact⟨by rw[zP λy hy=>(pa hs (h y hy).1).1],λy hy=>⟨(pa hs (h y hy).1).2,(h y hy).2⟩,trivial⟩
 case fn f cap=>
  simp only[PV.mg,zd] at h;simp only[PV.v3,PV.mg,PV.Y6,zd];exact⟨by rw[zP λy hy=>(V4 hs (h y hy)).1],λy hy=>(V4 hs (h y hy)).2.1,W1 λy hy=>(V4 hs (h y hy)).2.2⟩
 case tup vs=>exact V4 (d:=.tup vs) hs h
 case bool b=>exact V4 (d:=.bool b) hs h
 case int k m=>exact V4 (d:=.int k m) hs h
 case str s=>exact V4 (d:=.str s) hs h
 case G8 t xs=>exact V4 (d:=.G8 t xs) hs h
 case sl l=>exact V4 (d:=.sl l) hs h
 case ptr l i f=>exact V4 (d:=.ptr l i f) hs h
 case rptr cs=>exact V4 (d:=.rptr cs) hs h
 case nilfn=>exact V4 (d:=.nilfn) hs h
 case abs R=>exact V4 (d:=.abs R) hs h
 case mp l=>exact V4 (d:=.mp l) hs h
 case mapc es=>exact V4 (d:=.mapc es) hs h
 case junk=>exact V4 (d:=.junk) hs h
theorem pc{σ σ':Nat->Option Row}(hs:E6 σ σ'){d:PV}(h:d.ky σ=true):d.view σ'=d.view σ/\d.ky σ'=true/\d.L0 σ'=d.L0 σ:=by
 cases d;case tup cs=>
  simp only[PV.ky,zd] at h;simp only[PV.view,PV.ky,PV.L0,zd];exact⟨by rw[zP λy hy=>(U0 hs (h y hy)).1],λy hy=>(U0 hs (h y hy)).2.1,W1 λy hy=>(U0 hs (h y hy)).2.2⟩
 case bool b=>exact U0 (d:=.bool b) hs h
 case int k m=>exact U0 (d:=.int k m) hs h
 case str s=>exact U0 (d:=.str s) hs h
 case G8 t xs=>exact U0 (d:=.G8 t xs) hs h
 case sl l=>exact U0 (d:=.sl l) hs h
 case ptr l i f=>exact U0 (d:=.ptr l i f) hs h
 case rptr cs=>exact U0 (d:=.rptr cs) hs h
 case nilfn=>exact U0 (d:=.nilfn) hs h
 case abs R=>exact U0 (d:=.abs R) hs h
 case mp l=>exact U0 (d:=.mp l) hs h
 case mapc es=>exact U0 (d:=.mapc es) hs h
 case junk=>exact U0 (d:=.junk) hs h
 case agg cs=>exact U0 (d:=.agg cs) hs h
 case fn f cap=>exact U0 (d:=.fn f cap) hs h
theorem qv{σ σ':Nat->Option Row}(hs:E6 σ σ'){ds:List PV}(h:ds.all (PV.ky σ)=true) :
  ds.map (PV.view σ')=ds.map (PV.view σ)/\ds.all (PV.ky σ')=true/\ds.flatMap (PV.L0 σ')=ds.flatMap (PV.L0 σ):=by
 rw[zd] at h;exact⟨zP λd hd=>(pc hs (h d hd)).1,zd.2 λd hd=>(pc hs (h d hd)).2.1,W1 λd hd=>(pc hs (h d hd)).2.2⟩
theorem xA{σ σ':Nat->Option Row}(hs:E6 σ σ'){ds:List PV}(h:ds.all (PV.ky σ)=true):ds.map (PV.vw σ')=ds.map (PV.vw σ):=by
 rw[zd] at h;exact zP λd hd=>by unfold PV.vw;rw[(pc hs (h d hd)).1]
theorem Src.mono{σ σ':Nat->Option Row}(hs:E6 σ σ'){d:PV}{ys:List PV}{cl:Bool}(h:Src σ d ys cl):Src σ' d ys cl:=by
 rcases h with h | ⟨l,r,h1,h2,h3,h4⟩
 .exact .inl h
 .obtain⟨r',k1,k2,k3,k4⟩:=hs l r h2;exact .inr ⟨l,r',h1,k1,by rw[h3,k2],by rw[h4,k4]⟩
theorem B9.mono{P:Program}{σ σ':Nat->Option Row}{ρ:Operand->PV}{dst:Option Tmp}{op:Op}{d:PV}{e:U1}(hs:E6 σ σ')(h:B9 P σ ρ dst op d e):B9 P σ' ρ dst op d e:=by
 cases h;case mw T x l i f r y n hx hl hy ha hsz hf=>
  obtain⟨r',k1,k2,k3,k4⟩:=hs l r hl;exact .mw T x l i f r' y n hx k1 (by rw[k2];exact hy) ha hsz hf
 case jL T x l i f r y hx hl hy ha hf=>
  obtain⟨r',k1,k2,k3,k4⟩:=hs l r hl;exact .jL T x l i f r' y _ hx k1 (by rw[k2];exact hy) ha hf
 case idxR T x y l r k n E hx hl hy h0 hn hE hz=>
  obtain⟨r',k1,k2,k3,k4⟩:=hs l r hl;exact .idxR T x y l r' k n E hx k1 hy h0 (by rw[k2];exact hn) hE (by rw[k3];exact hz)
 case lenR x l r T hx hl hT ts hts=>
  obtain⟨r',k1,k2,k3,k4⟩:=hs l r hl;rw[<-k2];exact .lenR x l r' T hx k1 hT ts hts
 case call f args ts cap x hf hb hok hc hfl=>
  obtain⟨k1,k2,k3⟩:=qv hs hok;exact .call f args ts cap _ x hf hb k2 (by rw[xA hs hok];exact hc) hfl
 case callF f args ts cap x hf hb hok hc=>
  obtain⟨k1,k2,k3⟩:=qv hs hok;rw[<-k3];exact .callF f args ts cap _ x hf hb k2 (by rw[xA hs hok];exact hc)
 case callN f args ts cap l r x hd hf hb hok hc hcl=>
  obtain⟨k1,k2,k3⟩:=qv hs hok;rw[<-k3];exact .callN f args ts cap l r x hd hf hb k2 (by rw[xA hs hok];exact hc) hcl
 case appT x y T E xs ys cl z by_ l zv hd hx hy hE hz hb hzv hzz hel hfit h63=>exact .appT x y T E xs ys cl z by_ l zv hd hx (hy.mono hs) hE hz hb hzv hzz hel hfit h63
 case appR x y T E s r ys cl z by_ l zv hd hx hs' hy hE hz hb hzv hzz hel hrz hfit h63=>
  obtain⟨r',k1,k2,k3,k4⟩:=hs s r hs';rw[<-k2,<-k4];exact .appR x y T E s r' ys cl z by_ l zv hd hx k1 (hy.mono hs) hE hz hb hzv hzz (by rw[k2];exact hel) (by rw[k3];exact hrz) (by rw[k2];exact hfit) (by rw[k2];exact h63)
 case sliceR T E z x lo s r i l hd hx hs' hE hz hrz hlo hi=>
  obtain⟨r',k1,k2,k3,k4⟩:=hs s r hs';rw[<-k2,<-k4];exact .sliceR T E z x lo s r' i l hd hx k1 hE hz (by rw[k3];exact hrz) hlo (by rw[k2];exact hi)
 case sliceF T E z x lo hi s r i j hx hs' hcl hE hz hrz hlo hhi hij hj=>
  obtain⟨r',k1,k2,k3,k4⟩:=hs s r hs';rw[<-k2];exact .sliceF T E z x lo hi s r' i j hx k1 (by rw[k4];exact hcl) hE hz (by rw[k3];exact hrz) hlo (by rw[k2];exact hhi) hij (by rw[k2];exact hj)
 case copy x y T U E l r ys z hx hl hcl hy hE hz hrz hel hn hzp=>
  obtain⟨r',k1,k2,k3,k4⟩:=hs l r hl;exact .copy x y T U E l r' ys z hx k1 (by rw[k4];exact hcl) (hy.mono hs) hE hz (by rw[k3];exact hrz) hel (by rw[k2];exact hn) hzp
 case move x=>exact .move x
 case assign x=>exact .assign x
 case pick c a b t h=>exact .pick c a b t h
 case box T x l hd hx=>exact .box T x l hd hx
 case alloc T l v hd hz hx=>exact .alloc T l v hd hz hx
 case fv T x cs n hx ha hsz hf=>exact .fv T x cs n hx ha hsz hf
 case fw T x cs hx ha hf=>exact .fw T x cs _ hx ha hf
 case store T x y l i f d hx hd hy hsz hpos=>exact .store T x y l i f d hx hd hy hsz hpos
 case pureV hnd hnl h=>exact .pureV _ _ hnd hnl h
 case nilCheckP x l i f hx=>exact .nilCheckP x l i f hx
 case nilCheckR x cs hx=>exact .nilCheckR x cs hx
 case not t x b hx=>exact .not t x b hx
 case neg t x k n hx=>exact .neg t x k n hx
 case ari op t u x y k a b r hx hy hr=>exact .ari op t u x y k a b r hx hy hr
 case cmp op t u x y k a b r hx hy hr=>exact .cmp op t u x y k a b r hx hy hr
 case eqB t u x y a b hx hy ht=>exact .eqB t u x y a b hx hy ht
 case neB t u x y a b hx hy ht=>exact .neB t u x y a b hx hy ht
 case eqS t u x y a b hx hy=>exact .eqS t u x y a b hx hy
 case neS t u x y a b hx hy=>exact .neS t u x y a b hx hy
 case conv s t x k k' n hx h1 ht=>exact .conv s t x k k' n hx h1 ht
 case fieldAddrP T x f l i q off ft hx ho=>exact .fieldAddrP T x f l i q off ft hx ho
 case fieldAddrR T x f cs off ft hx ho=>exact .fieldAddrR T x f cs off ft hx ho
 case fieldA T x f cs off ft n hx ho ha hsz hn=>exact .fieldA T x f cs off ft n hx ho ha hsz hn
 case fieldS T x f cs off ft hx ho ha hd=>exact .fieldS T x f cs off ft _ hx ho ha hd
 case idxL T x y t xs k n e E hx hy h0 he hE hz=>exact .idxL T x y t xs k n e E hx hy h0 he hE hz
 case idxA T x y l i f k n len E z hx hy h0 hn hE hz=>exact .idxA T x y l i f k n len E z hx hy h0 hn hE hz
 case idxRA T x y cs k n len E z hx hy h0 hn hE hz=>exact .idxRA T x y cs k n len E z hx hy h0 hn hE hz
 case extract x i ds hx hd=>exact .extract x i ds _ hx hd
 case build T parts pl z zs cs R8 hz hzs hsc hf=>exact .build T parts pl z zs cs R8 hz hzs hsc hf
 case mkFunc fn cap=>exact .mkFunc fn cap
 case mkSlice T x y l k k' n E z v hd hx hy h0 hE hz hv hel hvz b hb hbm hn=>exact .mkSlice T x y l k k' n E z v hd hx hy h0 hE hz hv hel hvz b hb hbm hn
 case lenL x t xs T hx hT ts hts=>exact .lenL x t xs T hx hT ts hts
 case lenS x s T hx hT ts hts=>exact .lenS x s T hx hT ts hts
 case min2 x y k a b ts hx hy=>exact .min2 x y k a b ts hx hy
 case max2 x y k a b ts hx hy=>exact .max2 x y k a b ts hx hy
 case buildSlice T E parts len z l zv els cl hd hE hz hzv hlen hel hbig hf hcl=>exact .buildSlice T E parts len z l zv els cl hd hE hz hzv hlen hel hbig hf hcl
 case nilSlice T E parts l z hd hE hz hp=>exact .nilSlice T E parts l z hd hE hz hp
 case buildI T E parts len z zv els hE hz hzv hlen hel hbig hf hcl=>exact .buildI T E parts len z zv els hE hz hzv hlen hel hbig hf hcl
 case sliceL T E z x lo hi mx t xs i j k hx hE hz hel hlo hhi hmx hmh hij hjk hk=>exact .sliceL T E z x lo hi mx t xs i j k hx hE hz hel hlo hhi hmx hmh hij hjk hk
def U1.key:U1->Option Nat
 | .new l _ | .app _ l _ | .frzN _ l _=>some l
 | _=>Option.none
theorem B9.key{P:Program}{σ:Nat->Option Row}{ρ:Operand->PV}{dst:Option Tmp}{op:Op}{d:PV}{e:U1}(h:B9 P σ ρ dst op d e):∀l,e.key=some l->dst=some l:=by
 intro l hl;cases h <;> first | (cases hl;done) | (cases hl;assumption)
theorem Pj{env:Nat->PV}{dst:Option Tmp}{d:PV}{x:Operand}(h:∀t,dst=some t->x ≠ .tmp t):y5 (P8 env dst d) x=y5 env x:=by
 cases dst with
 | none=>rfl
 | some t=>
  cases x with
  | tmp u=>
   have:u≠t:=λe=>h t rfl (by rw[e]);simp only[y5,P8,o5 _ _ this]
  | _=>rfl
theorem B9.congr{P:Program}{σ:Nat->Option Row}{ρ ρ':Operand->PV}{dst:Option Tmp}{op:Op}{d:PV}{e:U1}(hρ:∀x∈op.operands,ρ x=ρ' x)(h:B9 P σ ρ dst op d e):B9 P σ ρ' dst op d e:=by
 have key:∃ρ'':Operand->PV,(∀x∈op.operands,ρ'' x=ρ' x)/\ρ''=ρ:=⟨ρ,hρ,rfl⟩;clear key;cases h;case move x=>rw[hρ x (by simp[Op.operands])];exact .move x
 case assign x=>rw[hρ x (by simp[Op.operands])];exact .assign x
 case pick c a b t h=>
  rw[hρ c (by simp[Op.operands])] at h;rw[hρ a (by simp[Op.operands]),hρ b (by simp[Op.operands])];exact .pick c a b t h
 case box T x l hd hx=>
  rw[hρ x (by simp[Op.operands])] at hx |-;exact .box T x l hd hx
 case alloc T l v hd hz hx=>exact .alloc T l v hd hz hx
 case mw T x l i f r y n hx hl hy ha hsz hf=>exact .mw T x l i f r y n (by rw[<-hρ x (by simp[Op.operands])];exact hx) hl hy ha hsz hf
 case jL T x l i f r y hx hl hy ha hf=>exact .jL T x l i f r y _ (by rw[<-hρ x (by simp[Op.operands])];exact hx) hl hy ha hf
 case fv T x cs n hx ha hsz hf=>exact .fv T x cs n (by rw[<-hρ x (by simp[Op.operands])];exact hx) ha hsz hf
 case fw T x cs hx ha hf=>exact .fw T x cs _ (by rw[<-hρ x (by simp[Op.operands])];exact hx) ha hf
 case store T x y l i f d hx hd hy hsz hpos=>
  rw[hρ y (by simp[Op.operands])] at hd;exact .store T x y l i f d (by rw[<-hρ x (by simp[Op.operands])];exact hx) hd hy hsz hpos
 case pureV hnd hnl h=>
  exact .pureV _ _ hnd hnl λo w imm μ p7 ev ho hx=>h o w imm μ p7 ev ho λx hm=>by rw[hρ x hm];exact hx x hm
 case nilCheckP x l i f hx=>
  rw[hρ x (by simp[Op.operands])] at hx |-;exact .nilCheckP x l i f hx
 case nilCheckR x cs hx=>
  rw[hρ x (by simp[Op.operands])] at hx |-;exact .nilCheckR x cs hx
 case not t x b hx=>exact .not t x b (by rw[<-hρ x (by simp[Op.operands])];exact hx)
 case neg t x k n hx=>exact .neg t x k n (by rw[<-hρ x (by simp[Op.operands])];exact hx)
 case ari op t u x y k a b r hx hy hr=>exact .ari op t u x y k a b r (by rw[<-hρ x (by simp[Op.operands])];exact hx) (by rw[<-hρ y (by simp[Op.operands])];exact hy) hr
 case cmp op t u x y k a b r hx hy hr=>exact .cmp op t u x y k a b r (by rw[<-hρ x (by simp[Op.operands])];exact hx) (by rw[<-hρ y (by simp[Op.operands])];exact hy) hr
 case eqB t u x y a b hx hy ht=>exact .eqB t u x y a b (by rw[<-hρ x (by simp[Op.operands])];exact hx) (by rw[<-hρ y (by simp[Op.operands])];exact hy) ht
 case neB t u x y a b hx hy ht=>exact .neB t u x y a b (by rw[<-hρ x (by simp[Op.operands])];exact hx) (by rw[<-hρ y (by simp[Op.operands])];exact hy) ht
 case eqS t u x y a b hx hy=>exact .eqS t u x y a b (by rw[<-hρ x (by simp[Op.operands])];exact hx) (by rw[<-hρ y (by simp[Op.operands])];exact hy)
 case neS t u x y a b hx hy=>exact .neS t u x y a b (by rw[<-hρ x (by simp[Op.operands])];exact hx) (by rw[<-hρ y (by simp[Op.operands])];exact hy)
 case conv s t x k k' n hx h1 ht=>exact .conv s t x k k' n (by rw[<-hρ x (by simp[Op.operands])];exact hx) h1 ht
 case fieldAddrP T x f l i q off ft hx ho=>exact .fieldAddrP T x f l i q off ft (by rw[<-hρ x (by simp[Op.operands])];exact hx) ho
 case fieldAddrR T x f cs off ft hx ho=>exact .fieldAddrR T x f cs off ft (by rw[<-hρ x (by simp[Op.operands])];exact hx) ho
 case fieldA T x f cs off ft n hx ho ha hsz hn=>exact .fieldA T x f cs off ft n (by rw[<-hρ x (by simp[Op.operands])];exact hx) ho ha hsz hn
 case fieldS T x f cs off ft hx ho ha hd=>exact .fieldS T x f cs off ft _ (by rw[<-hρ x (by simp[Op.operands])];exact hx) ho ha hd
 case idxL T x y t xs k n e E hx hy h0 he hE hz=>exact .idxL T x y t xs k n e E (by rw[<-hρ x (by simp[Op.operands])];exact hx) (by rw[<-hρ y (by simp[Op.operands])];exact hy) h0 he hE hz
 case idxR T x y l r k n E hx hl hy h0 hn hE hz=>exact .idxR T x y l r k n E (by rw[<-hρ x (by simp[Op.operands])];exact hx) hl (by rw[<-hρ y (by simp[Op.operands])];exact hy) h0 hn hE hz
 case idxA T x y l i f k n len E z hx hy h0 hn hE hz=>exact .idxA T x y l i f k n len E z (by rw[<-hρ x (by simp[Op.operands])];exact hx) (by rw[<-hρ y (by simp[Op.operands])];exact hy) h0 hn hE hz
 case idxRA T x y cs k n len E z hx hy h0 hn hE hz=>exact .idxRA T x y cs k n len E z (by rw[<-hρ x (by simp[Op.operands])];exact hx) (by rw[<-hρ y (by simp[Op.operands])];exact hy) h0 hn hE hz
 case extract x i ds hx hd=>exact .extract x i ds _ (by rw[<-hρ x (by simp[Op.operands])];exact hx) hd
 case build T parts pl z zs cs R8 hz hzs hsc hf=>
  refine .build T parts pl z zs cs R8 hz hzs hsc ?_;rw[<-hf];congr 1;refine zP λp hp=>?_;rw[hρ p.2 (by simp only[Op.operands,List.mem_toArray,zI];exact (by simp;exact⟨p.1,by simpa using hp⟩))]
 case mkFunc fn cap=>
  rw[zP λx hx=>hρ x (by simp only[Op.operands];simpa using hx)];exact .mkFunc fn cap
 case mkSlice T x y l k k' n E z v hd hx hy h0 hE hz hv hel hvz b hb hbm hn=>
  exact .mkSlice T x y l k k' n E z v hd (by rw[<-hρ x (by simp[Op.operands])];exact hx) (by rw[<-hρ y (by simp[Op.operands])];exact hy) h0 hE hz hv hel hvz b hb hbm hn
 case lenL x t xs T hx hT ts hts=>exact .lenL x t xs T (by rw[<-hρ x (by simp[Op.operands,Call.operands])];exact hx) hT ts hts
 case lenR x l r T hx hl hT ts hts=>exact .lenR x l r T (by rw[<-hρ x (by simp[Op.operands,Call.operands])];exact hx) hl hT ts hts
 case lenS x s T hx hT ts hts=>exact .lenS x s T (by rw[<-hρ x (by simp[Op.operands,Call.operands])];exact hx) hT ts hts
 case min2 x y k a b ts hx hy=>exact .min2 x y k a b ts (by rw[<-hρ x (by simp[Op.operands,Call.operands])];exact hx) (by rw[<-hρ y (by simp[Op.operands,Call.operands])];exact hy)
 case max2 x y k a b ts hx hy=>exact .max2 x y k a b ts (by rw[<-hρ x (by simp[Op.operands,Call.operands])];exact hx) (by rw[<-hρ y (by simp[Op.operands,Call.operands])];exact hy)
 case call f args ts cap x hf hb hok hc hfl=>
  have e:args.toList.map ρ=args.toList.map ρ':=zP λy hy=>hρ y (by simp[Op.operands,Call.operands];right;simpa using hy);rw[e] at hok hc;exact .call f args ts cap _ x (by rw[<-hρ x (by simp[Op.operands,Call.operands])];exact hf) hb hok hc hfl
 case callF f args ts cap x hf hb hok hc=>
  have e:args.toList.map ρ=args.toList.map ρ':=zP λy hy=>hρ y (by simp[Op.operands,Call.operands];right;simpa using hy);rw[e] at hok hc |-;exact .callF f args ts cap _ x (by rw[<-hρ x (by simp[Op.operands,Call.operands])];exact hf) hb hok hc
 case callN f args ts cap l r x hd hf hb hok hc hcl=>
  have e:args.toList.map ρ=args.toList.map ρ':=zP λy hy=>hρ y (by simp[Op.operands,Call.operands];right;simpa using hy);rw[e] at hok hc |-;exact .callN f args ts cap l r x hd (by rw[<-hρ x (by simp[Op.operands,Call.operands])];exact hf) hb hok hc hcl
 case appT x y T E xs ys cl z by_ l zv hd hx hy hE hz hb hzv hzz hel hfit h63=>
  exact .appT x y T E xs ys cl z by_ l zv hd (by rw[<-hρ x (by simp[Op.operands,Call.operands])];exact hx) (by rw[<-hρ y (by simp[Op.operands,Call.operands])];exact hy) hE hz hb hzv hzz hel hfit h63
 case appR x y T E s r ys cl z by_ l zv hd hx hs' hy hE hz hb hzv hzz hel hrz hfit h63=>
  exact .appR x y T E s r ys cl z by_ l zv hd (by rw[<-hρ x (by simp[Op.operands,Call.operands])];exact hx) hs' (by rw[<-hρ y (by simp[Op.operands,Call.operands])];exact hy) hE hz hb hzv hzz hel hrz hfit h63
 case buildSlice T E parts len z l zv els cl hd hE hz hzv hlen hel hbig hf hcl=>
  refine .buildSlice T E parts len z l zv els cl hd hE hz hzv hlen hel hbig ?_ hcl;rw[<-hf];congr 1;refine zP λp hp=>?_;rw[hρ p.2 (by simp only[Op.operands,List.mem_toArray,zI];exact (by simp;exact⟨p.1,by simpa using hp⟩))]
 case buildI T E parts len z zv els hE hz hzv hlen hel hbig hf hcl=>
  refine .buildI T E parts len z zv els hE hz hzv hlen hel hbig ?_ hcl;rw[<-hf];congr 1;refine zP λp hp=>?_;rw[hρ p.2 (by simp only[Op.operands,List.mem_toArray,zI];exact (by simp;exact⟨p.1,by simpa using hp⟩))]
 case nilSlice T E parts l z hd hE hz hp=>exact .nilSlice T E parts l z hd hE hz hp
 case sliceL T E z x lo hi mx t xs i j k hx hE hz hel hlo hhi hmx hmh hij hjk hk=>
  have hb:∀ {y:Option Operand} {d m:Nat},(∀o,y=some o->o∈(Op.slice T x lo hi mx).operands)->qx ρ y d m->qx ρ' y d m:=by
   intro y d m hm h;cases y with
   | none=>exact h
   | some o=>obtain⟨q,hq⟩:=h;exact⟨q,by rw[<-hρ o (hm o rfl)];exact hq⟩
  exact .sliceL T E z x lo hi mx t xs i j k (by rw[<-hρ x (by simp[Op.operands])];exact hx) hE hz hel (hb (λo e=>by subst e;simp[Op.operands]) hlo) (hb (λo e=>by subst e;simp[Op.operands]) hhi)
   (hb (λo e=>by subst e;simp[Op.operands]) hmx) hmh hij hjk hk
 case sliceR T E z x lo s r i l hd hx hs' hE hz hrz hlo hi=>
  refine .sliceR T E z x lo s r i l hd (by rw[<-hρ x (by simp[Op.operands])];exact hx) hs' hE hz hrz ?_ hi;cases lo with
  | none=>exact hlo
  | some o=>obtain⟨q,hq⟩:=hlo;exact⟨q,by rw[<-hρ o (by simp[Op.operands])];exact hq⟩
 case sliceF T E z x lo hi s r i j hx hs' hcl hE hz hrz hlo hhi hij hj=>
  refine .sliceF T E z x lo hi s r i j (by rw[<-hρ x (by simp[Op.operands])];exact hx) hs' hcl hE hz hrz ?_ ?_ hij hj
  .cases lo with
   | none=>exact hlo
   | some o=>obtain⟨q,hq⟩:=hlo;exact⟨q,by rw[<-hρ o (by simp[Op.operands])];exact hq⟩
  .cases hi with
   | none=>exact hhi
   | some o=>obtain⟨q,hq⟩:=hhi;exact⟨q,by rw[<-hρ o (by simp[Op.operands])];exact hq⟩
 case copy x y T U E l r ys z hx hl hcl hy hE hz hrz hel hn hzp=>
  exact .copy x y T U E l r ys z (by rw[<-hρ x (by simp[Op.operands,Call.operands])];exact hx) hl hcl (by rw[<-hρ y (by simp[Op.operands,Call.operands])];exact hy) hE hz hrz hel hn hzp
def B1(ops:Array Oper)(env:Nat->PV)(o:Oper):Option Bool:=
 match o.guard with
 | none=>some true
 | some (j,want)=>match (ops[j]?).bind (·.dst) with
  | some t=>match y5 env (.tmp t) with
   | .bool b=>some (b==want)
   | .tup []=>some false
   | _=>none
  | none=>none
def cls(bar:List Nat)(i:Nat):Op->Nat
 | .move _ | .assign _ | .pick .. | .nilCheck _ | .unOp .. | .binOp .. | .convert .. | .fieldAddr .. | .field .. | .extract .. | .makeFunc .. | .build .. => 7
 | .load .. | .indexAddr .. | .slice .. => if bar.contains i then 7 else 0
 | .lookup .. => if bar.contains i then 7 else 4
 | .alloc _ | .box .. | .buildSlice .. | .makeSlice .. => 1
 | .call { callee:=.builtin .len,.. }=>if bar.contains i then 7 else 0
 | .call { callee:=.builtin .min,.. } | .call { callee:=.builtin .max,.. }=>7
 | .call { callee:=.builtin .append,.. }=>3
 | .call { callee:=.value _,.. }=>if bar.contains i then 5 else 2
 | _=>4
def dI:Nat->U1->Prop->Prop
 | 0,e,_=>e = .none
 | 1,e,_=>e = .none\/∃l r,e = .new l r
 | 2,e,_=>e = .none\/e = .mo []\/∃l r,e = .frzN [] l r
 | 3,e,_=>(∃l r,e = .new l r)\/∃s l r,e = .app s l r
 | 5,e,_=>e = .none\/(∃ls,e = .mo ls)\/∃ls l r,e = .frzN ls l r
 | 7,e,F=>e = .none/\F
 | _,_,_=>True
def allowed:Nat->Nat->Bool
 | 7,_ | _,7=>true
 | 0,0 | 0,1 | 1,0 | 0,2 | 2,0 | 1,1 | 1,2 | 2,1 | 0,3 | 3,0 | 3,1 | 0,5 | 5,0 | 5,1=>true
 | _,_=>false
def kept(bar:List Nat):List Nat:=bar.filterMap λn=>if 1000<=n then some (n-1000) else none
def core(r:Row):List PV × Nat × Bool:=(r.els,r.z,r.cl)
def E1(T:List Nat)(σ σ':Nat->Option Row):Prop:=∀l,T.contains l=true->(σ l).map core=(σ' l).map core
theorem E1.refl{T:List Nat}(σ:Nat->Option Row):E1 T σ σ:=λ_ _=>rfl
theorem E1.symm{T:List Nat}{σ σ':Nat->Option Row}(h:E1 T σ σ'):E1 T σ' σ:=λl q=>(h l q).symm
theorem E1.trans{T:List Nat}{σ σ' σ'':Nat->Option Row}(h:E1 T σ σ')(k:E1 T σ' σ''):E1 T σ σ'':=λl q=>(h l q).trans (k l q)
def U1.off(T:List Nat):U1->Bool
 | .none | .mo _=>true
 | .new l _ | .app _ l _ | .frzN _ l _ | .sto l _ _ _ | .uB l _ => !T.contains l
theorem IK(σ:Nat->Option Row)(l k:Nat):((jr σ l) k).map core=(σ k).map core:=by
 unfold jr;cases hl:σ l with
 | none=>rfl
 | some q=>
  by_cases e:k=l
  .subst e;simp[o8,hl,core]
  .simp only;rw[o5 _ _ e]
theorem sU(ls:List Nat):∀(σ:Nat->Option Row) (k:Nat),((Q2 σ ls) k).map core=(σ k).map core:=by
 induction ls with
 | nil=>intro σ k;rfl
 | cons l ls ih=>intro σ k;exact (ih (jr σ l) k).trans (IK σ l k)
theorem U1.Wy{T:List Nat}{σ:Nat->Option Row}{e:U1}(h:e.off T=true):E1 T σ (e.apply σ):=by
 intro l hl;have ne:∀ {k:Nat},(!T.contains k)=true->l≠k:=λ{k} q e=>by subst e;rw[hl] at q;cases q
 cases e with
 | none=>rfl
 | new k r=>simp only[U1.apply];rw[o5 _ _ (ne h)]
 | app s k r=>
  simp only[U1.apply];rw[o5 _ _ (ne h)];cases hs:σ s with
  | none=>rfl
  | some q=>
   by_cases e:l=s
   .subst e;simp[o8,hs,core]
   .simp only;rw[o5 _ _ e]
 | sto k i f cs=>
  simp only[U1.apply];cases σ k with
  | none=>rfl
  | some q=>cases hq:q.els[i]? with
   | none=>simp only[hq]
   | some x=>simp only[hq];rw[o5 _ _ (ne h)]
 | uB k ys=>
  simp only[U1.apply];cases σ k with
  | none=>rfl
  | some q=>simp only;rw[o5 _ _ (ne h)]
 | mo ls=>exact (sU ls σ l).symm
 | frzN ls k r=>simp only[U1.apply];rw[o5 _ _ (ne h)];exact (sU ls σ l).symm
inductive qC (P:Program) (ops:Array Oper) (dr:Bool) (T:List Nat) (c:Nat) (σF:Nat->Option Row) (o:Oper) (st:St):St->Prop
 | run (d e) (hw:B1 ops st.env o=some true) (h:B9 P σF (y5 st.env) o.dst o.op d e) (hs:E6 st.σ σF/\E1 T st.σ σF) (hok:e.ok st.σ) (ht:dr=true->e.off T=true)
  (hc:dr=true->dI c e (∀σ',E1 T σF σ'->B9 P σ' (y5 st.env) o.dst o.op d e)):qC P ops dr T c σF o st ⟨P8 st.env o.dst d,e.apply st.σ⟩
 | skip (hw:B1 ops st.env o=some false):qC P ops dr T c σF o st ⟨P8 st.env o.dst (.tup []),st.σ⟩
abbrev NW(P:Program)(ops:Array Oper)(dr:Bool)(T:List Nat)(c:Nat)(o:Oper)(st st':St):Prop:=qC P ops dr T c st.σ o st st'
theorem gk{env:Nat->PV}{x y:Option Tmp}{d d':PV}(h:∀t,x=some t->y≠some t):P8 (P8 env x d) y d'=P8 (P8 env y d') x d:=by
 cases x with
 | none=>rfl
 | some t=>cases y with
  | none=>rfl
  | some u=>exact dD _ _ _ (λe=>h t rfl (by rw[e]))
theorem bI{ops:Array Oper}{env:Nat->PV}{o:Oper}{dst:Option Tmp}{d:PV}(h:∀t,dst=some t->t∉o.looksAt ops):B1 ops (P8 env dst d) o=B1 ops env o:=by
 unfold B1;cases hg:o.guard with
 | none=>rfl
 | some p=>
  obtain⟨j,want⟩:=p;simp only;cases hd:(ops[j]?).bind (·.dst) with
  | none=>rfl
  | some t=>
   simp only;have:P8 env dst d t=env t:=by
    cases dst with
    | none=>rfl
    | some u=>
     refine o5 _ _ (λe=>?_);subst e;refine h t rfl ?_;unfold Oper.looksAt;rw[hg];simp[hd]
   have this2:y5 (P8 env dst d) (.tmp t)=y5 env (.tmp t):=by simp only[y5,this]
   rw[this2]
theorem dZ{P:Program}{σ:Nat->Option Row}{ops:Array Oper}{env:Nat->PV}{o:Oper}{dst:Option Tmp}{d d':PV}{e:U1}(h:∀t,dst=some t->t∉o.looksAt ops) :
  B9 P σ (y5 (P8 env dst d)) o.dst o.op d' e↔B9 P σ (y5 env) o.dst o.op d' e:=by
 have hx:∀x∈o.op.operands,y5 (P8 env dst d) x=y5 env x:=λx hx=>Pj λt ht e=>by
  subst e;refine h t ht ?_;unfold Oper.looksAt;exact mt _ (List.mem_filterMap.2 ⟨.tmp t,by simpa using hx,rfl⟩)
 exact⟨λh=>h.congr hx,λh=>h.congr λx q=>(hx x q).symm⟩
def GZ:U1->Bool
 | .sto .. | .uB .. => false
 | _=>true
theorem IM(σ:Nat->Option Row)(l:Nat):E6 σ (jr σ l):=by
 intro k r hk;unfold jr;cases hl:σ l with
 | none=>exact⟨r,hk,rfl,rfl,rfl⟩
 | some q=>
  by_cases e:k=l
  .subst e;rw[hl] at hk;cases hk;exact⟨_,o8 _ _ _,rfl,rfl,rfl⟩
  .exact⟨r,by simp only[o5 _ _ e];exact hk,rfl,rfl,rfl⟩
theorem E6.trans{σ σ' σ'':Nat->Option Row}(h:E6 σ σ')(k:E6 σ' σ''):E6 σ σ'':=by
 intro l r hl;obtain⟨r',h1,h2,h3,h4⟩:=h l r hl;obtain⟨r'',k1,k2,k3,k4⟩:=k l r' h1;exact⟨r'',k1,by rw[k2,h2],by rw[k3,h3],by rw[k4,h4]⟩
theorem yB(ls:List Nat):∀(σ:Nat->Option Row),E6 σ (Q2 σ ls):=by
 induction ls with
 | nil=>exact λσ=>E6.refl σ
 | cons l ls ih=>exact λσ=>(IM σ l).trans (ih (jr σ l))
theorem P4{σ:Nat->Option Row}{l:Nat}{r:Row}(h:σ l=none):E6 σ (w7 σ l (some r)):=λk q hk=>by
 have:k≠l:=λe=>by subst e;rw[h] at hk;cases hk
 exact⟨q,by rw[o5 _ _ this];exact hk,rfl,rfl,rfl⟩
theorem IL{σ:Nat->Option Row}{l k:Nat}(h:σ l=none):jr σ k l=none:=by
 unfold jr;cases hk:σ k with
 | none=>exact h
 | some q=>
  have:l≠k:=λe=>by subst e;rw[h] at hk;cases hk
  simp only[o5 _ _ this];exact h
theorem yA{l:Nat}:∀ {ls:List Nat} {σ:Nat->Option Row},σ l=none->Q2 σ ls l=none
 | [],_,h=>h
 | k::ls,σ,h=>yA (ls:=ls) (σ:=jr σ k) (IL h)
theorem U1.same{σ:Nat->Option Row}{e:U1}(hk:GZ e=true)(hok:e.ok σ):E6 σ (e.apply σ):=by
 cases e with
 | none=>exact E6.refl σ
 | new l r=>exact P4 hok
 | app s l r=>
  obtain⟨h1,q,h2,_⟩:=hok;simp only[U1.apply,h2];have hne:l≠s:=λe=>by subst e;rw[h1] at h2;cases h2
  intro k p hp;have hkl:k≠l:=λe=>by subst e;rw[h1] at hp;cases hp
  rw[o5 _ _ hkl];by_cases e:k=s
  .subst e;rw[h2] at hp;cases hp;exact⟨_,o8 _ _ _,rfl,rfl,rfl⟩
  .exact⟨p,by rw[o5 _ _ e];exact hp,rfl,rfl,rfl⟩
 | sto l i f cs=>cases hk
 | uB l ys=>cases hk
 | mo ls=>exact yB ls σ
 | frzN ls l r=>exact (yB ls σ).trans (P4 (yA hok))
theorem kU{c:Nat}{e:U1}{F:Prop}(h:dI c e F)(hc:c≠4)(hc':c<=5):GZ e=true:=by
 match c,hc,hc',h with
 | 0,_,_,h=>rw[show e = .none from h];rfl
 | 1,_,_,h=>rcases h with rfl | ⟨l,r,rfl⟩ <;> rfl
 | 2,_,_,h=>rcases h with rfl | rfl | ⟨l,r,rfl⟩ <;> rfl
 | 3,_,_,h=>rcases h with ⟨l,r,rfl⟩ | ⟨s,l,r,rfl⟩ <;> rfl
 | 5,_,_,h=>rcases h with rfl | ⟨ls,rfl⟩ | ⟨ls,l,r,rfl⟩ <;> rfl
theorem PV.xw{σ:Nat->Option Row}{d:PV}(h:d.cL σ=true):∀k∈d.bA,σ k≠none:=by
 intro k hk q;cases d <;> first | (simp[PV.bA] at hk;done) | skip
 rename_i l;simp only[PV.bA,zH] at hk;subst hk;have h':(match σ k with | some r=>r.cl | none=>false)=true:=h;rw[q] at h';cases h'
theorem PV.xx{σ:Nat->Option Row}{d:PV}(h:d.kp σ=true):∀k∈d.O1 σ,σ k≠none:=by
 intro k hk q;cases d <;> first | (simp[PV.O1,PV.bA] at hk;done) | exact PV.xw (d:=.sl _) h k hk q | skip
 rename_i l i f;have h':(match σ l with | some r=>(match r.els[i]? with | some x=>(x.cells.drop f).all λy=>y.cL σ&&y.sc | none=>false) | none=>false)=true:=h;have hk':k∈l::(match σ l with | some r=>(match r.els[i]? with | some x=>(x.cells.drop f).flatMap PV.bA | none=>[]) | none=>[]):=hk;cases hl:σ l with
 | none=>rw[hl] at h';cases h'
 | some r=>
  rw[hl] at h' hk';dsimp only at h' hk';cases hx:r.els[i]? with
  | none=>rw[hx] at h';cases h'
  | some x=>
   rw[hx] at h' hk';dsimp only at h' hk';rcases zJ.1 hk' with e | hk'
   .rw[e,hl] at q;cases q
   .obtain⟨y,hy,hk'⟩:=n7.1 hk';have:=zd.1 h' y hy;rw[zk] at this;exact PV.xw this.1 k hk' q
theorem PV.kq{σ:Nat->Option Row}{d:PV}(h:d.mg σ=true):∀k∈d.Y6 σ,σ k≠none:=by
 intro k hk q;cases d <;> first | (simp[PV.Y6,PV.O1,PV.bA] at hk;done) | exact PV.xx (d:=.sl _) h k hk q | exact PV.xx (d:=.ptr _ _ _) h k hk q | skip
 .obtain⟨y,hy,hk⟩:=n7.1 hk;have:=zd.1 h y hy;rw[zk] at this;exact PV.xw this.1 k hk q
 .obtain⟨y,hy,hk⟩:=n7.1 hk;exact PV.xx (zd.1 h y hy) k hk q
theorem PV.Rc{σ:Nat->Option Row}{d:PV}(h:d.ky σ=true):∀k∈d.L0 σ,σ k≠none:=by
 intro k hk q;cases d <;> first | (simp[PV.L0,PV.Y6,PV.O1,PV.bA] at hk;done) | exact PV.kq (d:=.sl _) h k hk q | exact PV.kq (d:=.ptr _ _ _) h k hk q | exact PV.kq (d:=.agg _) h k hk q | exact PV.kq (d:=.fn _ _) h k hk q | skip
 .obtain⟨y,hy,hk⟩:=n7.1 hk;exact PV.kq (zd.1 h y hy) k hk q
 .rename_i f cap;have h':PV.mg σ (.fn f cap)=true:=h;have hk':k∈PV.Y6 σ (.fn f cap):=hk;exact PV.kq h' k hk' q
theorem B9.there{P:Program}{σ:Nat->Option Row}{ρ:Operand->PV}{dst:Option Tmp}{op:Op}{d:PV}{e:U1}(h:B9 P σ ρ dst op d e):∀ls,(e = .mo ls\/∃l r,e = .frzN ls l r)->∀k∈ls,σ k≠none:=by
 have all:∀ {ds:List PV} {k:Nat},ds.all (PV.ky σ)=true->k∈ds.flatMap (PV.L0 σ)->σ k≠none:=λ{ds k} h hk=>by
  obtain⟨y,hy,hk⟩:=n7.1 hk;exact PV.Rc (zd.1 h y hy) k hk
 intro ls he k hk;cases h <;> first | (exfalso;rcases he with he | ⟨_,_,he⟩ <;> cases he;done) | skip
 all_goals rcases he with he | ⟨_,_,he⟩ <;> cases he
 all_goals first | exact all (by assumption) hk | skip
 all_goals
  rw[zH] at hk;subst hk;simp_all
theorem vZ{l:Nat}{x:Option Row}:∀(ls:List Nat) (σ:Nat->Option Row),l∉ls->Q2 (w7 σ l x) ls=w7 (Q2 σ ls) l x
 | [],_,_=>rfl
 | k::ls,σ,h=>by
  have hk:k≠l:=λe=>h (by rw[e];exact zi ..);have e1:jr (w7 σ l x) k=w7 (jr σ k) l x:=by
   unfold jr;rw[o5 _ _ hk];cases σ k with
   | none=>rfl
   | some r=>first | exact dD _ _ _ hk | exact dD _ _ _ (zam hk) | exact (dD _ _ _ hk).symm | exact (dD _ _ _ (zam hk)).symm
  show Q2 (jr (w7 σ l x) k) ls=w7 (Q2 (jr σ k) ls) l x;rw[e1];exact vZ ls _ λq=>h (zt _ q)
theorem KE{σ:Nat->Option Row}{cj cx:Nat}{ej ex:U1}{Fj Fx:Prop}(h7j:cj≠7)(h7x:cx≠7)(ha:allowed cj cx=true)(hj:dI cj ej Fj)(hx:dI cx ex Fx)(hokj:ej.ok σ)(hokx:ex.ok (ej.apply σ))(hkey:∀l,ej.key=some l->ex.key≠some l)(hth:∀ls,(ej = .mo ls\/∃l r,ej = .frzN ls l r)->∀k∈ls,σ k≠none) :
  ex.ok σ/\ej.ok (ex.apply σ)/\ej.apply (ex.apply σ)=ex.apply (ej.apply σ)/\E6 σ (ej.apply σ)/\E6 σ (ex.apply σ):=by
 have e0:∀(σ:Nat->Option Row),(U1.mo []).apply σ=σ:=λ_=>rfl;have e1:∀(σ:Nat->Option Row) l r,(U1.frzN [] l r).apply σ=(U1.new l r).apply σ:=λ_ _ _=>rfl;have simple:∀ {e:U1},(e = .none\/e = .mo []\/(∃l r,e = .new l r)\/∃l r,e = .frzN [] l r)->(∀σ,e.apply σ=σ/\e.ok σ)\/∃l r,e.key=some l/\(∀σ,e.apply σ=w7 σ l (some r))/\(∀σ,e.ok σ↔σ l=none):=by
  rintro e (rfl | rfl | ⟨l,r,rfl⟩ | ⟨l,r,rfl⟩);·exact .inl λ_=>⟨rfl,trivial⟩
  .exact .inl λ_=>⟨rfl,trivial⟩
  .exact .inr ⟨l,r,rfl,λ_=>rfl,λ_=>Iff.rfl⟩
  .exact .inr ⟨l,r,rfl,λ_=>rfl,λ_=>Iff.rfl⟩
 have s0:∀ {e:U1} {F:Prop},dI 0 e F->(e = .none\/e = .mo []\/(∃l r,e = .new l r)\/∃l r,e = .frzN [] l r):=λh=>.inl h;have s1:∀ {e:U1} {F:Prop},dI 1 e F->(e = .none\/e = .mo []\/(∃l r,e = .new l r)\/∃l r,e = .frzN [] l r):=λh=>h.elim .inl λh=>.inr (.inr (.inl h));have s2:∀ {e:U1} {F:Prop},dI 2 e F->(e = .none\/e = .mo []\/(∃l r,e = .new l r)\/∃l r,e = .frzN [] l r):=λh=>h.elim .inl λh=>h.elim (λh=>.inr (.inl h)) λh=>.inr (.inr (.inr h));have both:(ej = .none\/ej = .mo []\/(∃l r,ej = .new l r)\/∃l r,ej = .frzN [] l r)->(ex = .none\/ex = .mo []\/(∃l r,ex = .new l r)\/∃l r,ex = .frzN [] l r) ->
   ex.ok σ/\ej.ok (ex.apply σ)/\ej.apply (ex.apply σ)=ex.apply (ej.apply σ)/\E6 σ (ej.apply σ)/\E6 σ (ex.apply σ):=by
  intro hj hx;rcases simple hj with kj | ⟨l,r,kj0,kj1,kj2⟩ <;> rcases simple hx with kx | ⟨l',r',kx0,kx1,kx2⟩
  .rw[(kj σ).1,(kx σ).1];exact⟨(kx σ).2,(kj σ).2,by rw[(kj σ).1],E6.refl _,E6.refl _⟩
  .rw[(kj σ).1] at hokx |-;rw[kx1];exact⟨hokx,(kj _).2,(kj _).1,E6.refl _,P4 ((kx2 σ).1 hokx)⟩
  .exact⟨(kx σ).2,by rw[(kx σ).1];exact hokj,by rw[(kx σ).1,(kx _).1],by rw[kj1];exact P4 ((kj2 σ).1 hokj),by rw[(kx σ).1];exact E6.refl _⟩
  .have hne:l≠l':=λe=>hkey l kj0 (by rw[kx0,e]);have hl:=(kj2 σ).1 hokj;have hl':σ l'=none:=by
    have:=(kx2 _).1 hokx;rw[kj1,o5 _ _ (zam hne)] at this;exact this
   rw[kj1,kx1,kj1,kx1];exact⟨(kx2 σ).2 hl',(kj2 _).2 (by rw[o5 _ _ hne];exact hl),dD _ _ _ (zam hne),P4 hl,P4 hl'⟩
 have lookj:ej = .none->ex.ok σ/\ej.ok (ex.apply σ)/\ej.apply (ex.apply σ)=ex.apply (ej.apply σ)/\E6 σ (ej.apply σ)/\(GZ ex=true->E6 σ (ex.apply σ)):=by
  rintro rfl;exact⟨hokx,trivial,rfl,E6.refl _,λq=>U1.same q hokx⟩
 have lookx:ex = .none->GZ ej=true->ex.ok σ/\ej.ok (ex.apply σ)/\ej.apply (ex.apply σ)=ex.apply (ej.apply σ)/\E6 σ (ej.apply σ)/\E6 σ (ex.apply σ):=by
  rintro rfl q;exact⟨trivial,hokj,rfl,U1.same q hokj,E6.refl _⟩
 have look0:dI cj ej Fj->cj=0->cx≠4->cx<=5->ex.ok σ/\ej.ok (ex.apply σ)/\ej.apply (ex.apply σ)=ex.apply (ej.apply σ)/\E6 σ (ej.apply σ)/\E6 σ (ex.apply σ):=by
  intro h q h4 h5;subst q;obtain⟨k1,k2,k3,k4,k5⟩:=lookj h;exact⟨k1,k2,k3,k4,k5 (kU hx h4 h5)⟩
 unfold allowed at ha;split at ha;·exact absurd rfl h7j
 .exact absurd rfl h7x
 .exact both (s0 hj) (s0 hx)
 .exact both (s0 hj) (s1 hx)
 .exact both (s1 hj) (s0 hx)
 .exact both (s0 hj) (s2 hx)
 .exact both (s2 hj) (s0 hx)
 .exact both (s1 hj) (s1 hx)
 .exact both (s1 hj) (s2 hx)
 .exact both (s2 hj) (s1 hx)
 .exact look0 hj rfl (by omega) (by omega)
 .exact lookx hx (kU hj (by omega) (by omega))
 .-- an append,and a row that is new
  rcases hj with ⟨l,r,rfl⟩ | ⟨s,l,r,rfl⟩;·exact both (.inr (.inr (.inl ⟨l,r,rfl⟩))) (s1 hx)
  .rcases hx with rfl | ⟨l',r',rfl⟩
   .exact lookx rfl rfl
   .obtain⟨h1,q,h2,h3⟩:=hokj;have hne:l≠l':=λe=>hkey l rfl (by rw[e];rfl);have hsl:s≠l:=λe=>by subst e;rw[h1] at h2;cases h2
    have hx':w7 (w7 σ s (some { q with lo:=q.els.length,opn:=false })) l (some r) l'=none:=by
     have:=hokx;simp only[U1.ok,U1.apply,h2] at this;exact this
    rw[o5 _ _ (zam hne)] at hx';have hsl':s≠l':=λe=>by subst e;rw[o8] at hx';cases hx'
    rw[o5 _ _ (zam hsl')] at hx';refine⟨hx',⟨by simp only[U1.apply];rw[o5 _ _ hne];exact h1,q,by simp only[U1.apply];rw[o5 _ _ hsl'];exact h2,h3⟩,?_,U1.same rfl ⟨h1,q,h2,h3⟩,P4 hx'⟩;simp only[U1.apply,o5 _ _ hsl',h2];rw[dD _ _ _ (zam hsl'),dD _ _ _ (zam hne)]
 .exact look0 hj rfl (by omega) (by omega)
 .exact lookx hx (kU hj (by omega) (by omega))
 .-- what shows rows,and a row that is new
  rcases hx with rfl | ⟨l',r',rfl⟩
  .exact lookx rfl (kU hj (by omega) (by omega))
  .have back:∀ls,Q2 σ ls l'=none->σ l'=none:=λls q=>by
    have:=sU ls σ l';rw[q] at this;cases e:σ l' with
    | none=>rfl
    | some r=>rw[e] at this;cases this
   rcases hj with rfl | ⟨ls,rfl⟩ | ⟨ls,l,r,rfl⟩
   .obtain⟨k1,k2,k3,k4,k5⟩:=lookj rfl;exact⟨k1,k2,k3,k4,k5 rfl⟩
   .have h0:=back ls hokx;have hn:l'∉ls:=λq=>hth ls (.inl rfl) l' q h0;exact⟨h0,trivial,vZ ls σ hn,U1.same rfl hokj,P4 h0⟩
   .have hne:l≠l':=λe=>hkey l rfl (by rw[e];rfl);have hx1:w7 (Q2 σ ls) l (some r) l'=none:=hokx;rw[o5 _ _ (zam hne)] at hx1;have h0:=back ls hx1;have hn:l'∉ls:=λq=>hth ls (.inr ⟨l,r,rfl⟩) l' q h0;refine⟨h0,?_,?_,U1.same rfl hokj,P4 h0⟩
    .show w7 σ l' (some r') l=none;rw[o5 _ _ hne];exact hokj
    .show w7 (Q2 (w7 σ l' (some r')) ls) l (some r)=w7 (w7 (Q2 σ ls) l (some r)) l' (some r');rw[vZ ls σ hn];exact dD _ _ _ (zam hne)
 .cases ha
theorem Jy{P:Program}{ops:Array Oper}{T:List Nat}{cj cx:Nat}{oj ox:Oper}{st s s':St}{σF:Nat->Option Row}(hap:oj.apart ops ox=true)(ha:allowed cj cx=true)
  (hj:NW P ops true T cj oj st s)(hx:qC P ops true T cx σF ox s s'):∃σF' st',qC P ops true T cx σF' ox st st'/\NW P ops true T cj oj st' s':=by
 obtain⟨a1,a2,a3⟩:=Oper.apart_spec hap;have rr:∀σ:Nat->Option Row,E6 σ σ/\E1 T σ σ:=λσ=>⟨E6.refl _,E1.refl _⟩;have weak:∀ {c:Nat} {e:U1} {F G:Prop},(c=7->F->G)->dI c e F->dI c e G:=λ{c e F G} hne q=>by
  unfold dI at q |-;split at q <;> first | exact q | exact⟨q.1,hne rfl q.2⟩ | trivial
 cases hj with
 | run d e hw h hs hok ht hc=>
  cases hx with
  | run d' e' hw' h' hs' hok' ht' hc'=>
   simp only at hw' h' hs' hok' |-;have hkey:∀l,e.key=some l->e'.key≠some l:=λl q q'=>a2 l (h.key l q) (h'.key l q');have near1:E1 T st.σ (e.apply st.σ):=U1.Wy (ht rfl);rw[bI a1] at hw';by_cases h7x:cx=7
   .subst h7x;obtain⟨rfl,hfree⟩:=hc' rfl;have hfree':∀σ',E1 T st.σ σ'->B9 P σ' (y5 st.env) ox.dst ox.op d' .none:=λσ' q=>(dZ a1).1 (hfree σ' ((near1.trans hs'.2).symm.trans q));refine⟨st.σ,_,.run d' .none hw' (hfree' _ (E1.refl _)) (rr _) trivial (λ_=>rfl) (λ_=>⟨rfl,hfree'⟩),?_⟩;have:=qC.run (P:=P) (ops:=ops) (dr:=true) (T:=T) (c:=cj) (σF:=st.σ) (o:=oj) (st:=⟨P8 st.env ox.dst d',st.σ⟩) d e (by rw[bI a3];exact hw) ((dZ a3).2 h) (rr _) hok ht
     (λq=>weak (λ_ f σ' hσ=>(dZ a3).2 (f σ' hσ)) (hc q))
    rw[gk (x:=ox.dst) (y:=oj.dst) λt q q'=>a2 t q' q] at this;exact this
   by_cases h7j:cj=7
   .subst h7j;obtain⟨rfl,hfree⟩:=hc rfl;rw[dZ a1] at h';have near2:E1 T st.σ (e'.apply st.σ):=U1.Wy (ht' rfl);refine⟨σF,_,.run d' e' hw' h' hs' hok' ht' (λq=>weak (λ_ f σ' hσ=>(dZ a1).1 (f σ' hσ)) (hc' q)),?_⟩;have:=qC.run (P:=P) (ops:=ops) (dr:=true) (T:=T) (c:=7) (σF:=e'.apply st.σ) (o:=oj) (st:=⟨P8 st.env ox.dst d',e'.apply st.σ⟩) d .none (by rw[bI a3];exact hw) ((dZ a3).2 (hfree _ near2)) (rr _) trivial (λ_=>rfl)
     (λ_=>⟨rfl,λσ' q=>(dZ a3).2 (hfree σ' (near2.trans q))⟩)
    rw[gk (x:=ox.dst) (y:=oj.dst) λt q q'=>a2 t q' q] at this;exact this
   .have fj:dI cj e True:=weak (λ_ _=>trivial) (hc rfl);have fx:dI cx e' True:=weak (λ_ _=>trivial) (hc' rfl);obtain⟨k1,k2,k3,k4,k5⟩:=KE h7j h7x ha fj fx hok hok' hkey λls he=>h.there ls he;rw[dZ a1] at h';refine⟨σF,_,.run d' e' hw' h' ⟨k4.trans hs'.1,near1.trans hs'.2⟩ k1 ht' (λ_=>weak (λq=>absurd q h7x) fx),?_⟩;have:=qC.run (P:=P) (ops:=ops) (dr:=true) (T:=T) (c:=cj) (σF:=e'.apply st.σ) (o:=oj) (st:=⟨P8 st.env ox.dst d',e'.apply st.σ⟩) d e (by rw[bI a3];exact hw) ((dZ a3).2 (h.mono k5)) (rr _) k2 ht (λ_=>weak (λq=>absurd q h7j) fj);rw[k3,gk (x:=ox.dst) (y:=oj.dst) λt q q'=>a2 t q' q] at this;exact this
  | skip hw'=>
   simp only at hw' |-;rw[bI a1] at hw';refine⟨st.σ,_,.skip hw',?_⟩;have:=qC.run (P:=P) (ops:=ops) (dr:=true) (T:=T) (c:=cj) (σF:=st.σ) (o:=oj) (st:=⟨P8 st.env ox.dst (.tup []),st.σ⟩) d e (by rw[bI a3];exact hw) ((dZ a3).2 h) (rr _) hok ht
    (λq=>weak (λ_ f σ' hσ=>(dZ a3).2 (f σ' hσ)) (hc q))
   rw[gk (x:=ox.dst) (y:=oj.dst) λt q q'=>a2 t q' q] at this;exact this
 | skip hw=>
  cases hx with
  | run d' e' hw' h' hs' hok' ht' hc'=>
   simp only at hw' h' hs' hok' |-;rw[bI a1] at hw';rw[dZ a1] at h';refine⟨σF,_,.run d' e' hw' h' hs' hok' ht' (λq=>weak (λ_ f σ' hσ=>(dZ a1).1 (f σ' hσ)) (hc' q)),?_⟩;have:=qC.skip (P:=P) (ops:=ops) (dr:=true) (T:=T) (c:=cj) (σF:=e'.apply st.σ) (o:=oj) (st:=⟨P8 st.env ox.dst d',e'.apply st.σ⟩) (by rw[bI a3];exact hw);rw[gk (x:=ox.dst) (y:=oj.dst) λt q q'=>a2 t q' q] at this;exact this
  | skip hw'=>
   simp only at hw' |-;rw[bI a1] at hw';refine⟨st.σ,_,.skip hw',?_⟩;have:=qC.skip (P:=P) (ops:=ops) (dr:=true) (T:=T) (c:=cj) (σF:=st.σ) (o:=oj) (st:=⟨P8 st.env ox.dst (.tup []),st.σ⟩) (by rw[bI a3];exact hw);rw[gk (x:=ox.dst) (y:=oj.dst) λt q q'=>a2 t q' q] at this;exact this
def Cu(P:Program)(ops:Array Oper)(bar:List Nat)(dr:Bool):List Nat->St->St->Prop
 | [],st,st'=>st=st'
 | i::is,st,st'=>∃o s,ops[i]? = some o/\NW P ops dr (kept bar) (cls bar i o.op) o st s/\Cu P ops bar dr is s st'
theorem xg{P:Program}{ops:Array Oper}{bar:List Nat}{x:Nat}{ox:Oper}(hox:ops[x]? = some ox):∀(c1 c2:List Nat) (st s':St),
  (∀j∈c1,∀oj,ops[j]? = some oj->oj.apart ops ox=true/\allowed (cls bar j oj.op) (cls bar x ox.op)=true)->Cu P ops bar true (c1++x::c2) st s' ->
  ∃σF st',qC P ops true (kept bar) (cls bar x ox.op) σF ox st st'/\Cu P ops bar true (c1++c2) st' s':=by
 intro c1;induction c1 with
 | nil=>
  intro c2 st s' _ h;obtain⟨o,s,ho,hs,hr⟩:=h;rw[hox] at ho;cases ho;exact⟨_,s,hs,hr⟩
 | cons j c1 ih=>
  intro c2 st s' hj h;obtain⟨oj,s,hoj,hs,hr⟩:=h;obtain⟨σF,s1,h1,h2⟩:=ih c2 s s' (λk hk=>hj k (zt _ hk)) hr;obtain⟨k1,k2⟩:=hj j (zi ..) oj hoj;obtain⟨σF',st',q1,q2⟩:=Jy k1 k2 hs h1;exact⟨σF',st',q1,oj,s1,hoj,q2,h2⟩
end Go.Pw
namespace Go.Pw
open Go.RowKit
section
variable{X:Ctx}{g:Gh}{st:St}{a:Act}{w:World}{n:Nat}{K:Act->World->Prop}{Q:Exit->Act->World->Prop}{ρ:Option Nat}{ops:Array Oper}
theorem Q8(h:A3 X g st a w){o:Oper}{b:Bool}(hw:B1 ops st.env o=some b):Region.wanted o (yielded ops a.tmps)=b:=by
 unfold B1 at hw;unfold Region.wanted;cases hg:o.guard with
 | none=>rw[hg] at hw;simpa using hw
 | some p=>
  obtain⟨j,want⟩:=p;rw[hg] at hw;simp only at hw |-;cases hd:(ops[j]?).bind (·.dst) with
  | none=>rw[hd] at hw;cases hw
  | some t=>
   rw[hd] at hw;simp only at hw;have ht:=h.KF t;cases he:y5 st.env (.tmp t) <;> rw[he] at hw ht <;> first | (cases hw;done) | skip
   case bool b'=>
    simp only[wp] at hw;have hv:=ht.eO;have:a.tmps[t]? = some (.bool b'):=by
     rw[zE] at hv;cases hq:a.tmps[t]? with
     | none=>rw[hq] at hv;cases hv
     | some v=>rw[hq] at hv;simp only[zR] at hv;rw[hv]
    have hy:yielded ops a.tmps j=some b':=by
     unfold yielded;rw[hd];simp only[zbq,this]
    rw[hy,<-hw];rfl
   case tup vs=>
    cases vs with
    | cons _ _=>cases hw
    | nil=>
     simp only[wp] at hw;subst hw;obtain⟨us,hv,_⟩:=ht.vt;have hy:yielded ops a.tmps j=none:=by
      unfold yielded;rw[hd];simp only[zbq];rw[zE] at hv;cases hq:a.tmps[t]? with
      | none=>rfl
      | some v=>rw[hq] at hv;simp only[zR] at hv;rw[hv]
     rw[hy];rfl
theorem tP{c:Nat}{T:List Nat}{dr:Bool}{σF:Nat->Option Row}{o:Oper}{st':St}{i:Nat}(hi:ops[i]? = some o)(h:A3 X g st a w)(hs:qC X.P ops dr T c σF o st st')(hdst:∀t,o.dst=some t->t<X.N)
  (hK:∀g' a' w',A3 X g' st' a' w'->K a' w'):wpOpIn (FX ρ) n X.P ops Q i K a w:=by
 unfold wpOpIn;rw[hi];simp only;cases hs with
 | run d e hw ho hsame hok ht hc=>
  rw[zb (Q8 h hw)];exact Mf h ho hsame.1 hok hdst hK
 | skip hw=>
  rw[za (by rw[Q8 h hw];simp)];exact⟨λ_ _=>trivial,hK g _ w (h.put hdst (.cl (.tup #[] [] rfl λi v c _ hc=>by simp at hc)))⟩
def eT(N:Nat)(ops:Array Oper):Bool:=ops.toList.all λo=>match o.dst with | some t=>decide (t<N) | none=>true
theorem F4{N:Nat}(h:eT N ops=true){i:Nat}{o:Oper}(hi:ops[i]? = some o):∀t,o.dst=some t->t<N:=by
 intro t ht;have hm:o∈ops.toList:=by
  have:ops.toList[i]? = some o:=by simpa using hi
  exact zg this
 have:=zd.1 h o hm;rw[ht] at this;simpa using this
def Wr(M:Array Nat)(es:List Edge):Nat:=es.foldl (λs e=>if Region.binds .any e then s ||| (2 ^ e.on ||| M.getD e.on 0) else s) 0
theorem yL(M:Array Nat)(j:Nat):∀(es:List Edge) (s:Nat),(es.foldl (λs e=>if Region.binds .any e then s ||| (2 ^ e.on ||| M.getD e.on 0) else s) s).testBit j=true ->
  s.testBit j=true\/∃e∈es,Region.binds .any e=true/\(e.on=j\/(M.getD e.on 0).testBit j=true)
 | [],s,h=>.inl h
 | e::es,s,h=>by
  rw[zap] at h;rcases yL M j es _ h with q | ⟨e',q1,q2⟩
  .split at q
   .rename_i hb;rw[Nat.testBit_or,Nat.testBit_or,me,me] at q;rcases q with q | q | q
    .exact .inl q
    .refine .inr ⟨e,zi ..,hb,.inl ?_⟩;rw[Nat.testBit_two_pow] at q;simpa using q
    .exact .inr ⟨e,zi ..,hb,.inr q⟩
   .exact .inl q
  .exact .inr ⟨e',zt _ q1,q2⟩
def pP(ops:Array Oper)(bar:List Nat)(M:Array Nat):Bool:=
 (List.range ops.size).all λx=>match ops[x]? with
  | some ox=>(M.getD x 0==Wr M ox.after.toList)&&(ox.after.toList.all λe => !Region.binds .any e||decide (e.on<x)) &&
   ((List.range x).all λj=>(M.getD x 0).testBit j||(match ops[j]? with
    | some oj=>oj.apart ops ox&&allowed (cls bar j oj.op) (cls bar x ox.op)
    | none=>true))
  | none=>true
theorem aQ{bar:List Nat}{M:Array Nat}(h:pP ops bar M=true){x:Nat}{ox:Oper}(hx:ops[x]? = some ox) :
  (∀j,(M.getD x 0).testBit j=true->∃e∈ox.after,Region.binds .any e=true/\(e.on=j\/(M.getD e.on 0).testBit j=true))/\(∀e∈ox.after,Region.binds .any e=true->e.on<x) /\
  (∀j oj,j<x->ops[j]? = some oj->(M.getD x 0).testBit j=true\/(oj.apart ops ox=true/\allowed (cls bar j oj.op) (cls bar x ox.op)=true)):=by
 have hlt:x<ops.size:=by
  rcases zB x ops.size with q | q
  .exact q
  .rw[zbp q] at hx;cases hx
 have:=zd.1 h x (by simpa using hlt);rw[hx] at this;simp only[zk,wf] at this;obtain⟨⟨h1,h2⟩,h3⟩:=this;refine⟨λj hj=>?_,λe he hb=>?_,λj oj hj hoj=>?_⟩
 .rw[h1] at hj;rcases yL M j _ _ hj with q | ⟨e,q1,q2⟩
  .simp at q
  .exact⟨e,by simpa using q1,q2⟩
 .simpa[hb] using zd.1 h2 e (by simpa using he)
 .have:=zd.1 h3 j (by simpa using hj);rw[hoj] at this;simp only[me,zk] at this;exact this
def dH(n:Nat)(listed:Array Bool):List Nat:=(List.range n).filter λi => !listed.getD i true
theorem fm(n:Nat)(listed:Array Bool):(dH n listed).Pairwise (· < ·):=zbv _ List.pairwise_lt_range
theorem xb{n:Nat}{listed:Array Bool}{i:Nat}{c1 c2:List Nat}(hsz:listed.size=n)(hi:i<n)(h:dH n listed=c1++i::c2):dH n (listed.setIfInBounds i true)=c1++c2:=by
 have hs:=fm n listed;rw[h] at hs;rw[za4] at hs;obtain⟨h1,h2,h3⟩:=hs;rw[ul] at h2;have e:dH n (listed.setIfInBounds i true)=(dH n listed).filter λj=>decide (j≠i):=by
  unfold dH;rw[List.filter_filter];refine za8 λj hj=>?_;have hj':j<n:=by simpa using hj
  by_cases q:j=i
  .subst q;simp[zE,hsz,hj']
  .rw[getD_set_ne (listed:=listed) (i:=i) (j:=j) true (zam q)];simp[q]
 rw[e,h,zan,n9,za (by simp)];congr 1;·exact zbc.2 λj hj=>by have:=h3 j hj i (zi ..);simp;omega
 .exact zbc.2 λj hj=>by have:=h2.1 j hj;simp;omega
theorem Iu{bar:List Nat}{M:Array Nat}{stF:St}(hd:eT X.N ops=true)(hr:pP ops bar M=true)(hQ:∀g' a' w',A3 X g' stF a' w'->Q .normal a' w') :
  ∀(fuel:Nat) (listed:Array Bool) (g:Gh) (st:St) (a:Act) (w:World),A3 X g st a w->listed.size=ops.size->(dH ops.size listed).length=fuel ->
   (∀i o,listed.getD i false=true->ops[i]? = some o->∀e∈o.after,Region.binds .any e=true->listed.getD e.on false=true) ->
   Cu X.P ops bar true (dH ops.size listed) st stF->wpAnyIn (FX ρ) n X.P .any ops Q fuel listed a w:=by
 intro fuel;have hfirst:∀(listed:Array Bool),listed.size=ops.size->∀i c,dH ops.size listed=i::c->i∈Region.ready .any ops listed:=by
  intro listed hsz i c h;have hmem:i∈dH ops.size listed:=by rw[h];simp
  obtain⟨hi1,hi2⟩:=zy.1 hmem;have hi:i<ops.size:=by simpa using hi1
  refine zy.2 ⟨hi1,?_⟩;rw[hi2,zak,zo hi];simp only[wd,zR];rw[za9];intro e he;cases hb:Region.binds .any e with
  | false=>rfl
  | true=>
  have hlt:=(aQ hr (zo hi)).2.1 e he hb;show (!true||_)=true;rw[me];right;cases hq:listed.getD e.on false with
  | true=>rfl
  | false=>
   exfalso;have hon:e.on∈dH ops.size listed:=zy.2 ⟨by simp;omega,by
    have:listed.getD e.on true=false:=by
     have hlt':e.on<listed.size:=by omega
     simp[zE,hlt'] at hq |-;exact hq
    rw[this];rfl⟩
   have hs:=fm ops.size listed;rw[h] at hs hon;rw[ul] at hs;rcases zJ.1 hon with q | q
   .omega
   .have:=hs.1 _ q;omega
 induction fuel with
 | zero=>
  intro listed g st a w h hsz hf _ hrun;have hnil:dH ops.size listed = []:=zG hf;rw[hnil] at hrun;have:st=stF:=hrun;subst this;refine⟨?_,hQ g a w h⟩;cases hq:Region.ready .any ops listed with
  | nil=>rfl
  | cons i l=>
   exfalso;have hm:i∈Region.ready .any ops listed:=by rw[hq];simp
   obtain⟨k1,k2⟩:=zy.1 hm;rw[zk] at k2;have:i∈dH ops.size listed:=zy.2 ⟨k1,k2.1⟩;rw[hnil] at this;cases this
 | succ fuel ih=>
  intro listed g st a w h hsz hf hdown hrun;refine⟨λhnil=>?_,λi hi=>?_⟩
  .exfalso;cases hq:dH ops.size listed with
   | nil=>rw[hq] at hf;simp at hf
   | cons j c=>
    have:=hfirst listed hsz j c hq;rw[hnil] at this;cases this
  .obtain⟨k1,k2⟩:=zy.1 hi;rw[zk] at k2;have hil:i<ops.size:=by simpa using k1
   have hget:=zo hil;have hirem:i∈dH ops.size listed:=zy.2 ⟨k1,k2.1⟩;obtain⟨c1,c2,hc⟩:=List.append_of_mem hirem;have hs:=fm ops.size listed;rw[hc] at hs hrun;rw[za4] at hs;have hafter:∀e∈ops[i].after,Region.binds .any e=true->listed.getD e.on false=true:=by
    have:=k2.2;rw[hget] at this;simp only[wd,zR] at this;rw[za9] at this;intro e he hb;have:=this e he;rw[hb] at this;simpa using this
   have hnotl:∀j∈c1,listed.getD j false=false:=by
    intro j hj;have:j∈dH ops.size listed:=by rw[hc];simp[hj]
    obtain⟨q1,q2⟩:=zy.1 this;have q2':listed.getD j true=false:=by simpa using q2
    rw[zE] at q2' |-;cases hq:listed[j]? with
    | none=>rfl
    | some b=>rw[hq] at q2';exact q2'
   have hwait:∀j,(M.getD i 0).testBit j=true->listed.getD j false=true:=by
    have key:∀(m k:Nat) (o:Oper),k<m->ops[k]? = some o->(∀e∈o.after,Region.binds .any e=true->listed.getD e.on false=true)->∀j,(M.getD k 0).testBit j=true->listed.getD j false=true:=by
     intro m;induction m with
     | zero=>intro k o hk;omega
     | succ m ihm=>
      intro k o hk ho haf j hj;obtain⟨e,he1,he2,he3⟩:=(aQ hr ho).1 j hj;have hl:=haf e he1 he2;rcases he3 with rfl | he3
      .exact hl
      .have hlt:=(aQ hr ho).2.1 e he1 he2;have hklt:k<ops.size:=by
        rcases zB k ops.size with q | q
        .exact q
        .rw[zbp q] at ho;cases ho
       exact ihm e.on _ (by omega) (zo (show e.on<ops.size by omega)) (λe' h1 h2=>hdown e.on _ hl (zo (show e.on<ops.size by omega)) e' h1 h2) j he3
    exact key (i+1) i _ (by omega) hget hafter
   have hind:∀j∈c1,∀oj,ops[j]? = some oj->oj.apart ops ops[i]=true/\allowed (cls bar j oj.op) (cls bar i ops[i].op)=true:=by
    intro j hj oj hoj;have hji:=hs.2.2 j hj i (zi ..);rcases (aQ hr hget).2.2 j oj hji hoj with q | q
    .have:=hwait j q;rw[hnotl j hj] at this;cases this
    .exact q
   obtain⟨σF,st',hst,hrest⟩:=xg hget c1 c2 st stF hind hrun;refine tP hget h hst (F4 hd hget) λg' a' w' h'=>?_;have hrem:=xb hsz hil hc;refine ih _ g' st' a' w' h' (by simpa using hsz) ?_ ?_ (by rw[hrem];exact hrest)
   .rw[hrem];rw[hc] at hf;simp at hf |-;omega
   .intro k o hk ho e he hb;by_cases q:k=i
    .subst q;rw[hget] at ho;cases ho;exact getD_set_true (hafter e he hb)
    .rw[getD_set_ne (listed:=listed) (i:=i) (j:=k) false (zam q)] at hk;exact getD_set_true (hdown k o hk ho e he hb)
end
end Go.Pw
namespace Go.Pw
open Go.RowKit
inductive PX where
 | normal
 | exit (id:Nat)
 | goto (l:Nat)
 | ret
def lift(X:Ctx)(Q:PX->Ctx->St->Prop):Exit->Act->World->Prop
 | .normal,a,w=>∃X' g st,A3 X' g st a w/\(X'.P=X.P/\X'.ρ=X.ρ)/\Q .normal X' st
 | .exit id,a,w=>∃X' g st,A3 X' g st a w/\(X'.P=X.P/\X'.ρ=X.ρ)/\Q (.exit id) X' st
 | .goto l,a,w=>∃X' g st,A3 X' g st a w/\(X'.P=X.P/\X'.ρ=X.ρ)/\Q (.goto l) X' st
 | .ret,a,w=>∃X' g st,A3 X' g st a w/\(X'.P=X.P/\X'.ρ=X.ρ)/\Q .ret X' st
 | .panic _,_,_=>False
 | .outgrown,_,_=>False
def X4(X:Ctx)(c:Code)(Q:PX->Ctx->St->Prop)(st:St):Prop:=∀(n:Nat) (g:Gh) (a:Act) (w:World),A3 X g st a w->c.wpIn (FX X.ρ) n X.P (lift X Q) a w
section
variable{X:Ctx}{Q:PX->Ctx->St->Prop}{st:St}
theorem X4.mono{c:Code}{Q':PX->Ctx->St->Prop}(h:X4 X c Q st)(hq:∀e X' s,Q e X' s->Q' e X' s):X4 X c Q' st:=λn g a w hs=>zbr (h n g a w hs) λe a' w' q=>by
 cases e <;> simp only[lift] at q |- <;> first | exact q | (obtain⟨X',g',st',h1,h3,h2⟩:=q;exact⟨X',g',st',h1,h3,hq _ _ _ h2⟩)
theorem e6(h:Q .normal X st):X4 X .skip Q st:=λn g a w hs=>wpIn_skip ⟨X,g,st,hs,⟨rfl,rfl⟩,h⟩
theorem wP{l:Nat}(h:Q .normal X st):X4 X (.label l) Q st:=λn g a w hs=>wpIn_label ⟨X,g,st,hs,⟨rfl,rfl⟩,h⟩
theorem y2{id:Nat}(h:Q (.exit id) X st):X4 X (.exit id) Q st:=λn g a w hs=>wpIn_exit ⟨X,g,st,hs,⟨rfl,rfl⟩,h⟩
theorem Hx{l:Nat}(h:Q (.goto l) X st):X4 X (.goto l) Q st:=λn g a w hs=>wpIn_goto ⟨X,g,st,hs,⟨rfl,rfl⟩,h⟩
theorem b9(h:Q .ret X st):X4 X .ret Q st:=λn g a w hs=>wpIn_ret ⟨X,g,st,hs,⟨rfl,rfl⟩,h⟩
def jb(N:Ctx->St->Prop)(Q:PX->Ctx->St->Prop):PX->Ctx->St->Prop
 | .normal,X,s=>N X s
 | e,X,s=>Q e X s
theorem rn{X X':Ctx}(h:X'.P=X.P/\X'.ρ=X.ρ):lift X' Q=lift X Q:=by
 funext e a w
 cases e <;> simp only[lift,h.1,h.2]
theorem l5{x y:Code}(h:X4 X x (jb (λX'=>X4 X' y Q) Q) st):X4 X (.seq x y) Q st:=λn g a w hs=>wpIn_seq (zbr (h n g a w hs) λe a' w' q=>by
 cases e <;> simp only[lift,jb,Exit.then] at q |- <;> first | exact q | (
  obtain⟨X',g',st',h1,h3,h2⟩:=q;have:=h2 n g' a' w' h1;rw[rn h3,h3.1,h3.2] at this;exact this))
theorem F3{c:Operand}{x y:Code}(b:Bool)(hc:y5 st.env c = .bool b)(hx:b=true->X4 X x Q st)(hy:b=false->X4 X y Q st):X4 X (.cond c x y) Q st:=λn g a w hs=>by
 have hv:=hs.eval c;rw[hc] at hv;refine wpIn_cond hv.eO ?_;cases b;·exact hy rfl n g a w hs
 .exact hx rfl n g a w hs
def sI(id:Nat)(Q:PX->Ctx->St->Prop):PX->Ctx->St->Prop
 | .exit id',X,s=>if id'=id then Q .normal X s else Q (.exit id') X s
 | e,X,s=>Q e X s
theorem n0 {id : Nat} {c : Code} (h : X4 X c (sI id Q) st) : X4 X (.block id c) Q st := fun n g a w hs => wpIn_block (zbr (h n g a w hs) fun e a' w' q => by
  cases e <;> simp only [lift, sI, Exit.inBlock] at q |- <;> first
    | exact q
    | (obtain ⟨X', g', st', h1, h3, h2⟩ := q
       split;· rename_i e; rw [zb e] at h2; exact ⟨X', g', st', h1, h3, h2⟩
       . rename_i e; rw [za e] at h2; exact ⟨X', g', st', h1, h3, h2⟩))
theorem exists_least{p:Nat->Prop}(h:∃m,p m):∃m,p m/\∀k,p k->m<=k:=by
 obtain⟨m,hm⟩:=h;induction m using Nat.strongRecOn with
 | _ m ih=>
  by_cases q:∃k,k<m/\p k
  .obtain⟨k,h1,h2⟩:=q;exact ih k h1 h2
  .exact⟨m,hm,λk hk=>Nat.le_of_not_lt λh=>q ⟨k,h,hk⟩⟩
theorem Qs{id:Nat}{ops:Array Oper}(bar:List Nat)(hm:X.P.follows .mixedOrders=true)(hd:eT X.N ops=true)(hr:pP ops bar (Region.before ops)=true)
  (h:∃s,Cu X.P ops bar true (List.range ops.size) st s/\Q .normal X s):X4 X (.region id ops true) Q st:=by
 intro n g a w hs;obtain⟨s,hrun,hq⟩:=h;have hrem:dH ops.size (Array.replicate ops.size false)=List.range ops.size:=zbc.2 λi hi=>by
  have:i<ops.size:=by simpa using hi
  simp[zE,this]
 refine wpIn_region_any hm (Iu hd hr (λg' a' w' h'=>⟨X,g',s,h',⟨rfl,rfl⟩,hq⟩) _ _ g st a _ hs.drew (by simp) (by rw[hrem];simp) (λi o hi=>?_) (by rw[hrem];exact hrun));exfalso;rw[zE,zbj] at hi;split at hi <;> cases hi
end
def L7(ds:List PV):Nat->PV:=λi=>ds.getD i (.tup [])
def Sl(P:Program)(st:St):ResultVar->PV->Prop
 | .tmp t,d=>y5 st.env (.tmp t)=d
 | .cell t T,d=>B9 P st.σ (y5 st.env) none (.load T (.tmp t)) d .none
def xM(P:Program)(st:St):List ResultVar->List PV->Prop
 | [],[]=>True
 | r::rs,d::ds=>Sl P st r d/\xM P st rs ds
 | _,_=>False
def fI:List PV->PV
 | [d]=>d
 | ds=>.tup ds
def Fin(P:Program)(fn:Func)(d:PV)(st:St):Prop:=
 ∃rs,xM P st fn.results.toList rs/\(fI rs).ky st.σ=true/\((fI rs).view st.σ=d\/((fI rs).view st.σ).w3=d)
def JJ(P:Program)(fn:Func)(r:Row)(st:St):Prop:=
 ∃t l,fn.results = #[.tmp t]/\y5 st.env (.tmp t) = .sl l/\st.σ l=some r/\r.cl=true
def NO(X:Ctx)(F:St->Prop):PX->Ctx->St->Prop
 | .normal,X',s | .ret,X',s=>X'=X/\F s
 | _,_,_=>False
section
variable{X:Ctx}{g:Gh}{st:St}{a:Act}{w:World}
def nI(tmps:Array Value):ResultVar->Sem Value
 | .tmp t=>pure (tmps.getD t undef)
 | .cell t T=>do loadVar T (<-asAddr (tmps.getD t undef))
theorem gX(fn:Func)(tmps:Array Value):results fn tmps=(do let vs <-fn.results.mapM (nI tmps);pure (if h:vs.size=1 then vs[0] else .tuple vs)):=by
 have:(λx:ResultVar=>match x with
   | .tmp t=>(pure (tmps.getD t undef):Sem Value)
   | .cell a t=>do loadVar t (<-asAddr (tmps.getD a undef)))=nI tmps:=by
  funext r
  cases r <;> rfl
 unfold results;rw[<-this];rfl
theorem HJ(h:A3 X g st a w){r:ResultVar}{d:PV}(hr:Sl X.P st r d) :
  ∃v,(nI a.tmps r).run X.P w = .ok v w/\Rd w g.imm g.μ st.p7 v d:=by
 cases r with
 | tmp t=>
  have:y5 st.env (.tmp t)=d:=hr;subst this;exact⟨_,rfl,h.KF t⟩
 | cell t T=>
  have hv:=h.KF t;have hr':B9 X.P st.σ (y5 st.env) none (.load T (.tmp t)) d .none:=hr;have key:∀(b o:Nat) (u:Value),a.tmps.getD t undef = .pointer (some ⟨b,o,none⟩)->(Instr.loadAt T (a.tmps.getD t undef)).run X.P w = .ok u w ->
    (do loadVar T (<-asAddr (a.tmps.getD t undef)):Sem Value).run X.P w = .ok u w:=by
   intro b o u e hrun;rw[e] at hrun |-;exact hrun
  cases hr' with
  | pureV _ _ hnd hnl h=>exact absurd rfl (hnl _ _)
  | mw _ _ l i f r y n hx hl hy ha hsz hf=>
   have hx':y5 st.env (.tmp t) = .ptr l i f:=hx;rw[hx'] at hv;obtain⟨u,h1,h2⟩:=h.mw hv hl hy ha hsz hf;obtain⟨_,b,s,_,e⟩:=hv.Y4;exact⟨u,key _ _ u e h1,h2⟩
  | jL _ _ l i f r y _ hx hl hy ha hf=>
   have hx':y5 st.env (.tmp t) = .ptr l i f:=hx;rw[hx'] at hv;obtain⟨u,h1,h2⟩:=h.jL hv hl hy ha hf;obtain⟨_,b,s,_,e⟩:=hv.Y4;exact⟨u,key _ _ u e h1,h2⟩
  | fv _ _ cs n hx ha hsz hf=>
   have hx':y5 st.env (.tmp t) = .rptr cs:=hx;rw[hx'] at hv;obtain⟨u,h1,h2⟩:=h.fv hv ha hsz hf;obtain⟨b,o,_,e,_⟩:=hv.bG;exact⟨u,key _ _ u e h1,h2⟩
  | fw _ _ cs _ hx ha hf=>
   have hx':y5 st.env (.tmp t) = .rptr cs:=hx;rw[hx'] at hv;obtain⟨u,h1,h2⟩:=h.fw hv ha hf;obtain⟨b,o,_,e,_⟩:=hv.bG;exact⟨u,key _ _ u e h1,h2⟩
theorem rR(h:A3 X g st a w):∀ {rs:List ResultVar} {ds:List PV},xM X.P st rs ds ->
  ∃vs:List Value,(rs.mapM (nI a.tmps)).run X.P w = .ok vs w/\vs.length=ds.length /\
   ∀(i:Nat) v d,vs[i]? = some v->ds[i]? = some d->Rd w g.imm g.μ st.p7 v d
 | [],[],_=>⟨[],rfl,rfl,λi v d hv=>by simp at hv⟩
 | r::rs,d::ds,hr=>by
  obtain⟨v,h1,h2⟩:=HJ h hr.1;obtain⟨vs,k1,k2,k3⟩:=rR h hr.2;refine⟨v::vs,?_,by simp[k2],λi v' d' hv hd=>?_⟩
  .rw[List.mapM_cons,zp,h1,zh,zp,k1,zh];rfl
  .cases i with
   | zero=>simp at hv hd;subst hv hd;exact h2
   | succ i=>exact k3 i v' d' (by simpa using hv) (by simpa using hd)
 | [],_::_,hr=>hr.elim
 | _::_,[],hr=>hr.elim
theorem HI(h:A3 X g st a w){fn:Func}{ds:List PV}(hr:xM X.P st fn.results.toList ds):∃v,(results fn a.tmps).run X.P w = .ok v w/\Rd w g.imm g.μ st.p7 v (fI ds):=by
 obtain⟨vs,k1,k2,k3⟩:=rR h hr;have hm:(fn.results.mapM (nI a.tmps)).run X.P w = .ok vs.toArray w:=by
  rw[Array.mapM_eq_mapM_toList];simp only[<-bind_pure_comp];rw[zp,k1];rfl
 by_cases h1:vs.length=1
 .match vs,h1,k1,k2,k3,hm with
  | [v],_,k1,k2,k3,hm=>
   match ds,k2,k3 with
   | [d],_,k3=>
    refine⟨v,?_,k3 0 v d rfl rfl⟩;rw[gX,zp,hm];rfl
 .refine⟨.tuple vs.toArray,?_,?_⟩
  .rw[gX,zp,hm];simp only[zh];rw[dif_neg (by simpa using h1)];rfl
  .have:fI ds = .tup ds:=by
    match ds,k2 with
    | [],_=>rfl
    | [d],k2=>simp at k2;exact absurd k2 h1
    | _::_::_,_=>rfl
   rw[this];exact .tup _ _ (by simpa using k2) λi v c hv hc=>k3 i v c (by simpa using hv) hc
theorem nr{fn:Func}{tmps:Array Value}{R:Ending->World->Prop}{P:Program}{n:Nat}{base:Nat}{v:Value}:∀(rs:List Nat) (w:World),rs.Nodup ->
  (∀r∈rs,w.heap[r]? = some (.deferred (some []))/\base<=r)->(∀w',jf base w w'->(∀(b o:Nat),w'.cell? ⟨b,o,none⟩=w.cell? ⟨b,o,none⟩/\w'.frozen? ⟨b,o,none⟩=w.frozen? ⟨b,o,none⟩)->w'.heap.size=w.heap.size->(∀(k:Nat) x,w.heap[k]? = some x->br x=true->w'.heap[k]? = some x)->(results fn tmps).run P w' = .ok v w'/\R (.returned v) w') ->
  LeavesInM Fence.wide n P fn tmps R (rs.map λr=>{ target:=.collected r,args:=#[] }) .returning w
 | [],w,_,_,hR=>by
  obtain⟨h1,h2⟩:=hR w (jf.refl _ _) (λ_ _=>⟨rfl,rfl⟩) rfl (λ_ _ q _=>q);exact⟨v,h1,h2⟩
 | r::rs,w,hn,hm,hR=>by
  rw[zaq] at hn;have hr:=hm r (by simp);have hlt:=(wl.1 hr.1).1;have hcell:∀b o,(w.putObj r (.deferred none)).cell? ⟨b,o,none⟩=w.cell? ⟨b,o,none⟩:=by
   intro b o;by_cases e:b=r
   .subst e;unfold World.cell?;simp only;rw[World.putObj_heap_same hlt,hr.1]
   .exact World.cell?_of_block (by rw[World.putObj_heap_other e])
  have hfro:∀b o,(w.putObj r (.deferred none)).frozen? ⟨b,o,none⟩=w.frozen? ⟨b,o,none⟩:=by
   intro b o;by_cases e:b=r
   .subst e;unfold World.frozen?;simp only;rw[World.putObj_heap_same hlt,hr.1]
   .unfold World.frozen?;simp only;rw[World.putObj_heap_other e]
  have hb:jf base w (w.putObj r (.deferred none)):=⟨⟨rfl,rfl,rfl,by simp,λk hk=>World.putObj_heap_other (by omega)⟩,zq _⟩;refine⟨(by intro q;cases q),.inl ⟨r,w.putObj r (.deferred none),rfl,?_,nr (base:=base) (v:=v) rs _ hn.2 (λk hk=>?_) λw' h1 h2 h3 h4=>?_⟩⟩;·exact run_takeDeferred hr.1
  .rw[World.putObj_heap_other (λe=>hn.1 (by rw[<-e];exact hk))];exact hm k (by simp[hk])
  .exact hR w' (hb.trans h1) (λb o=>⟨(h2 b o).1.trans (hcell b o),(h2 b o).2.trans (hfro b o)⟩) (by rw[h3];simp) (λk x hx hm=>h4 k x (by
    rw[World.putObj_heap_other (λe=>by rw[e,hr.1] at hx;cases hx;cases hm)];exact hx) hm)
theorem Je{P:Program}{f:FuncId}{fn:Func}{c:Code}{ds:List PV}{d:PV}(hf:P.funcs[f]? = some fn)(hb:fn.body=some c)(hn:ds.length<=fn.ntmps)(h6:fn.ntmps<=1000000)
  (h:∀X:Ctx,X.P=P->X.N=fn.ntmps->X.ρ=none->X.ext=(λ_=>undef)->X.obs = []->X.calm=false->X4 X c (NO X (Fin P fn d)) ⟨L7 ds,λ_=>none⟩):N7 P f ds d:=by
 intro w imm vs hlt hG hargs;let X:Ctx:={ P:=P,N:=fn.ntmps,ρ:=none,w0:=w,imm0:=imm,ext:=λ_=>undef,tab:=hG }
 let a0:Act:={ tmps:=vs++Array.replicate (fn.ntmps-vs.size) undef,defers:=[] }
 have hsim:A3 X ⟨imm,λ_=>⟨none,0,0,0⟩⟩ ⟨L7 ds,λ_=>none⟩ a0 w:=by
  refine⟨?_,λi=>?_,(λl r q=>by cases q),(λl l' r r' _ q=>by cases q),(λl r b o q=>by cases q),hlt,λb o q=>.inl q,λb o q=>q,jf.refl _ _,⟨[],List.nodup_nil,rfl,λr hr=>by cases hr⟩,λp hp=>(by cases hp),⟨h6,λ_=>rfl⟩,⟨λl r _ q=>(by cases q),λl l' r r' _ _ _ q=>(by cases q)⟩⟩
  .have:=hargs.1;simp only[a0,X,zbt,Array.size_replicate];omega
  .by_cases q6:i<1000000
   rotate_left
   .simp only[a0,L7,Ctx.val,za q6,X];rw[zf,t7 (by omega)];exact .cl (.tup #[] [] rfl λi v c _ hc=>by simp at hc)
   simp only[a0,L7,Ctx.val,zb q6];rw[zE,zf];rcases zB i vs.size with q | q
   .rw[pu q,zo q,zc (by rw[<-hargs.1];exact q)];exact .cl (hargs.2 i _ _ (zo q) (zc (by rw[<-hargs.1];exact q)))
   .rw[zac q,t7 (by rw[<-hargs.1];exact q),zbj];split;·exact .cl (.tup #[] [] rfl λi v c _ hc=>by simp at hc)
    .exact .cl (.tup #[] [] rfl λi v c _ hc=>by simp at hc)
 have key:∀(g:Gh) (st:St) (a:Act) (w':World),A3 X g st a w'->Fin P fn d st ->
   LeavesInM Fence.wide 0 P fn a.tmps (λe w'=>∃v,e = .returned v/\jf w.heap.size w w'/\Rd0 w' (fA imm w w') v d) a.defers .returning w':=by
  intro g st a w' hs hfin;obtain⟨rs,hnd,hdef,hmk⟩:=hs.marks;rw[hdef];have hbase:∃v,∀w'',jf w.heap.size w' w''->(∀b o,w''.cell? ⟨b,o,none⟩=w'.cell? ⟨b,o,none⟩)->w''.heap.size=w'.heap.size->(∀(k:Nat) x,w'.heap[k]? = some x->br x=true->w''.heap[k]? = some x) ->
    (results fn a.tmps).run P w'' = .ok v w''/\Rd0 w'' (fA imm w w'') v d:=by
   obtain⟨ds',hres,hok,hd⟩:=hfin;obtain⟨v,hrun,hrd⟩:=HI hs hres;refine⟨v,λw'' hbl hc hz hmaps=>?_⟩;have hrun':(results fn a.tmps).run P w'' = .ok v w'':=by
    have same:∀(r:ResultVar) (u:Value),r∈fn.results.toList->(nI a.tmps r).run P w' = .ok u w'->(∃d',Sl P st r d')->(nI a.tmps r).run P w'' = .ok u w'':=by
     rintro r u _ hu ⟨d',hr'⟩;cases r with
     | tmp t=>cases hu;rfl
     | cell t T=>
      have hr2:B9 P st.σ (y5 st.env) none (.load T (.tmp t)) d' .none:=hr';have hvt:=hs.KF t;have look:∀(b o:Nat),a.tmps.getD t undef = .pointer (some ⟨b,o,none⟩)->(loadVar T ⟨b,o,none⟩).run P w' = .ok u w' ->
        ((∃n,I9 P T=some true/\u0 P T=some n/\∀j,j<n->∃q,w'.cell? ⟨b,o+j,none⟩=some q)\/(I9 P T=some false/\∃q,w'.cell? ⟨b,o,none⟩=some q)) ->
        (nI a.tmps (.cell t T)).run P w'' = .ok u w'':=by
       intro b o e hl hcase;have goal:(loadVar T ⟨b,o,none⟩).run P w'' = .ok u w'':=by
        rcases hcase with ⟨n,h1,h2,h3⟩ | ⟨h1,q,h3⟩
        .have e1:=bM (w:=w') h1 h2 (λj=>(w'.cell? ⟨b,o+j,none⟩).getD undef) (λj hj=>by obtain⟨q,hq⟩:=h3 j hj;rw[hq];rfl);have e2:=bM (w:=w'') h1 h2 (λj=>(w'.cell? ⟨b,o+j,none⟩).getD undef) (λj hj=>by obtain⟨q,hq⟩:=h3 j hj;rw[hc,hq];rfl);rw[e1] at hl;cases hl;exact e2
        .have e1:=bN (w:=w') h1 h3;have e2:=bN (w:=w'') h1 (by rw[hc];exact h3);rw[e1] at hl;cases hl;exact e2
       simp only[nI,e];exact goal
      have hu2:∀(b o:Nat),a.tmps.getD t undef = .pointer (some ⟨b,o,none⟩)->(loadVar T ⟨b,o,none⟩).run P w' = .ok u w':=by
       intro b o e;simp only[nI,e] at hu;exact hu
      cases hr2 with
      | pureV _ _ hnd hnl h=>exact absurd rfl (hnl _ _)
      | mw _ _ l i f r y n hx' hl hy ha hsz hf=>
       have hx2:y5 st.env (.tmp t) = .ptr l i f:=hx';rw[hx2] at hvt;obtain⟨_,b,s,hA,e⟩:=hvt.Y4;refine look _ _ e (hu2 _ _ e) (.inl ⟨n,ha,hsz,λj hj=>?_⟩);obtain⟨q,h1,_⟩:=hs.cell_of hl hy (zc (show f+j<y.cells.length by omega)) hA;exact⟨q,by rw[so _ f j];exact h1⟩
      | jL _ _ l i f r y _ hx' hl hy ha hf=>
       have hx2:y5 st.env (.tmp t) = .ptr l i f:=hx';rw[hx2] at hvt;obtain⟨_,b,s,hA,e⟩:=hvt.Y4;obtain⟨q,h1,_⟩:=hs.cell_of hl hy hf hA;exact look _ _ e (hu2 _ _ e) (.inr ⟨ha,q,h1⟩)
      | fv _ _ cs n hx' ha hsz hf=>
       have hx2:y5 st.env (.tmp t) = .rptr cs:=hx';rw[hx2] at hvt;obtain⟨b,o,q,e,_,hq⟩:=hvt.bG;exact look _ _ e (hu2 _ _ e) (.inl ⟨n,ha,hsz,λj hj=>⟨_,(hq j _ (zc (show j<cs.length by omega))).2.1⟩⟩)
      | fw _ _ cs _ hx' ha hf=>
       have hx2:y5 st.env (.tmp t) = .rptr cs:=hx';rw[hx2] at hvt;obtain⟨b,o,q,e,_,hq⟩:=hvt.bG;exact look _ _ e (hu2 _ _ e) (.inr ⟨ha,_,by simpa using (hq 0 _ hf).2.1⟩)
    have all:∀(rs:List ResultVar) (ds:List PV) (vs:List Value),(∀r∈rs,r∈fn.results.toList)->xM P st rs ds->(rs.mapM (nI a.tmps)).run P w' = .ok vs w'->(rs.mapM (nI a.tmps)).run P w'' = .ok vs w'':=by
     intro rs;induction rs with
     | nil=>intro ds vs _ _ q;cases q;rfl
     | cons r rs ih=>
      intro ds vs hm hr q;cases ds with
      | nil=>exact hr.elim
      | cons d' ds=>
       obtain⟨u,h1,_⟩:=HJ (X:=X) hs hr.1;obtain⟨us,k1,_,_⟩:=rR (X:=X) hs hr.2;have h1':(nI a.tmps r).run P w' = .ok u w':=h1;have k1':(rs.mapM (nI a.tmps)).run P w' = .ok us w':=k1;rw[List.mapM_cons,zp,h1',zh,zp,k1',zh] at q;rw[List.mapM_cons,zp,same r u (hm r (by simp)) h1' ⟨d',hr.1⟩,zh,zp,ih ds us (λr hr=>hm r (by simp[hr])) hr.2 k1',zh];cases q;rfl
    obtain⟨us,k1,k2,_⟩:=rR (X:=X) hs hres;have k1':(fn.results.toList.mapM (nI a.tmps)).run P w' = .ok us w':=k1;have k3:=all fn.results.toList ds' us (λ_ q=>q) hres k1';have hm:∀w0:World,(fn.results.toList.mapM (nI a.tmps)).run P w0 = .ok us w0->(fn.results.mapM (nI a.tmps)).run P w0 = .ok us.toArray w0:=by
     intro w0 q;rw[Array.mapM_eq_mapM_toList];simp only[<-bind_pure_comp];rw[zp,q];rfl
    have r1:(results fn a.tmps).run P w' = .ok v w':=hrun;rw[gX,zp,hm w' k1'] at r1;rw[gX,zp,hm w'' k3];simp only[zh] at r1 |-;cases r1;rfl
   refine⟨hrun',?_⟩;have hX2:Ext w' g.imm w' (fA imm w w'):=⟨λb o q=>by
    rcases hs.immsub b o q with q' | q'
    .exact .inl q'
    .exact .inr ⟨q',hs.immlt b o q⟩,λ_ _ _=>rfl,λ_ _ _ _ q _=>q⟩
   have hv2:=hs.view (imm2:=fA imm w w') hX2 hrd hok (λl _ r hl i x j y b s hx' hy hA=>by
    obtain⟨b',s',u,q1,q2,_,q4,_⟩:=(hs.rows l r hl).cell i x j y hx' hy;rw[hA] at q1;cases q1;by_cases hi:i<r.lo
    .exact hX2.im _ _ (q4 hi)
    .have:=hs.bt hl ((hs.rows l r hl).PG hx' hy hA hi);exact .inr this)
   have hfin2:Rd0 w' (fA imm w w') v d:=by
    rcases hd with rfl | rfl
    .exact hv2
    .exact hv2.w3
   refine hfin2.mono ⟨λb o q=>?_,λb o _=>hc b o,λb o x q hx' hcl=>?_⟩
   .rcases q with q | ⟨q1,q2⟩
    .exact .inl q
    .exact .inr ⟨q1,by omega⟩
   .exact hmaps b x hx' hcl
  obtain⟨v,hv⟩:=hbase;exact nr rs w' hnd hmk λw'' h1 h2 h3 h4=>⟨(hv w'' h1 (λb o=>(h2 b o).1) h3 h4).1,v,rfl,hs.below.trans h1,(hv w'' h1 (λb o=>(h2 b o).1) h3 h4).2⟩
 have hcall:CallsIn Fence.wide 0 P f vs w λe w'=>∃v,e = .returned v/\jf w.heap.size w w'/\Rd0 w' (fA imm w w') v d:=by
  refine callsIn_of_wp_marks hf hb trivial ?_;refine zbr (h X rfl rfl rfl rfl rfl rfl 0 _ a0 w hsim) λe a w' q=>?_;cases e <;> simp only[lift,NO] at q
  .obtain⟨_,g,st,h1,_,hX,h2⟩:=q;rw[hX] at h1;exact key g st a w' h1 h2
  .obtain⟨_,g,st,h1,_,h2⟩:=q;exact h2.elim
  .obtain⟨_,g,st,h1,_,h2⟩:=q;exact h2.elim
  .obtain⟨_,g,st,h1,_,hX,h2⟩:=q;rw[hX] at h1;exact key g st a w' h1 h2
 exact callsIn_wide.1 hcall
theorem Fu{P:Program}{f:FuncId}{fn:Func}{c:Code}{ds:List PV}{r:Row}(hf:P.funcs[f]? = some fn)(hb:fn.body=some c)(hn:ds.length<=fn.ntmps)(h6:fn.ntmps<=1000000)
  (h:∀X:Ctx,X.P=P->X.N=fn.ntmps->X.ρ=none->X.ext=(λ_=>undef)->X.obs = []->X.calm=false->X4 X c (NO X (JJ P fn r)) ⟨L7 ds,λ_=>none⟩):kG P f ds r:=by
 intro w imm vs hlt hG hargs;let X:Ctx:={ P:=P,N:=fn.ntmps,ρ:=none,w0:=w,imm0:=imm,ext:=λ_=>undef,tab:=hG }
 let a0:Act:={ tmps:=vs++Array.replicate (fn.ntmps-vs.size) undef,defers:=[] }
 have hsim:A3 X ⟨imm,λ_=>⟨none,0,0,0⟩⟩ ⟨L7 ds,λ_=>none⟩ a0 w:=by
  refine⟨?_,λi=>?_,(λl r q=>by cases q),(λl l' r r' _ q=>by cases q),(λl r b o q=>by cases q),hlt,λb o q=>.inl q,λb o q=>q,jf.refl _ _,⟨[],List.nodup_nil,rfl,λr hr=>by cases hr⟩,λp hp=>(by cases hp),⟨h6,λ_=>rfl⟩,⟨λl r _ q=>(by cases q),λl l' r r' _ _ _ q=>(by cases q)⟩⟩
  .have:=hargs.1;simp only[a0,X,zbt,Array.size_replicate];omega
  .by_cases q6:i<1000000
   rotate_left
   .simp only[a0,L7,Ctx.val,za q6,X];rw[zf,t7 (by omega)];exact .cl (.tup #[] [] rfl λi v c _ hc=>by simp at hc)
   simp only[a0,L7,Ctx.val,zb q6];rw[zE,zf];rcases zB i vs.size with q | q
   .rw[pu q,zo q,zc (by rw[<-hargs.1];exact q)];exact .cl (hargs.2 i _ _ (zo q) (zc (by rw[<-hargs.1];exact q)))
   .rw[zac q,t7 (by rw[<-hargs.1];exact q),zbj];split;·exact .cl (.tup #[] [] rfl λi v c _ hc=>by simp at hc)
    .exact .cl (.tup #[] [] rfl λi v c _ hc=>by simp at hc)
 have key:∀(g:Gh) (st:St) (a:Act) (w':World),A3 X g st a w'->JJ P fn r st ->
   LeavesInM Fence.wide 0 P fn a.tmps (λe w'=>∃m:H6,e = .returned (.slice m.A m.n m.C)/\jf w.heap.size w w' /\
    mS w.heap.size w' (λb o=>fA imm w w' b o/\¬G9 m r b o) (λ_=>m) (λ_=>False) m r/\∀b o,G9 m r b o->w.heap.size<=b) a.defers .returning w':=by
  intro g st a w' hs hfin;obtain⟨rs,hnd,hdef,hmk⟩:=hs.marks;rw[hdef];obtain⟨t,l,hres,ht,hl,hcl⟩:=hfin;have hv:=hs.KF t;rw[ht] at hv;obtain⟨_,hv⟩:=hv.bz;have hR:=hs.rows l r hl;have hrun:∀w0:World,(results fn a.tmps).run P w0 = .ok (.slice (g.μ l).A (g.μ l).n (g.μ l).C) w0:=by
   intro w0;rw[<-hv];simp only[results,hres,List.mapM_toArray,zp];rfl
  refine nr rs w' hnd hmk λw'' h1 h2 h3 h4=>⟨hrun w'',g.μ l,rfl,hs.below.trans h1,?_,λb o ho=>(hR.own b o ho).1⟩;have hX:Ext w' g.imm w'' (λb o=>fA imm w w'' b o/\¬G9 (g.μ l) r b o):=by
   refine⟨λb o q=>⟨?_,λk=>hs.ownimm l r b o hl k q⟩,λb o _=>(h2 b o).1,λb o x q hx hcl=>h4 b x hx hcl⟩;rcases hs.immsub b o q with q' | q'
   .exact .inl q'
   .exact .inr ⟨q',by have:=hs.immlt b o q;omega⟩
  refine⟨hR.n,hR.z,hR.C,hR.lo,hR.el,hR.nil,hR.spot,λi x j y hx hy=>?_,λb o ho=>?_⟩
  .obtain⟨b,s,u,k1,k2,_,k4,k5⟩:=hR.cell i x j y hx hy;exact⟨b,s,u,k1,by rw[(h2 _ _).1];exact k2,.cl ((k5 hcl).mono hX),λq=>hX.im _ _ (k4 q),λ_=>(k5 hcl).mono hX⟩
  .obtain⟨k1,k2,k3⟩:=hR.own b o ho;exact⟨k1,by rw[(h2 _ _).1];exact k2,by rw[(h2 _ _).2];exact k3⟩
 have hcall:CallsIn Fence.wide 0 P f vs w λe w'=>∃m:H6,e = .returned (.slice m.A m.n m.C)/\jf w.heap.size w w' /\
    mS w.heap.size w' (λb o=>fA imm w w' b o/\¬G9 m r b o) (λ_=>m) (λ_=>False) m r/\∀b o,G9 m r b o->w.heap.size<=b:=by
  refine callsIn_of_wp_marks hf hb trivial ?_;refine zbr (h X rfl rfl rfl rfl rfl rfl 0 _ a0 w hsim) λe a w' q=>?_;cases e <;> simp only[lift,NO] at q
  .obtain⟨_,g,st,h1,_,hX,h2⟩:=q;rw[hX] at h1;exact key g st a w' h1 h2
  .obtain⟨_,g,st,h1,_,h2⟩:=q;exact h2.elim
  .obtain⟨_,g,st,h1,_,h2⟩:=q;exact h2.elim
  .obtain⟨_,g,st,h1,_,hX,h2⟩:=q;rw[hX] at h1;exact key g st a w' h1 h2
 exact callsIn_wide.1 hcall
end
end Go.Pw
namespace Go.Pw
open Go.RowKit
def Wk(s s':St):Prop:=∀(X:Ctx) (g:Gh) (a:Act) (w:World),A3 X g s a w->∃g',A3 X g' s' a w
theorem Wk.refl(s:St):Wk s s:=λX g a w h=>⟨g,h⟩
theorem Wk.trans{s s' s'':St}(h:Wk s s')(k:Wk s' s''):Wk s s'':=λX g a w q=>by
 obtain⟨g',q'⟩:=h X g a w q;exact k X g' a w q'
theorem cy{X:Ctx}{c:Code}{Q:PX->Ctx->St->Prop}{st st':St}(h:Wk st st')(hc:X4 X c Q st'):X4 X c Q st:=λn g a w hs=>by
 obtain⟨g',hs'⟩:=h X g a w hs;exact hc n g' a w hs'
theorem u4(s:St)(ls:List Nat):Wk s ⟨s.env,Q2 s.σ ls⟩:=λX g a w h=>by
 obtain⟨imm',h1,_⟩:=h.Q2 ls;exact⟨_,h1⟩
theorem Y7{s:St}{t l z:Nat}(ht:s.env t = .G8 true [])(hl:s.σ l=none)(hlm:l<MB:=by exact zD rfl):Wk s ⟨w7 s.env t (.sl l),w7 s.σ l (some ⟨[],0,true,z,true⟩)⟩:=λX g a w h=>by
 have hv:=h.env t;rw[ht] at hv;obtain⟨A,c,z',u,e,h1,h2,h3,_⟩:=hv.fS;have hc:=h2 rfl;simp only[zW] at hc e;subst hc;have hs:=h.vo (l:=l) (A:=A) (xs:=[]) (z:=z) hlm hl (λ_=>rfl) (λ_ q=>by cases q) (λq=>absurd q (zbz _)) true;refine⟨_,⟨hs.size,λi=>?_,hs.rows,hs.disj,hs.ownimm,hs.immlt,hs.immsub,hs.immsup,hs.below,hs.marks,hs.obs,hs.big,hs.maps⟩⟩;by_cases q:i=t
 .subst q;rw[show (St.mk (w7 s.env i (.sl l)) (w7 s.σ l (some ⟨[],0,true,z,true⟩))).env i = .sl l from o8 _ _ _,e];exact dy (m:=⟨A,0,0,z⟩) ⟨_,o8 _ _ _⟩ (o8 _ _ _)
 .rw[show (St.mk (w7 s.env t (.sl l)) (w7 s.σ l (some ⟨[],0,true,z,true⟩))).env i=s.env i from o5 _ _ q];exact hs.env i
def PV.BI(π:Nat->Nat):PV->PV
 | .sl l=>.sl (π l)
 | .mp l=>.mp (π l)
 | .ptr l i f=>.ptr (π l) i f
 | d=>d
def PV.rQ(π:Nat->Nat):PV->PV
 | .fn f cap=>.fn f (cap.map (PV.BI π))
 | d=>d.BI π
def PV.uH(π:Nat->Nat):PV->PV
 | .agg cs=>.agg (cs.map (PV.rQ π))
 | d=>d.rQ π
def PV.ug:PV->List Nat
 | .sl l=>[l]
 | .mp l=>[l]
 | .ptr l _ _=>[l]
 | _=>[]
def PV.yV:PV->List Nat
 | .fn _ cap=>cap.flatMap PV.ug
 | d=>d.ug
def PV.refs:PV->List Nat
 | .agg cs=>cs.flatMap PV.yV
 | d=>d.yV
section
variable{w:World}{imm:Nat->Nat->Prop}{μ μ':Nat->H6}{p7 pres':Nat->Prop}{π:Nat->Nat}
theorem Rd.Iz{v:Value}{d:PV}(h:Rd w imm μ p7 v d)(h1:∀l,d ≠ .sl l)(h2:∀l i f,d ≠ .ptr l i f)(h3:∀cs,d ≠ .agg cs)(h4:∀f cap,d ≠ .fn f cap)(h5:∀cs,d ≠ .tup cs)(h6:∀l,d ≠ .mp l):Rd w imm μ' pres' v d:=by
 cases h with
 | cl h=>exact .cl h
 | agg vs cs=>exact absurd rfl (h3 cs)
 | tup vs cs=>exact absurd rfl (h5 cs)
 | fn f vs cap=>exact absurd rfl (h4 f cap)
 | sl l=>exact absurd rfl (h1 l)
 | mp l=>exact absurd rfl (h6 l)
 | ptr l i f=>exact absurd rfl (h2 l i f)
theorem Rd.BI{v:Value}{d:PV}(ht:∀cs,d ≠ .tup cs)(ha:∀cs,d ≠ .agg cs)(hf:∀f cap,d ≠ .fn f cap)(h:Rd w imm μ p7 v (d.BI π))(hr:∀l∈d.ug,pres' l/\μ' l=μ (π l)/\(MB<=π l->MB<=l)):Rd w imm μ' pres' v d:=by
 by_cases e1:∃l,d = .sl l
 .obtain⟨l,rfl⟩:=e1;have h':Rd w imm μ p7 v (.sl (π l)):=h;obtain⟨_,rfl⟩:=h'.bz;obtain⟨k1,k2,_⟩:=hr l (by simp[PV.ug]);rw[<-k2];exact .sl l k1
 by_cases e2:∃l i f,d = .ptr l i f
 .obtain⟨l,i,f,rfl⟩:=e2;have h':Rd w imm μ p7 v (.ptr (π l) i f):=h;obtain⟨_,b,s,hA,rfl⟩:=h'.Y4;obtain⟨k1,k2,_⟩:=hr l (by simp[PV.ug]);rw[<-k2] at hA |-;exact .ptr l i f b s k1 hA
 by_cases e3:∃l,d = .mp l
 .obtain⟨l,rfl⟩:=e3;have h':Rd w imm μ p7 v (.mp (π l)):=h;obtain⟨_,h2,b,hA,rfl⟩:=h'.wD;obtain⟨k1,k2,k3⟩:=hr l (by simp[PV.ug]);exact .mp l b k1 (k3 h2) (by rw[k2];exact hA)
 .have e:d.BI π=d:=by cases d <;> first | rfl | exact absurd ⟨_,rfl⟩ e1 | exact absurd ⟨_,_,_,rfl⟩ e2 | exact absurd ⟨_,rfl⟩ e3
  rw[e] at h;exact h.Iz (λl q=>e1 ⟨l,q⟩) (λl i f q=>e2 ⟨l,i,f,q⟩) ha hf ht λl q=>e3 ⟨l,q⟩
theorem Rd.rQ{v:Value}{d:PV}(ht:∀cs,d ≠ .tup cs)(ha:∀cs,d ≠ .agg cs)(hc:∀f cap,d = .fn f cap->∀y∈cap,(∀cs,y ≠ .tup cs)/\(∀cs,y ≠ .agg cs)/\∀f cap,y ≠ .fn f cap)
  (h:Rd w imm μ p7 v (d.rQ π))(hr:∀l∈d.yV,pres' l/\μ' l=μ (π l)/\(MB<=π l->MB<=l)):Rd w imm μ' pres' v d:=by
 by_cases e1:∃f cap,d = .fn f cap
 .obtain⟨f,cap,rfl⟩:=e1;have h':Rd w imm μ p7 v (.fn f (cap.map (PV.BI π))):=h;obtain⟨vs,rfl,hn,hk⟩:=gC h';refine .fn f vs cap (by simpa using hn) λi v c hv hc'=>?_;have hm:=zg hc';obtain⟨q1,q2,q3⟩:=hc f cap rfl c hm;exact (hk i v _ hv (by rw[zL,hc'];rfl)).BI q1 q2 q3 λl hl=>hr l (n7.2 ⟨c,hm,hl⟩)
 .have e:d.rQ π=d.BI π:=by cases d <;> first | rfl | exact absurd ⟨_,_,rfl⟩ e1
  have e':d.yV=d.ug:=by cases d <;> first | rfl | exact absurd ⟨_,_,rfl⟩ e1
  rw[e] at h;rw[e'] at hr;exact h.BI ht ha (λf cap q=>e1 ⟨f,cap,q⟩) hr
def GG:PV->Bool
 | .fn _ cap=>cap.all λy=>match y with | .tup _ | .agg _ | .fn .. => false | _=>true
 | _=>true
def nG:PV->Bool
 | .tup _=>false
 | .agg cs=>cs.all GG
 | d=>GG d
theorem pX{d:PV}(h:GG d=true):∀f cap,d = .fn f cap->∀y∈cap,(∀cs,y ≠ .tup cs)/\(∀cs,y ≠ .agg cs)/\∀f cap,y ≠ .fn f cap:=by
 rintro f cap rfl y hy;have:=zd.1 h y hy;refine⟨λcs e=>?_,λcs e=>?_,λf cap e=>?_⟩ <;> (subst e;cases this)
theorem Rd.uH{v:Value}{d:PV}(hok:nG d=true)(h:Rd w imm μ p7 v (d.uH π))(hr:∀l∈d.refs,pres' l/\μ' l=μ (π l)/\(MB<=π l->MB<=l)):Rd w imm μ' pres' v d:=by
 by_cases e1:∃cs,d = .agg cs
 .obtain⟨cs,rfl⟩:=e1;have h':Rd w imm μ p7 v (.agg (cs.map (PV.rQ π))):=h;obtain⟨vs,rfl,hn,hk⟩:=h'.fL;have hsc:=h'.Aw;simp only[nG,zd] at hok;rw[zd] at hsc;have hsc':∀c∈cs,c.sc=true:=λc hc=>by
   have:=hsc (c.rQ π) (zI.2 ⟨c,hc,rfl⟩);cases c <;> first | rfl | exact this
  refine .agg vs cs (zd.2 hsc') (by simpa using hn) λi v c hv hc=>?_;have hm:=zg hc;refine (hk i v _ hv (by rw[zL,hc];rfl)).rQ (λes q=>?_) (λes q=>?_) (pX (hok c hm)) λl hl=>hr l (n7.2 ⟨c,hm,hl⟩);·have:=hsc' c hm;rw[q] at this;cases this
  .have:=hsc' c hm;rw[q] at this;cases this
 .have e:d.uH π=d.rQ π:=by cases d <;> first | rfl | exact absurd ⟨_,rfl⟩ e1
  have e':d.refs=d.yV:=by cases d <;> first | rfl | exact absurd ⟨_,rfl⟩ e1
  have e2:∀cs,d ≠ .tup cs:=λcs q=>by subst q;cases hok
  have e3:GG d=true:=by cases d <;> first | exact hok | exact absurd ⟨_,rfl⟩ e1 | cases hok
  rw[e] at h;rw[e'] at hr;exact h.rQ e2 (λcs q=>e1 ⟨cs,q⟩) (pX e3) hr
end
def KG(L:List (Nat × PV)):Nat->PV:=λi=>(L.lookup i).getD .junk
def rowsOf(R:List (Nat × Row)):Nat->Option Row:=λi=>R.lookup i
def St.of(L:List (Nat × PV))(R:List (Nat × Row)):St:=⟨KG L,rowsOf R⟩
theorem bW{α:Type}{L:List (Nat × α)}{i:Nat}{x:α}(h:L.lookup i=some x):(i,x)∈L:=by
 induction L with
 | nil=>cases h
 | cons p L ih=>
  obtain⟨k,y⟩:=p;rw[List.lookup_cons] at h;split at h
  .rename_i q;have:i=k:=by simpa using q
   subst this;cases h;exact zi ..
  .exact zt _ (ih h)
def RQ(l m:Nat)(c c':Bool):Bool:=(decide (MB<=l)==decide (MB<=m))&&(decide (l<MB)||c==c')
def iB(π:Nat->Nat)(R:List (Nat × Row))(σ:Nat->Option Row)(p:Nat × Row):Prop:=
 ∃r,σ (π p.1)=some r/\RQ p.1 (π p.1) r.cl p.2.cl=true/\r.z=p.2.z/\r.lo=p.2.lo/\(p.2.opn=true->r.opn=true)/\(p.2.cl=true->r.cl=true) /\
  ((p.2.cl=true/\r.els=p.2.els)\/(p.2.cl=false/\r.els=p.2.els.map (PV.uH π)/\p.2.els.all nG=true/\(p.2.els.flatMap PV.refs).all (λl=>(R.lookup l).isSome)=true))
theorem Ig{s:St}(π:Nat->Nat)(L:List (Nat × PV))(R:List (Nat × Row))(he:∀p∈L,s.env p.1=p.2.uH π/\nG p.2=true/\p.2.refs.all (λl=>(R.lookup l).isSome)=true)
  (hr:∀p∈R,iB π R s.σ p)(hi:∀p∈R,∀q∈R,π p.1=π q.1->p.1=q.1):∀(X:Ctx) (g:Gh) (a:Act) (w:World),A3 X g s a w->A3 X ⟨g.imm,λl=>g.μ (π l)⟩ (St.of L R) a w:=by
 intro X g a w h;have hget:∀l r',rowsOf R l=some r'->iB π R s.σ (l,r'):=λl r' q=>hr _ (bW q);have hmap:∀l r',rowsOf R l=some r'->(MB<=l↔MB<=π l)/\(MB<=l->∃r,s.σ (π l)=some r/\r.cl=r'.cl/\(∀es,r.els = [.mapc es]->r'.els = [.mapc es])):=λl r' q=>by
  obtain⟨r,h1,h2,_,_,_,_,h6⟩:=hget l r' q;simp only[RQ,zk,wf,me,t6,zbh] at h2;refine⟨h2.1,λh=>⟨r,h1,h2.2.elim (λk=>absurd h (Nat.not_le.2 k)) id,λes he=>?_⟩⟩;rcases h6 with ⟨_,h6⟩ | ⟨_,h6,_⟩;·exact h6▸he
  .simp only at h6;rw[he] at h6;match hq:r'.els with
   | []=>rw[hq] at h6;simp at h6
   | _::_::_=>rw[hq] at h6;simp at h6
   | [x]=>
    rw[hq] at h6;simp only[ww,List.map_nil,List.cons.injEq,and_true] at h6;cases x <;> first | (cases h6;rfl) | cases h6
 have hx:∀(l:Nat),(R.lookup l).isSome=true->St.p7 (St.of L R) l/\g.μ (π l)=g.μ (π l)/\(MB<=π l->MB<=l):=λl q=>by
  obtain⟨r,hr⟩:=zai.1 q;exact⟨⟨r,hr⟩,rfl,(hmap l r hr).1.2⟩
 have hsub:∀l r' r,r.els.length=r'.els.length->r.z=r'.z->r.lo=r'.lo->(r'.opn=true->r.opn=true)->∀b o,G9 (g.μ (π l)) r' b o->s.σ (π l)=some r->G9 (g.μ (π l)) r b o:=by
  rintro l r' r h1 h2 h3 h4 b o ⟨s',hA,k1,k2⟩ hl;refine⟨s',hA,by rw[h3];exact k1,?_⟩;have hC:=(h.rows _ r hl).C;have:(if r'.opn then (g.μ (π l)).C else (g.μ (π l)).n)*(g.μ (π l)).z<=(if r.opn then (g.μ (π l)).C else (g.μ (π l)).n)*(g.μ (π l)).z:=zn _ (by
   cases q:r'.opn;·simp only[zm,zY];split <;> omega
   .rw[h4 q];exact zq _)
  omega
 have hlen:∀l r',rowsOf R l=some r'->∃r,s.σ (π l)=some r/\r.els.length=r'.els.length/\r.z=r'.z/\r.lo=r'.lo/\(r'.opn=true->r.opn=true):=by
  intro l r' q;obtain⟨r,h1,_,h2,h3,h4,_,h6⟩:=hget l r' q;refine⟨r,h1,?_,h2,h3,h4⟩;rcases h6 with ⟨_,h6⟩ | ⟨_,h6,_⟩;·rw[h6]
  .rw[h6];simp
 refine⟨h.size,λi=>?_,λl r' q=>?_,λl l' r r' hne q q' b o ho=>?_,λl r' b o q ho=>?_,h.immlt,h.immsub,h.immsup,h.below,h.marks,h.obs,h.big,⟨λl r' hl q=>?_,λl l' r r' hl hl' hne q q' hc=>?_⟩⟩
 .show Rd w g.imm (λl=>g.μ (π l)) (St.p7 (St.of L R)) _ ((L.lookup i).getD .junk);cases hq:L.lookup i with
  | none=>exact .cl (.junk _)
  | some d=>
   obtain⟨k1,k2,k3⟩:=he (i,d) (bW hq);have hv:=h.env i;rw[k1] at hv;exact hv.uH k2 λl hl=>hx l (zd.1 k3 l hl)
 .obtain⟨r,h1,_,h2,h3,h4,h5,h6⟩:=hget l r' q;simp only at h1 h2 h3 h4 h5 h6;have hR:=h.rows _ r h1;obtain⟨_,_,hl,_⟩:=hlen l r' q;have hl2:r.els.length=r'.els.length:=by
   rcases h6 with ⟨_,h6⟩ | ⟨_,h6,_⟩;·rw[h6]
   .rw[h6];simp
  have hcellz:∀(d:PV),(d.uH π).cells.length=d.cells.length:=λd=>by
   cases d <;> first | rfl | simp[PV.uH,PV.cells]
  have helz:∀(d:PV),(d.uH π).el=true->d.el=true:=λd=>by
   cases d <;> first | exact λq=>q | skip
   intro q;simp only[PV.uH,PV.el,zd] at q |-;intro c hc;have:=q (c.rQ π) (zI.2 ⟨c,hc,rfl⟩);cases c <;> first | rfl | exact this
  refine⟨by rw[<-hl2];exact hR.n,by rw[<-h2];exact hR.z,hR.C,by rw[<-h3];exact hR.lo,λx hx'=>?_,hR.nil,hR.spot,λi x j y hx' hy=>?_,λb o ho=>hR.own b o (hsub l r' r hl2 h2 h3 h4 b o ho h1)⟩
  .rcases h6 with ⟨_,h6⟩ | ⟨_,h6,_⟩;·rw[<-h2];exact hR.el x (by rw[h6];exact hx')
   .have:=hR.el (x.uH π) (by rw[h6];exact zI.2 ⟨x,hx',rfl⟩);exact⟨helz x this.1,by rw[<-hcellz,<-h2];exact this.2⟩
  .rcases h6 with ⟨hc,h6⟩ | ⟨hnc,h6,h7,h8⟩
   .obtain⟨b,s',u,k1,k2,k3,k4,k5⟩:=hR.cell i x j y (by rw[h6];exact hx') hy;exact⟨b,s',u,k1,k2,.cl (k5 (h5 hc)),by rw[<-h3];exact k4,λ_=>k5 (h5 hc)⟩
   .have hm:=zg hx';have hxr:r.els[i]? = some (x.uH π):=by rw[h6,zL,hx'];rfl
    have hok:=zd.1 h7 x hm;have hrefs:∀l'∈x.refs,(R.lookup l').isSome=true:=λl' hl'=>zd.1 h8 l' (n7.2 ⟨x,hm,hl'⟩);have hyr:∃y',(x.uH π).cells[j]? = some y'/\∀v,Rd w g.imm g.μ s.p7 v y'->Rd w g.imm (λl=>g.μ (π l)) (St.p7 (St.of L R)) v y:=by
     by_cases e:∃cs,x = .agg cs
     .obtain⟨cs,rfl⟩:=e;have hy':cs[j]? = some y:=hy;refine⟨y.rQ π,by show (cs.map (PV.rQ π))[j]? = _;rw[zL,hy'];rfl,λv hv=>?_⟩;have hmy:=zg hy';simp only[nG,zd] at hok;have hel:=helz _ (hR.el _ (zg hxr)).1;have hsc:=PV.qP hel y (by exact hmy);exact hv.rQ (λes q=>by rw[q] at hsc;cases hsc) (λes q=>by rw[q] at hsc;cases hsc) (pX (hok y hmy)) λl' hl'=>hx l' (hrefs l' (n7.2 ⟨y,hmy,hl'⟩))
     .have hxc:x.cells = [x]:=by cases x <;> first | rfl | exact absurd ⟨_,rfl⟩ e | cases hy
      rw[hxc] at hy;have hj:j=0/\y=x:=by
       cases j with
       | zero=>simp at hy;exact⟨rfl,hy.symm⟩
       | succ j=>simp at hy
      obtain⟨rfl,rfl⟩:=hj;have hrc:(y.uH π).cells = [y.uH π]:=by cases y <;> first | rfl | exact absurd ⟨_,rfl⟩ e | cases hxc
      exact⟨y.uH π,by rw[hrc];rfl,λv hv=>hv.uH hok λl' hl'=>hx l' (hrefs l' hl')⟩
    obtain⟨y',hy',hrd⟩:=hyr;obtain⟨b,s',u,k1,k2,k3,k4,k5⟩:=hR.cell i (x.uH π) j y' hxr hy';exact⟨b,s',u,k1,k2,hrd u k3,by rw[<-h3];exact k4,λq'=>by rw[hnc] at q';cases q'⟩
 .obtain⟨r0,k0,k1,k2,k3,k4⟩:=hlen l r q;obtain⟨r1,m0,m1,m2,m3,m4⟩:=hlen l' r' q';exact λk=>h.disj (π l) (π l') r0 r1 (λe=>hne (hi (l,r) (bW q) (l',r') (bW q') e)) k0 m0 b o (hsub l r r0 k1 k2 k3 k4 b o ho k0) (hsub l' r' r1 m1 m2 m3 m4 b o k m0)
 .obtain⟨r0,k0,k1,k2,k3,k4⟩:=hlen l r' q;exact h.ownimm (π l) r0 b o k0 (hsub l r' r0 k1 k2 k3 k4 b o ho k0)
 .obtain⟨k1,k2⟩:=hmap l r' q;obtain⟨r,k3,k4,k5⟩:=k2 hl;obtain⟨b,es,m1,m2,m3,m4,m5,m6⟩:=h.maps.at_ (π l) r (k1.1 hl) k3;exact⟨b,es,k5 es m1,m2,m3,m4,λc=>m5 (by rw[k4];exact c),λc=>m6 (by rw[k4];exact c)⟩
 .obtain⟨k1,k2⟩:=hmap l r q;obtain⟨k1',k2'⟩:=hmap l' r' q';obtain⟨r0,k3,k4,_⟩:=k2 hl;obtain⟨r1,k3',k4',_⟩:=k2' hl';exact h.maps.apart (π l) (π l') r0 r1 (k1.1 hl) (k1'.1 hl') (λe=>hne (hi (l,r) (bW q) (l',r') (bW q') e)) k3 k3' (by rw[k4];exact hc)
theorem Vo{s:St}(π:Nat->Nat)(L:List (Nat × PV))(R:List (Nat × Row))(he:∀p∈L,s.env p.1=p.2.uH π/\nG p.2=true/\p.2.refs.all (λl=>(R.lookup l).isSome)=true)
  (hr:∀p∈R,iB π R s.σ p)(hi:∀p∈R,∀q∈R,π p.1=π q.1->p.1=q.1):Wk s (St.of L R):=λX g a w h=>⟨_,Ig π L R he hr hi X g a w h⟩
end Go.Pw
namespace Go.Pw
open Go.RowKit
def Ex(P:Program)(ops:Array Oper)(bar:List Nat)(dr:Bool):Nat->List Oper->St->(St->Prop)->Prop
 | _,[],st,K=>K st
 | i,o::os,st,K=>∃s,NW P ops dr (kept bar) (cls bar i o.op) o st s/\Ex P ops bar dr (i+1) os s K
theorem xj{P:Program}{bar:List Nat}{dr:Bool}{K:St->Prop}{ops:Array Oper}:∀(os:List Oper) (i:Nat) (st:St),(∀j,os[j]? = ops[i+j]?)->Ex P ops bar dr i os st K->∃s,Cu P ops bar dr (List.range' i os.length) st s/\K s
 | [],_,st,_,h=>⟨st,rfl,h⟩
 | o::os,i,st,hi,h=>by
  obtain⟨s,h1,h2⟩:=h;obtain⟨s',k1,k2⟩:=xj os (i+1) s (λj=>by have:=hi (j+1);simpa[so,za6 1 j] using this) h2;exact⟨s',⟨o,s,by have:=hi 0;simpa using this.symm,h1,k1⟩,k2⟩
section
variable{X:Ctx}{Q:PX->Ctx->St->Prop}{st:St}
theorem wO{id:Nat}{l:List Oper}(bar:List Nat)(hm:X.P.follows .mixedOrders=true)(hd:eT X.N l.toArray=true)(hr:pP l.toArray bar (Region.before l.toArray)=true)
  (h:Ex X.P l.toArray bar true 0 l st (Q .normal X)):X4 X (.region id l.toArray true) Q st:=by
 refine Qs bar hm hd hr ?_;have:=xj (ops:=l.toArray) l 0 st (λj=>by simp) h;simpa[List.range_eq_range'] using this
variable{P:Program}{ops:Array Oper}{bar:List Nat}{dr:Bool}{i:Nat}{os:List Oper}{K:St->Prop}{env:Nat->PV}{σ:Nat->Option Row}
theorem NH{t:Tmp}{op:Op}{ty:TypeId}{pos:String}{after:Array Edge}{gd:Option (Nat × Bool)}(hw:B1 ops env ⟨some t,op,ty,pos,after,gd⟩=some false)
  (k:Ex P ops bar dr (i+1) os ⟨w7 env t (.tup []),σ⟩ K):Ex P ops bar dr i (⟨some t,op,ty,pos,after,gd⟩::os) ⟨env,σ⟩ K:=⟨_,.skip hw,k⟩
theorem x0{t:Tmp}{op:Op}{ty:TypeId}{pos:String}{after:Array Edge}{gd:Option (Nat × Bool)}{d:PV}(hw:B1 ops env ⟨some t,op,ty,pos,after,gd⟩=some true)
  (h:B9 P σ (y5 env) (some t) op d .none)(hc:dr=true->dI (cls bar i op) .none (∀σ',E1 (kept bar) σ σ'->B9 P σ' (y5 env) (some t) op d .none))(k:Ex P ops bar dr (i+1) os ⟨w7 env t d,σ⟩ K) :
  Ex P ops bar dr i (⟨some t,op,ty,pos,after,gd⟩::os) ⟨env,σ⟩ K:=⟨_,.run d .none hw h ⟨E6.refl _,E1.refl _⟩ trivial (λ_=>rfl) hc,k⟩
theorem x7{t:Tmp}{op:Op}{ty:TypeId}{pos:String}{after:Array Edge}{gd:Option (Nat × Bool)}{d:PV}(hw:B1 ops env ⟨some t,op,ty,pos,after,gd⟩=some true)
  (h:∀σ',E1 (kept bar) σ σ'->B9 P σ' (y5 env) (some t) op d .none)(h7:cls bar i op=7)(k:Ex P ops bar dr (i+1) os ⟨w7 env t d,σ⟩ K) :
  Ex P ops bar dr i (⟨some t,op,ty,pos,after,gd⟩::os) ⟨env,σ⟩ K:=⟨_,.run d .none hw (h σ (E1.refl _)) ⟨E6.refl _,E1.refl _⟩ trivial (λ_=>rfl) (λ_=>by rw[h7];exact⟨rfl,h⟩),k⟩
theorem x1{t:Tmp}{op:Op}{ty:TypeId}{pos:String}{after:Array Edge}{gd:Option (Nat × Bool)}{d:PV}{r:Row}(hw:B1 ops env ⟨some t,op,ty,pos,after,gd⟩=some true)
  (h:B9 P σ (y5 env) (some t) op d (.new t r))(hf:σ t=none)(ht:dr=true->(U1.new t r).off (kept bar)=true)(hc:dr=true->dI (cls bar i op) (.new t r) (∀σ',E1 (kept bar) σ σ'->B9 P σ' (y5 env) (some t) op d (.new t r)))(k:Ex P ops bar dr (i+1) os ⟨w7 env t d,w7 σ t (some r)⟩ K) :
  Ex P ops bar dr i (⟨some t,op,ty,pos,after,gd⟩::os) ⟨env,σ⟩ K:=⟨_,.run d (.new t r) hw h ⟨E6.refl _,E1.refl _⟩ hf ht hc,k⟩
theorem Sg{op:Op}{ty:TypeId}{pos:String}{after:Array Edge}{gd:Option (Nat × Bool)}{l j f:Nat}{cs es:List PV}{q:Row}{x x':PV}{cl:Bool}(hw:B1 ops env ⟨none,op,ty,pos,after,gd⟩=some true)
  (h:B9 P σ (y5 env) none op (.tup []) (.sto l j f cs))(hl:σ l=some q)(hx:q.els[j]? = some x)(hlo:q.lo<=j)(hf:f+cs.length<=x.cells.length)(hsc:cs.all PV.sc=true)(hcl:(q.cl&&cs.all PV.Z0)=cl)
  (he:G5 x f cs=x')(hes:q.els.set j x'=es)(ht:dr=true->(U1.sto l j f cs).off (kept bar)=true)(hc:dr=true->dI (cls bar i op) (.sto l j f cs) (∀σ',E1 (kept bar) σ σ'->B9 P σ' (y5 env) none op (.tup []) (.sto l j f cs)))(k:Ex P ops bar dr (i+1) os ⟨env,w7 σ l (some ⟨es,q.lo,q.opn,q.z,cl⟩)⟩ K) :
  Ex P ops bar dr i (⟨none,op,ty,pos,after,gd⟩::os) ⟨env,σ⟩ K:=by
 refine⟨_,.run (.tup []) (.sto l j f cs) hw h ⟨E6.refl _,E1.refl _⟩ ⟨q,x,hl,hx,hlo,hf,hsc⟩ ht hc,?_⟩;subst he;subst hes;subst hcl;simp only[U1.apply,hl,hx];exact k
theorem Xc{t:Tmp}{op:Op}{ty:TypeId}{pos:String}{after:Array Edge}{gd:Option (Nat × Bool)}{d:PV}{s:Nat}{r q:Row}(hw:B1 ops env ⟨some t,op,ty,pos,after,gd⟩=some true)
  (h:B9 P σ (y5 env) (some t) op d (.app s t r))(hf:σ t=none)(hq:σ s=some q)(ho:q.opn=true)(ht:dr=true->(U1.app s t r).off (kept bar)=true)(hc:dr=true->dI (cls bar i op) (.app s t r) (∀σ',E1 (kept bar) σ σ'->B9 P σ' (y5 env) (some t) op d (.app s t r)))
  (k:Ex P ops bar dr (i+1) os ⟨w7 env t d,w7 (w7 σ s (some ⟨q.els,q.els.length,false,q.z,q.cl⟩)) t (some r)⟩ K) :
  Ex P ops bar dr i (⟨some t,op,ty,pos,after,gd⟩::os) ⟨env,σ⟩ K:=by
 refine⟨_,.run d (.app s t r) hw h ⟨E6.refl _,E1.refl _⟩ ⟨hf,q,hq,ho⟩ ht hc,?_⟩;simp only[U1.apply,hq];exact k
theorem Xd{t:Tmp}{op:Op}{ty:TypeId}{pos:String}{after:Array Edge}{gd:Option (Nat × Bool)}{d:PV}(hw:B1 ops env ⟨some t,op,ty,pos,after,gd⟩=some true)
  (h:B9 P σ (y5 env) (some t) op d (.mo []))(hc:dr=true->dI (cls bar i op) (.mo []) (∀σ',E1 (kept bar) σ σ'->B9 P σ' (y5 env) (some t) op d (.mo [])))(k:Ex P ops bar dr (i+1) os ⟨w7 env t d,σ⟩ K) :
  Ex P ops bar dr i (⟨some t,op,ty,pos,after,gd⟩::os) ⟨env,σ⟩ K:=⟨_,.run d (.mo []) hw h ⟨E6.refl _,E1.refl _⟩ trivial (λ_=>rfl) hc,k⟩
end
theorem Ms{P:Program}{f:FuncId}{fn:Func}{c:Code}{ds:List PV}{d:PV}{N:Nat}(hf:P.funcs[f]? = some fn)(hb:fn.body=some c)(hN:fn.ntmps=N)(hn:ds.length<=N)
  (h:∀(w0:WG P) imm0,X4 { P:=P,N:=N,ρ:=none,w0:=w0.1,imm0:=imm0,tab:=w0.2 } c (NO { P:=P,N:=N,ρ:=none,w0:=w0.1,imm0:=imm0,tab:=w0.2 } (Fin P fn d)) ⟨L7 ds,λ_=>none⟩)(h6:N<=1000000:=by exact zD rfl):N7 P f ds d:=by
 refine Je hf hb (by rw[hN];exact hn) (by rw[hN];exact h6) ?_;rintro⟨P',N',ρ',w0,imm0,ext,obs,calm,tab⟩ hP hN' hρ hext hobs hcalm;simp only at hP hN' hρ hext hobs hcalm;subst hP hN' hρ hext hobs hcalm hN;exact h ⟨w0,tab⟩ imm0
theorem Jd{P:Program}{f:FuncId}{fn:Func}{c:Code}{ds:List PV}{r:Row}{N:Nat}(hf:P.funcs[f]? = some fn)(hb:fn.body=some c)(hN:fn.ntmps=N)(hn:ds.length<=N)
  (h:∀(w0:WG P) imm0,X4 { P:=P,N:=N,ρ:=none,w0:=w0.1,imm0:=imm0,tab:=w0.2 } c (NO { P:=P,N:=N,ρ:=none,w0:=w0.1,imm0:=imm0,tab:=w0.2 } (JJ P fn r)) ⟨L7 ds,λ_=>none⟩)(h6:N<=1000000:=by exact zD rfl):kG P f ds r:=by
 refine Fu hf hb (by rw[hN];exact hn) (by rw[hN];exact h6) ?_;rintro⟨P',N',ρ',w0,imm0,ext,obs,calm,tab⟩ hP hN' hρ hext hobs hcalm;simp only at hP hN' hρ hext hobs hcalm;subst hP hN' hρ hext hobs hcalm hN;exact h ⟨w0,tab⟩ imm0
theorem l4{K:Ctx->St->Prop}{Q:PX->Ctx->St->Prop}{i:Nat}{X:Ctx}{s:St}(h:Q (.exit i) X s):jb K Q (.exit i) X s:=h
theorem r8{id:Nat}{Q:PX->Ctx->St->Prop}{X:Ctx}{s:St}(h:Q .normal X s):sI id Q (.exit id) X s:=by
 simp only[sI,zU];exact h
theorem aY{id id':Nat}{Q:PX->Ctx->St->Prop}{X:Ctx}{s:St}(hne:id'≠id)(h:Q (.exit id') X s):sI id Q (.exit id') X s:=by
 simp only[sI,za hne];exact h
def Ag(R:List (Nat × Row))(s:St):List (Nat × PV)->Prop
 | []=>True
 | (i,d)::L=>s.env i=d.uH id/\nG d=true/\d.refs.all (λl=>(R.lookup l).isSome)=true/\Ag R s L
def Ar(R0:List (Nat × Row))(s:St):List (Nat × Row)->Prop
 | []=>True
 | p::R=>iB id R0 s.σ p/\Ar R0 s R
theorem ND{s:St}(L:List (Nat × PV))(R:List (Nat × Row))(h:Ag R s L)(k:Ar R s R)(X:Ctx)(g:Gh)(a:Act)(w:World)(hs:A3 X g s a w):A3 X g (St.of L R) a w:=by
 refine Ig id L R ?_ ?_ (λp _ q _ e=>e) X g a w hs
 .clear k;induction L with
  | nil=>intro p hp;cases hp
  | cons x L ih=>
   intro p hp;obtain⟨h1,h2,h3,h4⟩:=h;rcases zJ.1 hp with rfl | hp
   .exact⟨h1,h2,h3⟩
   .exact ih h4 p hp
 .clear h;have:∀R',Ar R s R'->∀p∈R',iB id R s.σ p:=by
   intro R';induction R' with
   | nil=>intro _ p hp;cases hp
   | cons x R' ih=>
    intro h p hp;rcases zJ.1 hp with rfl | hp
    .exact h.1
    .exact ih h.2 p hp
  exact this R k
theorem sA{s:St}(L:List (Nat × PV))(R:List (Nat × Row))(h:Ag R s L)(k:Ar R s R):Wk s (St.of L R):=λX g a w hs=>⟨g,ND L R h k X g a w hs⟩
def Xi(π:Nat->Nat)(R:List (Nat × Row))(s:St):List (Nat × PV)->Prop
 | []=>True
 | (i,d)::L=>s.env i=d.uH π/\nG d=true/\d.refs.all (λl=>(R.lookup l).isSome)=true/\Xi π R s L
def VC(π:Nat->Nat)(R0:List (Nat × Row))(s:St):List (Nat × Row)->Prop
 | []=>True
 | p::R=>iB π R0 s.σ p/\VC π R0 s R
theorem Gb{s:St}(π:Nat->Nat)(L:List (Nat × PV))(R:List (Nat × Row))(h:Xi π R s L)(k:VC π R s R)(hi:(R.all λp=>R.all λq=>π p.1 != π q.1||p.1==q.1)=true):Wk s (St.of L R):=by
 refine Vo π L R ?_ ?_ λp hp q hq e=>?_
 .clear k hi;induction L with
  | nil=>intro p hp;cases hp
  | cons x L ih=>
   intro p hp;obtain⟨h1,h2,h3,h4⟩:=h;rcases zJ.1 hp with rfl | hp
   .exact⟨h1,h2,h3⟩
   .exact ih h4 p hp
 .clear h hi;have:∀R',VC π R s R'->∀p∈R',iB π R s.σ p:=by
   intro R';induction R' with
   | nil=>intro _ p hp;cases hp
   | cons x R' ih=>
    intro h p hp;rcases zJ.1 hp with rfl | hp
    .exact h.1
    .exact ih h.2 p hp
  exact this R k
 .have:=zd.1 (zd.1 hi p hp) q hq;simpa[e] using this
theorem Jq{π:Nat->Nat}{R:List (Nat × Row)}{σ:Nat->Option Row}{l:Nat}{r r':Row}(h:σ (π l)=some r)(hz:r.z=r'.z)(hl:r.lo=r'.lo)(ho:r'.opn=true->r.opn=true)(hc:r.cl=true)(he:r.els=r'.els)(hc':r'.cl=true)(hm:RQ l (π l) r.cl r'.cl=true:=by rfl):iB π R σ (l,r'):=
 ⟨r,h,hm,hz,hl,ho,λ_=>hc,.inl ⟨hc',he⟩⟩
theorem FL{R:List (Nat × Row)}{σ:Nat->Option Row}{l:Nat}{r r':Row}(h:σ l=some r)(hz:r.z=r'.z)(hl:r.lo=r'.lo)(ho:r'.opn=true->r.opn=true)(hc:r.cl=true)(he:r.els=r'.els)(hc':r'.cl=true)(hm:RQ l l r.cl r'.cl=true:=by rfl):iB id R σ (l,r'):=
 ⟨r,h,hm,hz,hl,ho,λ_=>hc,.inl ⟨hc',he⟩⟩
theorem ef{π:Nat->Nat}{R:List (Nat × Row)}{σ:Nat->Option Row}{l:Nat}{r r':Row}(h:σ (π l)=some r)(hz:r.z=r'.z)(hl:r.lo=r'.lo)(ho:r'.opn=true->r.opn=true)(hc:r'.cl=false)(he:r.els=r'.els.map (PV.uH π))(h1:r'.els.all nG=true)
  (h2:(r'.els.flatMap PV.refs).all (λl=>(R.lookup l).isSome)=true)(hm:RQ l (π l) r.cl r'.cl=true:=by rfl):iB π R σ (l,r'):=
 ⟨r,h,hm,hz,hl,ho,λq=>(by
  have q':r'.cl=true:=q;rw[hc] at q';cases q'),.inr ⟨hc,he,h1,h2⟩⟩
def Sq(X:Ctx)(ops:Array Oper)(i:Nat)(os:List Oper)(K:Ctx->St->Prop)(st:St):Prop:=
 eT X.N ops=true->(∀j,os[j]? = ops[i+j]?)->∀n g a w (Qo:Exit->Act->World->Prop),A3 X g st a w ->
  (∀X' g' s' a' w',A3 X' g' s' a' w'->X'.P=X.P/\X'.ρ=X.ρ->K X' s'->Qo .normal a' w')->wpOpsIn (FX X.ρ) n X.P ops Qo (List.range' i os.length) a w
section
variable{X:Ctx}{Q:PX->Ctx->St->Prop}{st:St}{ops:Array Oper}{i:Nat}{os:List Oper}{K:Ctx->St->Prop}{env:Nat->PV}{σ:Nat->Option Row}
theorem Xg(h:K X st):Sq X ops i [] K st:=λ_ _ n g a w Qo hs hq=>hq X g st a w hs ⟨rfl,rfl⟩ h
theorem N2{st':St}(h:Wk st st')(k:Sq X ops i os K st'):Sq X ops i os K st:=λhd hi n g a w Qo hs hq=>by
 obtain⟨g',hs'⟩:=h X g a w hs;exact k hd hi n g' a w Qo hs' hq
theorem mG{o:Oper}{s:St}(h:NW X.P ops false (kept []) (cls [] i o.op) o st s)(k:Sq X ops (i+1) os K s):Sq X ops i (o::os) K st:=λhd hi n g a w Qo hs hq=>by
 have ho:ops[i]? = some o:=by have:=hi 0;simpa using this.symm
 have e:List.range' i (o::os).length=i::List.range' (i+1) os.length:=rfl;rw[e,wpOpsIn_cons];exact tP ho hs h (F4 hd ho) λg' a' w' hs'=>k hd (λj=>by have:=hi (j+1);simpa[so,za6 1 j] using this) n g' a' w' Qo hs' hq
theorem sr{id:Nat}{l:List Oper}{y:Code}(hd:eT X.N l.toArray=true)(h:Sq X l.toArray 0 l (λX' s=>X4 X' y Q s) st):X4 X (.seq (.region id l.toArray false) y) Q st:=λn g a w hs=>by
 refine wpIn_seq (wpIn_region ?_);have hz:List.range l.toArray.size=List.range' 0 l.length:=by simp[List.range_eq_range']
 rw[hz];refine h hd (λj=>by simp) n g a w _ hs λX' g' s' a' w' h1 h3 h2=>?_;have:=h2 n g' a' w' h1;rw[rn h3,h3.1,h3.2] at this;exact this
theorem RY{id:Nat}{l:List Oper}(hd:eT X.N l.toArray=true)(h:Sq X l.toArray 0 l (Q .normal) st):X4 X (.region id l.toArray false) Q st:=λn g a w hs=>by
 refine wpIn_region ?_;have hz:List.range l.toArray.size=List.range' 0 l.length:=by simp[List.range_eq_range']
 rw[hz];exact h hd (λj=>by simp) n g a w _ hs λX' g' s' a' w' h1 h3 h2=>⟨X',g',s',h1,h3,h2⟩
theorem dr{id:Nat}{l:List Oper}{y:Code}(bar:List Nat)(hm:X.P.follows .mixedOrders=true)(hd:eT X.N l.toArray=true)(hr:pP l.toArray bar (Region.before l.toArray)=true)
  (h:Ex X.P l.toArray bar true 0 l st (λs=>X4 X y Q s)):X4 X (.seq (.region id l.toArray true) y) Q st:=l5 (wO bar hm hd hr h)
end
end Go.Pw
namespace Go.Pw
open Go.RowKit Go.Sh
section
variable{P:Program}{σ:Nat->Option Row}{ρ:Operand->PV}{dst:Option Tmp}
theorem Fq{x:Operand}{d:PV}(h:ρ x=d):B9 P σ ρ dst (.move x) d .none:=by rw[<-h];exact .move x
theorem fH{t:TypeId}{x:Operand}{b r:Bool}(h:ρ x = .bool b)(hr:(!b)=r):B9 P σ ρ dst (.unOp .not t x) (.bool r) .none:=by rw[<-hr];exact .not t x b h
theorem Bo{T:TypeId}{x:Operand}{l i f n:Nat}{r:Row}{y:PV}{cs:List PV}(hx:ρ x = .ptr l i f)(hl:σ l=some r)(hy:r.els[i]? = some y)(ha:I9 P T=some true)(hs:u0 P T=some n)(hf:f+n<=y.cells.length)
  (hd:(y.cells.drop f).take n=cs):B9 P σ ρ dst (.load T x) (.agg cs) .none:=by rw[<-hd];exact .mw T x l i f r y n hx hl hy ha hs hf
theorem LW{T:TypeId}{x:Operand}{n:Nat}{es cs:List PV}(hx:ρ x = .rptr es)(ha:I9 P T=some true)(hs:u0 P T=some n)(hf:n<=es.length)
  (hd:es.take n=cs):B9 P σ ρ dst (.load T x) (.agg cs) .none:=by rw[<-hd];exact .fv T x es n hx ha hs hf
theorem vg{T:TypeId}{x:Operand}{l i f:Nat}{r:Row}{y d:PV}(hx:ρ x = .ptr l i f)(hl:σ l=some r)(hy:r.els[i]? = some y)(ha:I9 P T=some false)(hd:y.cells[f]? = some d):B9 P σ ρ dst (.load T x) d .none:=
 .jL T x l i f r y d hx hl hy ha hd
theorem E8{T:TypeId}{x:Operand}{es:List PV}{d:PV}(hx:ρ x = .rptr es)(ha:I9 P T=some false)(hd:es[0]? = some d):B9 P σ ρ dst (.load T x) d .none:=.fw T x es d hx ha hd
theorem E1.row{T:List Nat}{σ σ':Nat->Option Row}{l:Nat}{r:Row}(h:E1 T σ σ')(hm:T.contains l=true)(hl:σ l=some r):∃r',σ' l=some r'/\r'.els=r.els/\r'.z=r.z/\r'.cl=r.cl:=by
 have:=h l hm;rw[hl] at this;cases hq:σ' l with
 | none=>rw[hq] at this;cases this
 | some r'=>
  rw[hq] at this;simp only[wd,wp,core,Prod.mk.injEq] at this;exact⟨r',rfl,this.1.symm,this.2.1.symm,this.2.2.symm⟩
theorem lB{T:TypeId}{x:Operand}{l i f n:Nat}{r:Row}{y:PV}{cs:List PV}{K:List Nat}{σ':Nat->Option Row}(hN:E1 K σ σ')(hx:ρ x = .ptr l i f)(hm:K.contains l=true)(hl:σ l=some r)(hy:r.els[i]? = some y)(ha:I9 P T=some true)(hs:u0 P T=some n)(hf:f+n<=y.cells.length)
  (hd:(y.cells.drop f).take n=cs):B9 P σ' ρ dst (.load T x) (.agg cs) .none:=by
 obtain⟨r',h1,h2,_⟩:=hN.row hm hl;exact Bo hx h1 (by rw[h2];exact hy) ha hs hf hd
theorem ve{T:TypeId}{x:Operand}{l i f:Nat}{r:Row}{y d:PV}{K:List Nat}{σ':Nat->Option Row}(hN:E1 K σ σ')(hx:ρ x = .ptr l i f)(hm:K.contains l=true)(hl:σ l=some r)(hy:r.els[i]? = some y)(ha:I9 P T=some false)(hd:y.cells[f]? = some d):B9 P σ' ρ dst (.load T x) d .none:=by
 obtain⟨r',h1,h2,_⟩:=hN.row hm hl;exact vg hx h1 (by rw[h2];exact hy) ha hd
theorem Ui{x:Operand}{T E:TypeId}{t:Bool}{xs:List PV}{n:Int}(hx:ρ x = .G8 t xs)(hE:B0 P T=some E)(hn:(xs.length:Int)=n):B9 P σ ρ dst (.call { callee:=.builtin .len,args:=#[x],argTypes:=#[T] }) (.int .i64 n) .none:=by
 subst hn;exact .lenL x t xs T hx (by rw[hE];rfl) _ rfl
theorem Uj{x:Operand}{T E:TypeId}{l:Nat}{r:Row}{n:Int}(hx:ρ x = .sl l)(hl:σ l=some r)(hE:B0 P T=some E)(hn:(r.els.length:Int)=n):B9 P σ ρ dst (.call { callee:=.builtin .len,args:=#[x],argTypes:=#[T] }) (.int .i64 n) .none:=by
 subst hn;exact .lenR x l r T hx hl (by rw[hE];rfl) _ rfl
theorem Fo{x:Operand}{T:TypeId}{s:ByteArray}{n:Int}(hx:ρ x = .str s)(hE:P.underlying T=some .string)(hn:(s.size:Int)=n):B9 P σ ρ dst (.call { callee:=.builtin .len,args:=#[x],argTypes:=#[T] }) (.int .i64 n) .none:=by
 subst hn;exact .lenS x s T hx hE _ rfl
theorem RP{x y:Operand}{k:IntKind}{a b r:Int}{ts:Array TypeId}(hx:ρ x = .int k a)(hy:ρ y = .int k b)(hr:(if b<a then b else a)=r):B9 P σ ρ dst (.call { callee:=.builtin .min,args:=#[x,y],argTypes:=ts }) (.int k r) .none:=by
 subst hr;exact .min2 x y k a b ts hx hy
theorem Hi{x y:Operand}{k:IntKind}{a b r:Int}{ts:Array TypeId}(hx:ρ x = .int k a)(hy:ρ y = .int k b)(hr:(if b > a then b else a)=r):B9 P σ ρ dst (.call { callee:=.builtin .max,args:=#[x,y],argTypes:=ts }) (.int k r) .none:=by
 subst hr;exact .max2 x y k a b ts hx hy
theorem wG{op:BinOp}{t u:TypeId}{x y:Operand}{k:IntKind}{a b r:Int}(hx:ρ x = .int k a)(hy:ρ y = .int k b)(hr:Ka k op a b=some r):B9 P σ ρ dst (.binOp op t x y u) (.int k r) .none:=.ari op t u x y k a b r hx hy hr
theorem I3{op:BinOp}{t u:TypeId}{x y:Operand}{k:IntKind}{a b:Int}{r:Bool}(hx:ρ x = .int k a)(hy:ρ y = .int k b)(hr:Kw op a b=some r):B9 P σ ρ dst (.binOp op t x y u) (.bool r) .none:=.cmp op t u x y k a b r hx hy hr
theorem dj{t u:TypeId}{x y:Operand}{a b:ByteArray}{r:Bool}(hx:ρ x = .str a)(hy:ρ y = .str b)(hr:(a.toList==b.toList)=r):B9 P σ ρ dst (.binOp .eql t x y u) (.bool r) .none:=by subst hr;exact .eqS t u x y a b hx hy
theorem WI{t u:TypeId}{x y:Operand}{a b:ByteArray}{r:Bool}(hx:ρ x = .str a)(hy:ρ y = .str b)(hr:(!(a.toList==b.toList))=r):B9 P σ ρ dst (.binOp .neq t x y u) (.bool r) .none:=by subst hr;exact .neS t u x y a b hx hy
theorem Uf{s t:TypeId}{x:Operand}{k k':IntKind}{n r:Int}{D:TypeDesc}(hx:ρ x = .int k' n)(hs:P.underlying s=some D)(ht:Ns P t=some k)(hr:k.wrap n=r):B9 P σ ρ dst (.convert s t x) (.int k r) .none:=by
 subst hr;exact .conv s t x k k' n hx (by rw[hs];rfl) ht
theorem Hj{T E:TypeId}{z i j k:Nat}{x:Operand}{lo hi mx:Option Operand}{t t':Bool}{xs ys:List PV}(hx:ρ x = .G8 t xs)(hE:B0 P T=some E)(hz:u0 P E=some z)(hel:∀e∈xs,e.cells.length=z)(hlo:qx ρ lo 0 i)(hhi:qx ρ hi xs.length j)(hmx:qx ρ mx xs.length k)
  (hmh:mx.isSome=true->hi.isSome=true)(hij:i<=j)(hjk:j<=k)(hk:k<=xs.length)(ht:(if mx.isSome then decide (j=k) else t&&decide (j=xs.length))=t')(hy:(xs.take j).drop i=ys):B9 P σ ρ dst (.slice T x lo hi mx) (.G8 t' ys) .none:=by
 subst ht;subst hy;exact .sliceL T E z x lo hi mx t xs i j k hx hE hz hel hlo hhi hmx hmh hij hjk hk
theorem Ue{x y:Operand}{T E:TypeId}{t:Tmp}{xs ys zs:List PV}{cl:Bool}{z by_ n:Nat}{zv:Value}(hd:dst=some t)(hx:ρ x = .G8 true xs)(hy:Src σ (ρ y) ys cl)(hE:B0 P T=some E)(hz:u0 P E=some z)(hb:K7 P E=some by_)(hzv:A2 P E=some zv)(hzz:zv.cells.size=z)
  (hel:∀e∈xs++ys,e.cells.length=z)(hfit:(xs.length+ys.length)*by_<=140737488355328)(h63:xs.length+ys.length<=9223372036854775807)(hzs:xs++ys=zs)(hn:xs.length=n) :
  B9 P σ ρ dst (.call { callee:=.builtin .append,args:=#[x,y],argTypes:=#[T,T] }) (.sl t) (.new t ⟨zs,n,true,z,cl⟩):=by
 subst hzs;subst hn;exact .appT x y T E xs ys cl z by_ t zv hd hx hy hE hz hb hzv hzz hel hfit h63
theorem Ud{x y:Operand}{T E:TypeId}{t:Tmp}{s:Nat}{r:Row}{ys zs:List PV}{cl cl':Bool}{z by_ n:Nat}{zv:Value}(hd:dst=some t)(hx:ρ x = .sl s)(hs:σ s=some r)(hy:Src σ (ρ y) ys cl)(hE:B0 P T=some E)(hz:u0 P E=some z)(hb:K7 P E=some by_)(hzv:A2 P E=some zv)
  (hzz:zv.cells.size=z)(hel:∀e∈r.els++ys,e.cells.length=z)(hrz:r.z=z)(hfit:(r.els.length+ys.length)*by_<=140737488355328)(h63:r.els.length+ys.length<=9223372036854775807)(hzs:r.els++ys=zs)(hn:r.els.length=n)(hcl:(r.cl&&cl)=cl') :
  B9 P σ ρ dst (.call { callee:=.builtin .append,args:=#[x,y],argTypes:=#[T,T] }) (.sl t) (.app s t ⟨zs,n,true,z,cl'⟩):=by
 subst hzs;subst hn;subst hcl;exact .appR x y T E s r ys cl z by_ t zv hd hx hs hy hE hz hb hzv hzz hel hrz hfit h63
theorem aO{α:Type}{f:α->PV}{l:List α}{T E:TypeId}{parts:Array (Nat × Operand)}{len z:Nat}{zv:Value}{ps:List (Nat × PV)}(hp:(parts.toList.map λp=>(p.1,(ρ p.2).w1))=ps)(hE:B0 P T=some E)(hz:u0 P E=some z)(hzv:A2 P E=some zv)
  (hlen:(l.map f).length=len)(hel:(l.map f).all (λx=>x.el&&(x.cells.length==z))=true)(hbig:len*z<=2 ^ 24)(hf:mn (λi=>some (i*z,z)) (List.replicate (len*z) .junk) ps=some ((l.map f).flatMap PV.cells))
  (hcl:(l.map f).all (λx=>x.cells.all PV.Z0)=true):B9 P σ ρ dst (.buildSlice T len parts) (.G8 true (l.map f)) .none:=by
 subst hp;refine .buildI T E parts len z zv _ hE hz hzv hlen (λx hx=>?_) hbig hf hcl;have:=zd.1 hel x hx;simp only[zk,wf] at this;exact this
theorem wI{T E:TypeId}{z:Nat}{t:Tmp}(hd:dst=some t)(hE:B0 P T=some E)(hz:u0 P E=some z):B9 P σ ρ dst (.buildSlice T 0 #[]) (.G8 true []) .none:=.nilSlice T E #[] t z hd hE hz rfl
theorem Ug{x y:Operand}{T U E:TypeId}{l z:Nat}{r:Row}{ys:List PV}{n:Int}(hx:ρ x = .sl l)(hl:σ l=some r)(hcl:r.cl=true)(hy:Src σ (ρ y) ys true)(hE:B0 P T=some E)(hz:u0 P E=some z)(hrz:r.z=z)(hel:∀e∈ys,e.cells.length=z)(hn:ys.length<=r.els.length)
  (hzp:0<z)(hk:(ys.length:Int)=n):B9 P σ ρ dst (.call { callee:=.builtin .copy,args:=#[x,y],argTypes:=#[T,U] }) (.int .i64 n) (.uB l ys):=by
 subst hk;exact .copy x y T U E l r ys z hx hl hcl hy hE hz hrz hel hn hzp
theorem oJ{T:TypeId}{x y:Operand}{l i f n:Nat}{d:PV}{cs:List PV}(hx:ρ x = .ptr l i f)(hy:ρ y=d\/(ρ y).w1=d)(hc:d.cells=cs)(he:d.el=true)(hs:u0 P T=some n)(hp:0<n)(hn:cs.length=n) :
  B9 P σ ρ dst (.store T x y) (.tup []) (.sto l i f cs):=by subst hc;subst hn;exact .store T x y l i f d hx hy he hs hp
theorem Bn{T:TypeId}{x:Operand}{f l i q off k:Nat}{ft:TypeId}(hx:ρ x = .ptr l i q)(ho:bT P T f=some (off,ft))(hk:q+off=k):B9 P σ ρ dst (.fieldAddr T x f) (.ptr l i k) .none:=by
 subst hk;exact .fieldAddrP T x f l i q off ft hx ho
theorem rB{T:TypeId}{x:Operand}{f off:Nat}{ft:TypeId}{cs es:List PV}(hx:ρ x = .rptr es)(ho:bT P T f=some (off,ft))(hk:es.drop off=cs):B9 P σ ρ dst (.fieldAddr T x f) (.rptr cs) .none:=by
 subst hk;exact .fieldAddrR T x f es off ft hx ho
theorem w9{T:TypeId}{parts:Array (Nat × Operand)}{pl:Nat->Option (Nat × Nat)}{z:Value}{zs cs:List PV}{ps:List (Nat × PV)}(hp:(parts.toList.map λp=>(p.1,(ρ p.2).w1))=ps)(R8:E4 P T=some pl)(hz:A2 P T=some z)(hzs:PV.iu z = .agg zs)
  (hf:mn pl zs ps=some cs)(hsc:cs.all PV.sc=true):B9 P σ ρ dst (.build T parts) (.agg cs) .none:=by subst hp;exact .build T parts pl z zs cs R8 hz hzs hsc hf
theorem dJ{α:Type}{a b:α}{l m:List α}(h:a=b)(k:l=m):a::l=b::m:=by rw[h,k]
def x8(P:Program)(f:FuncId):Prop:=∃fn c,P.funcs[f]? = some fn/\fn.body=some c/\fn.name ≠ "runtime.NumGoroutine"
theorem tl{f:FuncId}{args:Array Operand}{ts:Array TypeId}{x:Operand}{ds vs cap:List PV}{d:PV}(hx:ρ x = .fn (.func f) cap)(hk:x8 P f)(ha:args.toList.map ρ++cap=ds)(h:N7 P f vs d)
  (hok:ds.all (PV.ky σ)=true:=by rfl)(hv:ds.map (PV.vw σ)=vs:=by rfl)(hfl:d.flat=true:=by rfl):B9 P σ ρ dst (.call { callee:=.value x,args,argTypes:=ts }) d .none:=by
 subst ha;subst hv;exact .call f args ts cap d x hx hk hok h hfl
theorem vf{f:FuncId}{args:Array Operand}{ts:Array TypeId}{x:Operand}{ds vs cap:List PV}{ls:List Nat}{d:PV}(hx:ρ x = .fn (.func f) cap)(hk:x8 P f)(ha:args.toList.map ρ++cap=ds)(h:N7 P f vs d)
  (hok:ds.all (PV.ky σ)=true:=by rfl)(hv:ds.map (PV.vw σ)=vs:=by rfl)(hl:ds.flatMap (PV.L0 σ)=ls:=by rfl):B9 P σ ρ dst (.call { callee:=.value x,args,argTypes:=ts }) d (.mo ls):=by
 subst ha;subst hv;subst hl;exact .callF f args ts cap d x hx hk hok h
theorem PS{f:FuncId}{args:Array Operand}{ts:Array TypeId}{x:Operand}{ds vs cap:List PV}{ls:List Nat}{l:Tmp}{r:Row}(hx:ρ x = .fn (.func f) cap)(hk:x8 P f)(ha:args.toList.map ρ++cap=ds)(h:kG P f vs r)
  (hd:dst=some l:=by rfl)(hok:ds.all (PV.ky σ)=true:=by rfl)(hv:ds.map (PV.vw σ)=vs:=by rfl)(hcl:r.cl=true:=by rfl)(hl:ds.flatMap (PV.L0 σ)=ls:=by rfl) :
  B9 P σ ρ dst (.call { callee:=.value x,args,argTypes:=ts }) (.sl l) (.frzN ls l r):=by
 subst ha;subst hv;subst hl;exact .callN f args ts cap l r x hd hx hk hok h hcl
end
section
variable{P:Program}{σ:Nat->Option Row}{ρ:Operand->PV}{dst:Option Tmp}
theorem K1{c a b:Operand}{x y g:Bool}(hc:ρ c = .bool x)(ha:ρ a = .bool true)(hb:ρ b=cond g (.bool y) (.tup []))(hg:x=false->g=true):B9 P σ ρ dst (.pick c a b) (.bool (x||y)) .none:=by
 have:=B9.pick (P:=P) (σ:=σ) (dst:=dst) c a b x hc;rw[ha,hb] at this;cases x;·rw[hg rfl] at this;exact this
 .exact this
theorem E7{c a b:Operand}{x y g:Bool}(hc:ρ c = .bool x)(ha:ρ a=cond g (.bool y) (.tup []))(hb:ρ b = .bool false)(hg:x=true->g=true):B9 P σ ρ dst (.pick c a b) (.bool (x&&y)) .none:=by
 have:=B9.pick (P:=P) (σ:=σ) (dst:=dst) c a b x hc;rw[ha,hb] at this;cases x;·exact this
 .rw[hg rfl] at this;exact this
theorem ct{g:Bool}{a b:PV}(h:g=true):cond g a b=a:=by rw[h];rfl
theorem Xw{a b:Bool}(h:a=true)(k:b=true):(a&&b)=true:=by rw[h,k];rfl
theorem mL{b:Bool}(h:b=false):(b==false)=true:=by rw[h];rfl
theorem mM{b:Bool}(h:b=true):(b==true)=true:=by rw[h];rfl
theorem nw{α:Type}{f:α->PV}{xs:List α}{x:Operand}{T E:TypeId}{t:Bool}(hx:ρ x = .G8 t (xs.map f))(hE:B0 P T=some E):B9 P σ ρ dst (.call { callee:=.builtin .len,args:=#[x],argTypes:=#[T] }) (.int .i64 xs.length) .none:=Ui hx hE (by simp)
theorem yQ{α:Type}{f:α->PV}{xs:List α}{x:Operand}{T E:TypeId}{l:Nat}{r:Row}(hx:ρ x = .sl l)(hl:σ l=some r)(he:r.els=xs.map f)(hE:B0 P T=some E):B9 P σ ρ dst (.call { callee:=.builtin .len,args:=#[x],argTypes:=#[T] }) (.int .i64 xs.length) .none:=
 Uj hx hl hE (by rw[he];simp)
theorem ju{α β:Type}(f:α->β){xs:List α}{i:Int}{e:α}(h:ix xs i=some e):0<=i/\(xs.map f)[i.toNat]? = some (f e):=by
 obtain⟨h0,h1⟩:=wm h;exact⟨h0,by rw[zL,h1];rfl⟩
theorem F5{α:Type}{f:α->PV}{xs:List α}{i:Int}{e:α}{T E:TypeId}{x y:Operand}{t:Bool}{k:IntKind}{z:Nat}{cs:List PV}(h:ix xs i=some e)(hx:ρ x = .G8 t (xs.map f))(hy:ρ y = .int k i)
  (hE:B0 P T=some E)(hz:u0 P E=some z)(hc:(f e).cells=cs)(hl:cs.length=z):B9 P σ ρ dst (.indexAddr T x y) (.rptr cs) .none:=by
 obtain⟨h0,h1⟩:=ju f h;subst hc;subst hl;exact .idxL T x y t (xs.map f) k i (f e) E hx hy h0 h1 hE hz
theorem gP{α:Type}{f:α->PV}{xs:List α}{i:Int}{e:α}{T E:TypeId}{x y:Operand}{l:Nat}{k:IntKind}{z:Nat}{r:Row}(h:ix xs i=some e)(hx:ρ x = .sl l)(hr:σ l=some r)(he:r.els=xs.map f)(hy:ρ y = .int k i)
  (hE:B0 P T=some E)(hz:u0 P E=some z)(hl:r.z=z):B9 P σ ρ dst (.indexAddr T x y) (.ptr l i.toNat 0) .none:=by
 obtain⟨h0,h1⟩:=ju f h;subst hl;exact .idxR T x y l r k i E hx hr hy h0 (by rw[he];exact (zx.1 h1).1) hE hz
theorem WB{α:Type}{f:α->PV}{xs:List α}{i:Int}{e:α}{T:TypeId}{x:Operand}{l q n:Nat}{r:Row}{cs:List PV}(h:ix xs i=some e)(hx:ρ x = .ptr l i.toNat q)(hr:σ l=some r)(he:r.els=xs.map f)
  (ha:I9 P T=some true)(hs:u0 P T=some n)(hf:q+n<=(f e).cells.length)(hd:((f e).cells.drop q).take n=cs):B9 P σ ρ dst (.load T x) (.agg cs) .none:=
 Bo hx hr (by rw[he];exact (ju f h).2) ha hs hf hd
theorem LU{α:Type}{f:α->PV}{xs:List α}{i:Int}{e:α}{T:TypeId}{x:Operand}{l q:Nat}{r:Row}{d:PV}(h:ix xs i=some e)(hx:ρ x = .ptr l i.toNat q)(hr:σ l=some r)(he:r.els=xs.map f)
  (ha:I9 P T=some false)(hd:(f e).cells[q]? = some d):B9 P σ ρ dst (.load T x) d .none:=
 vg hx hr (by rw[he];exact (ju f h).2) ha hd
theorem Dk{α:Type}{f:α->PV}{xs ys zs:List α}{b:Nat}{x y:Operand}{T E:TypeId}{t:Tmp}{z:Nat}{zv:Value}(h:app b xs ys=some zs)(hd:dst=some t)(hx:ρ x = .G8 true (xs.map f))(hy:Src σ (ρ y) (ys.map f) true)
  (hE:B0 P T=some E)(hz:u0 P E=some z)(hb:K7 P E=some b)(hzv:A2 P E=some zv)(hzz:zv.cells.size=z)(hel:∀e,(f e).cells.length=z) :
  B9 P σ ρ dst (.call { callee:=.builtin .append,args:=#[x,y],argTypes:=#[T,T] }) (.sl t) (.new t ⟨zs.map f,xs.length,true,z,true⟩):=by
 obtain⟨h1,h2,rfl⟩:=vD h;exact Ue hd hx hy hE hz hb hzv hzz (λe he=>by rw[<-zad] at he;obtain⟨a,_,rfl⟩:=zI.1 he;exact hel a) (by simpa using h1) (by simpa using h2) (by simp) (by simp)
theorem aN{α:Type}{f:α->PV}{xs ys zs:List α}{b:Nat}{x y:Operand}{T E:TypeId}{t:Tmp}{z s:Nat}{r:Row}{zv:Value}(h:app b xs ys=some zs)(hd:dst=some t)(hx:ρ x = .sl s)(hs:σ s=some r)(he:r.els=xs.map f)(hrz:r.z=z)(hcl:r.cl=true)
  (hy:Src σ (ρ y) (ys.map f) true)(hE:B0 P T=some E)(hz:u0 P E=some z)(hb:K7 P E=some b)(hzv:A2 P E=some zv)(hzz:zv.cells.size=z)(hel:∀e,(f e).cells.length=z) :
  B9 P σ ρ dst (.call { callee:=.builtin .append,args:=#[x,y],argTypes:=#[T,T] }) (.sl t) (.app s t ⟨zs.map f,xs.length,true,z,true⟩):=by
 obtain⟨h1,h2,rfl⟩:=vD h;exact Ud hd hx hs hy hE hz hb hzv hzz (λe q=>by rw[he,<-zad] at q;obtain⟨a,_,rfl⟩:=zI.1 q;exact hel a) hrz (by rw[he];simpa using h1) (by rw[he];simpa using h2) (by rw[he];simp) (by rw[he];simp) (by rw[hcl];rfl)
theorem wH{α:Type}{f:α->PV}{zs:List α}{z0:α}{n:Int}{T E:TypeId}{x y:Operand}{t:Tmp}{k k':IntKind}{z b:Nat}{v:Value}(h:mk b n z0=some zs)(hd:dst=some t)(hx:ρ x = .int k n)(hy:ρ y = .int k' n)(hE:B0 P T=some E)(hz:u0 P E=some z)
  (hv:A2 P E=some v)(hb:K7 P E=some b)(hdv:(PV.iu v).w1=f z0)(hel:(PV.iu v).w1.el=true)(hvz:(PV.iu v).w1.cells.length=z):B9 P σ ρ dst (.makeSlice T x y) (.sl t) (.new t ⟨zs.map f,0,true,z,true⟩):=by
 obtain⟨h1,h2,h3,rfl⟩:=PH h;rw[List.map_replicate,<-hdv];exact .mkSlice T x y t k k' n E z v hd hx hy h1 hE hz hv hel hvz b hb h2 h3
def xJ(ρ:Operand->PV)(x:Option Operand)(dflt n:Int):Prop:=
 match x with
 | some y=>∃k,ρ y = .int k n
 | none=>n=dflt
theorem xJ.Cp{ρ:Operand->PV}{x:Option Operand}{d n:Int}{d':Nat}(h:xJ ρ x d n)(h0:0<=n)(hd:d=d'):qx ρ x d' n.toNat:=by
 cases x with
 | none=>have:n=d:=h;show n.toNat=d';omega
 | some y=>obtain⟨k,hk⟩:=h;exact⟨k,by rw[hk];congr;omega⟩
theorem tn{α:Type}{f:α->PV}{xs zs:List α}{i j:Int}{T E:TypeId}{z:Nat}{x:Operand}{lo hi:Option Operand}(h:cut xs i j=some zs)(hx:ρ x = .G8 false (xs.map f))(hlo:xJ ρ lo 0 i)(hhi:xJ ρ hi xs.length j)
  (hE:B0 P T=some E)(hz:u0 P E=some z)(hel:∀e,(f e).cells.length=z):B9 P σ ρ dst (.slice T x lo hi none) (.G8 false (zs.map f)) .none:=by
 obtain⟨h1,h2,h3,rfl⟩:=CF h;have:=Hj (P:=P) (σ:=σ) (dst:=dst) (mx:=none) (t':=false) (i:=i.toNat) (j:=j.toNat) (k:=(xs.map f).length) (ys:=((xs.take j.toNat).drop i.toNat).map f) hx hE hz (λe he=>by obtain⟨a,_,rfl⟩:=zI.1 he;exact hel a)
  (hlo.Cp h1 rfl) (hhi.Cp (by omega) (by simp)) rfl (λq=>by cases q) (by omega) (by simp;omega) (zq _) rfl (by simp[List.map_take,List.map_drop])
 exact this
theorem LS{α:Type}{f:α->PV}{xs zs:List α}{i j:Int}{T E:TypeId}{z:Nat}{x:Operand}{lo hi mx:Option Operand}(h:cut xs i j=some zs)(hx:ρ x = .G8 false (xs.map f))(hlo:xJ ρ lo 0 i)(hhi:xJ ρ hi xs.length j)(hmx:xJ ρ mx xs.length j)(hm:mx.isSome=true)(hs:hi.isSome=true)
  (hE:B0 P T=some E)(hz:u0 P E=some z)(hel:∀e,(f e).cells.length=z):B9 P σ ρ dst (.slice T x lo hi mx) (.G8 true (zs.map f)) .none:=by
 obtain⟨h1,h2,h3,rfl⟩:=CF h;exact Hj (P:=P) (σ:=σ) (dst:=dst) (t':=true) (i:=i.toNat) (j:=j.toNat) (k:=j.toNat) (ys:=((xs.take j.toNat).drop i.toNat).map f) hx hE hz (λe he=>by obtain⟨a,_,rfl⟩:=zI.1 he;exact hel a)
  (hlo.Cp h1 rfl) (hhi.Cp (by omega) (by simp)) (hmx.Cp (by omega) (by simp)) (λ_=>hs) (by omega) (zq _) (by simp;omega) (by rw[hm];simp) (by simp[List.map_take,List.map_drop])
end
end Go.Pw
