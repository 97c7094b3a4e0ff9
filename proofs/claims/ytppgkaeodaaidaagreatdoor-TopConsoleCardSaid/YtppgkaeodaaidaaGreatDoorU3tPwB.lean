/-
 Several texts of one kind, one behind the other.
-/
import Derived.Test.YtppgkaeodaaidaaGreatDoorU3tPwA
import Derived.RangeFuncLeaves
import Derived.Test.YtppgkaeodaaidaaGreatDoorU3tSh0
set_option linter.unusedVariables false
set_option linter.unusedSimpArgs false
set_option linter.unusedSectionVars false
namespace Go.Pw
open Go.RowKit
section
variable{X:Ctx}{g:Gh}{st:St}{a:Act}{w:World}{n:Nat}{K:Act→World→Prop}{Q:Exit→Act→World→Prop}{ρ:Option Nat}{P:Program}
theorem J7{o:Oper}{b:Builtin}{xs:Array Operand}{ts:Array TypeId}(ho:o.op = .call { callee:=.builtin b,args:=xs,argTypes:=ts }) :
  ∃cs,execOp a.eval o=builtin b ts o.type cs (xs.map a.eval):=by
 obtain⟨dst,op,ty,pos,after,guard⟩:=o;simp only at ho;subst ho;exact⟨_,rfl⟩
theorem b4l{o:Oper}{x:Operand}{t:Bool}{xs:List PV}{T:TypeId}{ts:Array TypeId}(h:r7 X g st a w)(ho:o.op = .call { callee:=.builtin .len,args:=#[x],argTypes:=ts })
  (hx:p6 st.env x = .lst t xs)(hT:(r5 X.P T).isSome=true)(hts:ts[0]? = some T) :
  ∃u,(execOp a.eval o).run X.P w = .ok (.value u) w∧Rd w g.imm g.μ st.j2 u (.int .i64 xs.length):=by
 have hv:=h.eval x;rw[hx] at hv;obtain⟨A,c,z',u,e,_⟩:=hv.W8;obtain⟨E,hE⟩:=Option.isSome_iff_exists.1 hT;obtain⟨cs,hc⟩:=J7 (a:=a) ho;refine⟨.int .i64 xs.length,?_,.cl (.int _ _)⟩;rw[hc];refine y5 ?_;simp[Builtin.len_,hts,e,run_underlying (C0 hE),goInt]
theorem b4m{o:Oper}{x:Operand}{l:Nat}{r:Row}{T:TypeId}{ts:Array TypeId}(h:r7 X g st a w)(ho:o.op = .call { callee:=.builtin .len,args:=#[x],argTypes:=ts })
  (hx:p6 st.env x = .sl l)(hl:st.σ l=some r)(hT:(r5 X.P T).isSome=true)(hts:ts[0]? = some T) :
  ∃u,(execOp a.eval o).run X.P w = .ok (.value u) w∧Rd w g.imm g.μ st.j2 u (.int .i64 r.els.length):=by
 have hv:=h.eval x;rw[hx] at hv;obtain⟨_,e⟩:=hv.O6;obtain⟨E,hE⟩:=Option.isSome_iff_exists.1 hT;obtain⟨cs,hc⟩:=J7 (a:=a) ho;refine⟨.int .i64 r.els.length,?_,.cl (.int _ _)⟩;rw[hc];refine y5 ?_;simp[Builtin.len_,hts,e,run_underlying (C0 hE),goInt,(h.rows l r hl).n]
theorem b4n{o:Oper}{x:Operand}{s:ByteArray}{T:TypeId}{ts:Array TypeId}(h:r7 X g st a w)(ho:o.op = .call { callee:=.builtin .len,args:=#[x],argTypes:=ts })
  (hx:p6 st.env x = .str s)(hT:X.P.underlying T=some .string)(hts:ts[0]? = some T) :
  ∃u,(execOp a.eval o).run X.P w = .ok (.value u) w∧Rd w g.imm g.μ st.j2 u (.int .i64 s.size):=by
 have hv:=h.eval x;rw[hx] at hv;obtain⟨cs,hc⟩:=J7 (a:=a) ho;refine⟨.int .i64 s.size,?_,.cl (.int _ _)⟩;rw[hc];refine y5 ?_;simp[Builtin.len_,hts,hv.V1,run_underlying hT,goInt]
theorem b5O{o:Oper}{x y:Operand}{k:IntKind}{p q:Int}{ts:Array TypeId}(h:r7 X g st a w)(ho:o.op = .call { callee:=.builtin .min,args:=#[x,y],argTypes:=ts })
  (hx:p6 st.env x = .int k p)(hy:p6 st.env y = .int k q) :
  ∃u,(execOp a.eval o).run X.P w = .ok (.value u) w∧Rd w g.imm g.μ st.j2 u (.int k (if q<p then q else p)):=by
 have hv:=h.eval x;have hu:=h.eval y;rw[hx] at hv;rw[hy] at hu;obtain⟨cs,hc⟩:=J7 (a:=a) ho;refine⟨_,?_,.cl (.int _ _)⟩;rw[hc];refine y5 ?_;simp[Builtin.min_,Builtin.min2,hv.A9,hu.A9]
theorem b5N{o:Oper}{x y:Operand}{k:IntKind}{p q:Int}{ts:Array TypeId}(h:r7 X g st a w)(ho:o.op = .call { callee:=.builtin .max,args:=#[x,y],argTypes:=ts })
  (hx:p6 st.env x = .int k p)(hy:p6 st.env y = .int k q) :
  ∃u,(execOp a.eval o).run X.P w = .ok (.value u) w∧Rd w g.imm g.μ st.j2 u (.int k (if q > p then q else p)):=by
 have hv:=h.eval x;have hu:=h.eval y;rw[hx] at hv;rw[hy] at hu;obtain⟨cs,hc⟩:=J7 (a:=a) ho;refine⟨_,?_,.cl (.int _ _)⟩;rw[hc];refine y5 ?_;simp[Builtin.max_,Builtin.max2,hv.A9,hu.A9]
theorem b4k{o:Oper}{x y:Operand}{T U E:TypeId}{l z:Nat}{r:Row}{ys:List PV}(h:r7 X g st a w)(ho:o.op = .call { callee:=.builtin .copy,args:=#[x,y],argTypes:=#[T,U] })(hdst:∀t,o.dst=some t→t<X.N)
  (hx:p6 st.env x = .sl l)(hl:st.σ l=some r)(hcl:r.cl=true)(hlo:r.lo=0)(hy:Src st.σ (p6 st.env y) ys true)(hE:r5 X.P T=some E)(hz:l5 X.P E=some z)(hrz:r.z=z)(hel:∀e∈ys,e.cells.length=z)(hn:ys.length≤r.els.length)(hzp:0<z)
  (hK:∀g' a' w',r7 X g' ⟨F3 st.env o.dst (.int .i64 ys.length),(G8.cpy l ys).apply st.σ⟩ a' w'→K a' w'):o.wpIn (FX ρ) n X.P a w K Q:=by
 simp only[G8.apply,hl] at hK;have hv:=h.eval x;have hu:=h.eval y;rw[hx] at hv;obtain⟨hp,e⟩:=hv.O6;have hR:=h.rows l r hl;have hmz:(g.μ l).z=z:=by rw[hR.z,hrz]
 obtain⟨B,cB,vals,eB,hyel,hlv,hvr,hone,hvc⟩:=Src.reads h hu hy (z:=z) hel;have hu':=C0 hE;have hnn:=hR.n;have hmin:Nat.min ys.length (g.μ l).n=ys.length:=Nat.min_eq_left (by omega);obtain⟨cs,hc⟩:=J7 (a:=a) ho;have hfc:(Builtin.firstCells z ys.length (a.eval y)).run X.P w = .ok vals.toArray w:=by
  rw[eB];rcases Nat.eq_zero_or_pos ys.length with q | q
  ·have h0:vals = []:=List.eq_nil_of_length_eq_zero (by rw[hlv,q,Nat.zero_mul]);subst h0;rw[q];cases B <;> simp[Builtin.firstCells,loadCells,loadCellsFrom]
  ·obtain⟨bB,sB,rfl,hBc⟩:=hvc q;exact run_firstCells_some (P:=X.P) w z ys.length ⟨bB,sB,none⟩ ys.length cB vals hlv (λj u hj=>by rw[B0];exact hBc j u hj)
 have hrun:∀w',(∀A,(g.μ l).A=some A→(storeCells A vals).run X.P w = .ok () w')→((g.μ l).A=none→w'=w)→(Builtin.copy_ #[T,U] o.type #[.slice (g.μ l).A (g.μ l).n (g.μ l).C,a.eval y]).run X.P w = .ok (.int .i64 ys.length) w':=by
  intro w' h1 h2;have hle:(Builtin.lenOf (a.eval y)).run X.P w = .ok ys.length w:=by rw[eB];rfl
  cases hA:(g.μ l).A with
  | none=>
   have:=h2 hA;subst this;simp only[Builtin.copy_,Sem.run_bind,run_underlying hu',Result.andThen_ok,hle,hmin,w4 hz,hfc,List.getElem?_toArray,List.getElem?_cons_zero,List.getElem?_cons_succ];rfl
  | some A=>
   have:=h1 A hA;simp only[Builtin.copy_,Sem.run_bind,run_underlying hu',Result.andThen_ok,hle,hmin,w4 hz,hfc,List.getElem?_toArray,List.getElem?_cons_zero,List.getElem?_cons_succ,this];rfl
 have hargs:(#[x,y]:Array Operand).map a.eval = #[.slice (g.μ l).A (g.μ l).n (g.μ l).C,a.eval y]:=by simp[e]
 rcases Nat.eq_zero_or_pos vals.length with hv0 | hv0
 ·have h0:vals = []:=List.eq_nil_of_length_eq_zero hv0;subst h0;have hr:=hrun w (λA _=>rfl) (λ_=>rfl);refine w5 (λc=>by rw[ho];simp) (v:=.int .i64 ys.length) (w':=w) (by rw[hc,hargs];exact y5 hr) ?_;have hsame:r7 X g ⟨st.env,o0 st.σ l (some { r with els:=ys++r.els.drop ys.length })⟩ a w:=by
   by_cases hys:ys = []
   ·subst hys;simp only[List.nil_append,List.length_nil,List.drop_zero];rw[show o0 st.σ l (some { r with els:=r.els })=st.σ from by funext i;unfold o0;split <;> simp_all];exact h
   ·have hz0:z=0:=by
     have h0:ys.length*z=0:=by simpa using hlv.symm
     rcases Nat.mul_eq_zero.1 h0 with q | q
     ·exact absurd (List.eq_nil_of_length_eq_zero q) hys
     ·exact q
    omega
  exact hK g _ _ (hsame.put hdst (.cl (.int _ _)))
 ·have hC:=hR.C;have hys:0<ys.length:=by
   rcases Nat.eq_zero_or_pos ys.length with q | q
   ·rw[q,Nat.zero_mul] at hlv;omega
   ·exact q
  obtain⟨b,s,hA⟩:=hR.spot (by omega);have hmine:∀j,j<vals.length→A2 (g.μ l) r b (s+j):=λj hj=>⟨s,hA,by rw[hlo];omega,by
   have:ys.length*z≤(if r.opn then (g.μ l).C else (g.μ l).n)*(g.μ l).z:=by rw[hmz];exact Nat.mul_le_mul_right _ (by split <;> omega)
   omega⟩
  have hst:=run_storeCells_cells (P:=X.P) b s vals 0 w (λj hj=>by simpa using (hR.own b _ (hmine j hj)).2.1) (λj hj=>by simpa using (hR.own b _ (hmine j hj)).2.2) (λu hu=>by rw[←a9r];exact hone u hu);simp only[Nat.add_zero] at hst;have hr:=hrun (w.setCells b s vals) (λA hA'=>by rw[hA] at hA';cases hA';exact hst) (λq=>by rw[hA] at q;cases q);refine w5 (λc=>by rw[ho];simp) (v:=.int .i64 ys.length) (w':=w.setCells b s vals) (by rw[hc,hargs];exact y5 hr) ?_;have hW:=h.write (l:=l) (r:=r) (b:=b) (o:=s) (vs:=vals) (els:=ys++r.els.drop ys.length) (cl:=r.cl) hl hmine (by simp;omega)
   (λx hx=>by
    rcases List.mem_append.1 hx with q | q
    ·exact⟨hyel x q,by rw[hrz];exact hel x q⟩
    ·exact hR.el x (List.mem_of_mem_drop q))
   (λi x j y hx hy=>by
    rcases Nat.lt_or_ge i ys.length with q | q
    ·rw[List.getElem?_append_left q] at hx;have hxz:=hel x (List.mem_of_getElem? hx);have hj:=PV.u7 hy;have hlt:i*z+j<vals.length:=by
      have:(i+1)*z≤ys.length*z:=Nat.mul_le_mul_right _ (by omega);rw[Nat.add_mul,Nat.one_mul] at this;omega
     have hrd:=hvr i x j y _ hx hy (List.getElem?_eq_getElem hlt);have hin:=World.cell?_setCells_in b vals s w (λj' hj'=>(hR.own b _ (hmine j' hj')).2.1) _ hlt;rw[←Nat.add_assoc] at hin;exact⟨b,s,_,hA,by rw[hmz];exact hin,hrd.1,λq'=>by omega,λ_=>hrd.2 rfl⟩
    ·rw[List.getElem?_append_right q,List.getElem?_drop,show ys.length+(i-ys.length)=i by omega] at hx;obtain⟨b',s',u,k1,k2,k3,k4,k5⟩:=hR.cell i x j y hx hy;rw[hA] at k1;cases k1;refine⟨b,s,u,hA,?_,k3,k4,k5⟩;rw[World.cell?_setCells_out b vals s w _ λ_ _=>?_];·exact k2
     ·right;have:ys.length*z≤i*(g.μ l).z:=by rw[hmz];exact Nat.mul_le_mul_right _ q
      simp only;omega) hv0
  exact hK g _ _ (hW.put hdst (.cl (.int _ _)))
theorem Rd0.flat{w:World}{imm:Nat→Nat→Prop}{v:Value}{d:PV}(h:Rd0 w imm v d)(hf:d.flat=true)(w':World)(imm':Nat→Nat→Prop):Rd0 w' imm' v d:=by
 have h1:∀ {v:Value} {d:PV},Rd0 w imm v d→d.a7h=true→Rd0 w' imm' v d:=by
  intro v d h hf;cases h <;> first | (simp[PV.a7h] at hf;done) | skip
  ·exact .bool _
  ·exact .int _ _
  ·exact .str _
 cases h <;> first | (simp[PV.flat,PV.a7h] at hf;done) | skip
 case bool b=>exact .bool b
 case int k m=>exact .int k m
 case str s=>exact .str s
 case agg vs cs hsc hn hc=>exact .agg vs cs hsc hn λi v c hv hc'=>h1 (hc i v c hv hc') (by simp only[PV.flat,List.all_eq_true] at hf;exact hf c (List.mem_of_getElem? hc'))
 case tup vs cs hn hc=>
  refine .tup vs cs hn λi v c hv hc'=>?_;have hq:=hc i v c hv hc';simp only[PV.flat,List.all_eq_true] at hf;have hq2:=hf c (List.mem_of_getElem? hc');by_cases e:∃es,c = .agg es
  ·obtain⟨es,rfl⟩:=e;cases hq with
   | agg us _ hsc hn' hc2=>exact .agg us es hsc hn' λi v c hv hc3=>h1 (hc2 i v c hv hc3) (by simp only[PV.b4O,List.all_eq_true] at hq2;exact hq2 c (List.mem_of_getElem? hc3))
  ·exact h1 hq (by cases c <;> first | exact hq2 | exact absurd ⟨_,rfl⟩ e)
theorem a0h{o:Oper}{x:Operand}{args:Array Operand}{ts:Array TypeId}{f:FuncId}{vs:Array Value}(ho:o.op = .call { callee:=.value x,args,argTypes:=ts })(hx:a.eval x = .func (.func f) #[] vs)
  (hb:∃fn c,P.funcs[f]? = some fn∧fn.body=some c∧fn.name ≠ "runtime.NumGoroutine"):(execOp a.eval o).run P w = .ok (.enter f (args.map a.eval++vs)) w:=by
 obtain⟨fn,c,h1,h2,h3⟩:=hb;obtain⟨dst,op,ty,pos,after,guard⟩:=o;simp only at ho;subst ho;have hne:(fn.name == "runtime.NumGoroutine")=false:=by simpa using h3
 simp only[execOp,resolve,hx,Deferred.ofValue,Sem.run_bind,Sem.run_pure,Result.andThen_ok,invoke,callFunc,program,Sem.run,h1,hne,h2];simp
theorem a0r{w:World}{imm:Nat→Nat→Prop}{μ:Nat→A6}{j2:Nat→Prop}{v:Value}{f:Fn}{cap:List PV}(h:Rd w imm μ j2 v (.fn f cap)) :
  ∃vs:Array Value,v = .func f #[] vs∧vs.size=cap.length∧∀(i:Nat) v c,vs[i]? = some v→cap[i]? = some c→Rd w imm μ j2 v c:=by
 cases h with
 | cl h=>cases h with | fn _ vs _ hn h=>exact⟨vs,rfl,hn,λi v c hv hc=>.cl (h i v c hv hc)⟩
 | fn _ vs _ hn h=>exact⟨vs,rfl,hn,h⟩
theorem a5o{σ σF:Nat→Option Row}(hs:y6 σ σF){w:World}{imm:Nat→Nat→Prop}{μ:Nat→A6}{v:Value}{d:PV}(hr:Rd w imm μ (λl=>∃r,σ l=some r) v d) :
  d.v0 σF=d.v0 σ∧d.R8 σF=d.R8 σ:=by
 cases d <;> first | exact⟨rfl,rfl⟩ | skip
 rename_i l;obtain⟨⟨r,hl⟩,_⟩:=hr.O6;obtain⟨r',h1,h2,h3,h4⟩:=hs l r hl;simp only[PV.v0,PV.R8,hl,h1,h2,h4,and_self]
theorem a6P{σF:Nat→Option Row}(h:r7 X g st a w)(hs:y6 st.σ σF){v:Value}{d:PV}(hr:Rd w g.imm g.μ st.j2 v d) :
  d.v2 σF=d.v2 st.σ∧d.a1A σF=d.a1A st.σ∧d.E7 σF=d.E7 st.σ:=by
 by_cases hd:∃l i f,d = .ptr l i f
 ·obtain⟨l,i,f,rfl⟩:=hd;obtain⟨⟨r,hl⟩,b,s,hA,_⟩:=hr.J9;obtain⟨r',h1,h2,h3,h4⟩:=hs l r hl;simp only[PV.v2,PV.a1A,PV.E7,hl,h1,h2];cases hx:r.els[i]? with
  | none=>exact⟨rfl,rfl,trivial⟩
  | some x=>
   simp only;have hall:∀y∈x.cells.drop f,y.v0 σF=y.v0 st.σ∧y.R8 σF=y.R8 st.σ:=by
    intro y hy;obtain⟨j,hj⟩:=List.getElem?_of_mem hy;obtain⟨u,_,k2,_⟩:=h.cell_of hl hx (a7a hj) hA;exact a5o hs k2
   have hok:∀(L:List PV),(∀y∈L,y.v0 σF=y.v0 st.σ∧y.R8 σF=y.R8 st.σ)→(L.all λy=>y.R8 σF&&y.sc)=(L.all λy=>y.R8 st.σ&&y.sc):=by
    intro L hL;induction L with
    | nil=>rfl
    | cons y L ih=>
     simp only[List.all_cons];rw[(hL y (by simp)).2,ih λz hz=>hL z (by simp[hz])]
   exact⟨by rw[List.map_congr_left λy hy=>(hall y hy).1],hok _ hall,trivial⟩
 ·have e:d.v2 σF=d.v0 σF:=by cases d <;> first | rfl | exact absurd ⟨_,_,_,rfl⟩ hd
  have e1:d.v2 st.σ=d.v0 st.σ:=by cases d <;> first | rfl | exact absurd ⟨_,_,_,rfl⟩ hd
  have e2:d.a1A σF=d.R8 σF:=by cases d <;> first | rfl | exact absurd ⟨_,_,_,rfl⟩ hd
  have e3:d.a1A st.σ=d.R8 st.σ:=by cases d <;> first | rfl | exact absurd ⟨_,_,_,rfl⟩ hd
  have e4:d.E7 σF=d.E7 st.σ:=by cases d <;> first | rfl | exact absurd ⟨_,_,_,rfl⟩ hd
  rw[e,e1,e2,e3,e4];exact⟨(a5o hs hr).1,(a5o hs hr).2,rfl⟩
theorem a1O{α:Type}{p q:α→Bool}:∀ {L:List α},(∀y∈L,p y=q y)→L.all p=L.all q
 | [],_=>rfl
 | y::L,h=>by rw[List.all_cons,List.all_cons,h y (by simp),a1O λz hz=>h z (by simp[hz])]
theorem I5{α β:Type}{p q:α→List β}:∀ {L:List α},(∀y∈L,p y=q y)→L.flatMap p=L.flatMap q
 | [],_=>rfl
 | y::L,h=>by rw[List.flatMap_cons,List.flatMap_cons,h y (by simp),I5 λz hz=>h z (by simp[hz])]
theorem a6Q{σF:Nat→Option Row}(h:r7 X g st a w)(hs:y6 st.σ σF){v:Value}{d:PV}(hr:Rd w g.imm g.μ st.j2 v d) :
  d.v3 σF=d.v3 st.σ∧d.a2m σF=d.a2m st.σ∧d.K0 σF=d.K0 st.σ:=by
 have hcs:∀ {vs:Array Value} {cs:List PV},vs.size=cs.length→(∀(i:Nat) v c,vs[i]? = some v→cs[i]? = some c→Rd w g.imm g.μ st.j2 v c)→∀y∈cs,∃v,Rd w g.imm g.μ st.j2 v y:=by
  intro vs cs hn hc y hy;obtain⟨j,hj⟩:=List.getElem?_of_mem hy;have hlt:=r6 hj;exact⟨_,hc j _ y (Array.getElem?_eq_getElem (by omega)) hj⟩
 cases d;case agg cs=>
  obtain⟨vs,_,hn,hc⟩:=hr.T4;have hall:=hcs hn hc;simp only[PV.v3,PV.a2m,PV.K0];exact⟨by rw[List.map_congr_left λy hy=>(a5o hs (hall y hy).choose_spec).1],a1O λy hy=>by rw[(a5o hs (hall y hy).choose_spec).2],trivial⟩
 case fn f cap=>
  obtain⟨vs,_,hn,hc⟩:=a0r hr;have hall:=hcs hn hc;simp only[PV.v3,PV.a2m,PV.K0];exact⟨by rw[List.map_congr_left λy hy=>(a6P h hs (hall y hy).choose_spec).1],a1O λy hy=>by rw[(a6P h hs (hall y hy).choose_spec).2.1],
   I5 λy hy=>(a6P h hs (hall y hy).choose_spec).2.2⟩
 all_goals exact a6P h hs hr
theorem b2d{σF:Nat→Option Row}(h:r7 X g st a w)(hs:y6 st.σ σF){v:Value}{d:PV}(hr:Rd w g.imm g.μ st.j2 v d) :
  d.view σF=d.view st.σ∧d.vok σF=d.vok st.σ∧d.D0 σF=d.D0 st.σ:=by
 have hcs:∀ {vs:Array Value} {cs:List PV},vs.size=cs.length→(∀(i:Nat) v c,vs[i]? = some v→cs[i]? = some c→Rd w g.imm g.μ st.j2 v c)→∀y∈cs,∃v,Rd w g.imm g.μ st.j2 v y:=by
  intro vs cs hn hc y hy;obtain⟨j,hj⟩:=List.getElem?_of_mem hy;have hlt:=r6 hj;exact⟨_,hc j _ y (Array.getElem?_eq_getElem (by omega)) hj⟩
 cases d;case tup cs=>
  obtain⟨vs,_,hn,hc⟩:=hr.a6O;have hall:=hcs hn hc;simp only[PV.view,PV.vok,PV.D0];exact⟨by rw[List.map_congr_left λy hy=>(a6Q h hs (hall y hy).choose_spec).1],a1O λy hy=>(a6Q h hs (hall y hy).choose_spec).2.1,
   I5 λy hy=>(a6Q h hs (hall y hy).choose_spec).2.2⟩
 all_goals exact a6Q h hs hr
theorem a6I(h:r7 X g st a w){args:Array Operand}{vs:Array Value}{cap:List PV}(hn:vs.size=cap.length)(hc:∀(i:Nat) v c,vs[i]? = some v→cap[i]? = some c→Rd w g.imm g.μ st.j2 v c) :
  (args.map a.eval++vs).size=(args.toList.map (p6 st.env)++cap).length∧∀(i:Nat) v d,(args.map a.eval++vs)[i]? = some v→(args.toList.map (p6 st.env)++cap)[i]? = some d→Rd w g.imm g.μ st.j2 v d:=by
 refine⟨by simp[hn],λi v d hv hd=>?_⟩;rcases Nat.lt_or_ge i args.size with q | q
 ·rw[Array.getElem?_append_left (by simpa using q)] at hv;rw[List.getElem?_append_left (by simpa using q)] at hd;simp[Array.getElem?_map,Array.getElem?_eq_getElem q] at hv hd;rw[←hv,←hd];exact h.eval _
 ·rw[Array.getElem?_append_right (by simpa using q)] at hv;rw[List.getElem?_append_right (by simpa using q)] at hd;simp at hv hd;exact hc _ v d hv hd
theorem a1C{σF:Nat→Option Row}(h:r7 X g st a w)(hs:y6 st.σ σF){imm2:Nat→Nat→Prop}(hx:Ext w g.imm w imm2){vs:Array Value}{ds:List PV}(hn:vs.size=ds.length)
  (hr:∀(i:Nat) v d,vs[i]? = some v→ds[i]? = some d→Rd w g.imm g.μ st.j2 v d)(hok:ds.all (PV.vok σF)=true)
  (hsh:∀l∈ds.flatMap (PV.D0 σF),∀r,st.σ l=some r→Shown imm2 (g.μ l) r):RdL w imm2 vs (ds.map (PV.view σF)):=by
 refine⟨by simp[hn],λi v d hv hd=>?_⟩;rw[List.getElem?_map] at hd;cases hd0:ds[i]? with
 | none=>rw[hd0] at hd;cases hd
 | some d0=>
  rw[hd0] at hd;cases hd;have hm:=List.mem_of_getElem? hd0;have hrd:=hr i v d0 hv hd0;obtain⟨e1,e2,e3⟩:=b2d h hs hrd;rw[e1];refine h.view hx hrd (by rw[←e2];exact List.all_eq_true.1 hok d0 hm) λl hl r hr'=>hsh l (List.mem_flatMap.2 ⟨d0,hm,by rw[e3];exact hl⟩) r hr'
theorem r7.called(h:r7 X g st a w){w':World}(hb:Bel w.heap.size w w')(N:Nat→Nat→Prop) :
  r7 X ⟨λb o=>g.imm b o∨(N b o∧w.heap.size≤b∧b<w'.heap.size),g.μ⟩ st a w':=by
 refine h.move ⟨λ_ _ q=>.inl q,λb o q=>hb.cell (p:=⟨b,o,none⟩) (h.immlt b o q),λb o x q hx _=>by rw[hb.block b (h.immlt b o q)];exact hx⟩
  (λl r b o hl ho=>⟨hb.cell (p:=⟨b,o,none⟩) (h.O4 hl ho).2,hb.frozen (p:=⟨b,o,none⟩) (h.O4 hl ho).2,?_⟩) (λb o q=>?_) (λb o q=>?_) (h.below.trans (hb.mono h.below.size))
  (λk x hx _=>by rw[hb.block k (Array.getElem?_eq_some_iff.1 hx).1];exact hx)
  (λb o x q hx _=>q.elim id λ⟨_,q,_⟩=>absurd (Array.getElem?_eq_some_iff.1 hx).1 (Nat.not_lt.2 q))
 ·rintro (q | ⟨_,q,_⟩);·exact h.ownimm l r b o hl ho q
  ·have:=(h.O4 hl ho).2;omega
 ·rcases q with q | ⟨_,_,q⟩
  ·exact Nat.lt_of_lt_of_le (h.immlt b o q) hb.size
  ·exact q
 ·rcases q with q | ⟨_,q,_⟩
  ·exact h.immsub b o q
  ·right;have:=h.below.size;omega
end
end Go.Pw
namespace Go.Pw
open Go.RowKit
section
variable{X:Ctx}{g:Gh}{st:St}{a:Act}{w:World}{n:Nat}{K:Act→World→Prop}{Q:Exit→Act→World→Prop}{ρ:Option Nat}{P:Program}
theorem RdL.w2{w:World}{imm:Nat→Nat→Prop}{vs:Array Value}{ds:List PV}{σ:Nat→Option Row}(h:RdL w imm vs (ds.map (PV.view σ))):RdL w imm vs (ds.map (PV.vw σ)):=by
 refine⟨by simpa using h.1,λi v d hv hd=>?_⟩;obtain⟨c0,k1,rfl⟩:=U3 hd;exact (h.2 i v (c0.view σ) hv (by rw[List.getElem?_map,k1];rfl)).w2
theorem b4j{o:Oper}{x:Operand}{args:Array Operand}{ts:Array TypeId}{f:FuncId}{cap:List PV}{d:PV}{σF:Nat→Option Row}(h:r7 X g st a w)(hs:y6 st.σ σF)(ho:o.op = .call { callee:=.value x,args,argTypes:=ts })
  (hdst:∀t,o.dst=some t→t<X.N)(hf:p6 st.env x = .fn (.func f) cap)(hb:∃fn c,X.P.funcs[f]? = some fn∧fn.body=some c∧fn.name ≠ "runtime.NumGoroutine")
  (hok:(args.toList.map (p6 st.env)++cap).all (PV.vok σF)=true)(hc:E5 X.P f ((args.toList.map (p6 st.env)++cap).map (PV.vw σF)) d)(hfl:d.flat=true)
  (hK:∀g' a' w',r7 X g' ⟨F3 st.env o.dst d,st.σ⟩ a' w'→K a' w'):o.wpIn (FX ρ) n X.P a w K Q:=by
 have hv:=h.eval x;rw[hf] at hv;obtain⟨vs,e,hn,hcap⟩:=a0r hv;obtain⟨hsz,hrd⟩:=a6I h (args:=args) hn hcap;obtain⟨imm2,hF,hX,hSh⟩:=h.F6 ((args.toList.map (p6 st.env)++cap).flatMap (PV.D0 σF));have hargs:=a1C h hs hX hsz hrd hok (λl hl r hr=>hSh l hl r hr) |>.w2;refine M8 (λc=>by rw[ho];simp) (a0h ho e hb) ((hc w imm2 _ hF.immlt h.gt hargs).mono λev w' hr=>?_);obtain⟨v,rfl,hbel,hres⟩:=hr;refine⟨v,rfl,?_⟩;have hS:=h.called hbel (λ_ _=>False);exact hK _ _ _ (hS.put hdst (.cl (hres.flat hfl _ _)))
theorem b2W{o:Oper}{x:Operand}{args:Array Operand}{ts:Array TypeId}{f:FuncId}{cap:List PV}{d:PV}{σF:Nat→Option Row}(h:r7 X g st a w)(hs:y6 st.σ σF)(ho:o.op = .call { callee:=.value x,args,argTypes:=ts })
  (hdst:∀t,o.dst=some t→t<X.N)(hf:p6 st.env x = .fn (.func f) cap)(hb:∃fn c,X.P.funcs[f]? = some fn∧fn.body=some c∧fn.name ≠ "runtime.NumGoroutine")
  (hok:(args.toList.map (p6 st.env)++cap).all (PV.vok σF)=true)(hc:E5 X.P f ((args.toList.map (p6 st.env)++cap).map (PV.vw σF)) d)
  (hK:∀g' a' w',r7 X g' ⟨F3 st.env o.dst d,F6 st.σ ((args.toList.map (p6 st.env)++cap).flatMap (PV.D0 σF))⟩ a' w'→K a' w'):o.wpIn (FX ρ) n X.P a w K Q:=by
 have hv:=h.eval x;rw[hf] at hv;obtain⟨vs,e,hn,hcap⟩:=a0r hv;obtain⟨hsz,hrd⟩:=a6I h (args:=args) hn hcap;obtain⟨imm2,hF,hX,hSh⟩:=h.F6 ((args.toList.map (p6 st.env)++cap).flatMap (PV.D0 σF));have hargs:=a1C h hs hX hsz hrd hok (λl hl r hr=>hSh l hl r hr) |>.w2;refine M8 (λc=>by rw[ho];simp) (a0h ho e hb) ((hc w imm2 _ hF.immlt h.gt hargs).mono λev w' hr=>?_);obtain⟨v,rfl,hbel,hres⟩:=hr;refine⟨v,rfl,?_⟩;have hS:=hF.called hbel (λ_ _=>True);refine hK _ _ _ (hS.put hdst (.cl (hres.mono ⟨λb o q=>?_,λ_ _ _=>rfl,λ_ _ _ _ q _=>q⟩)));rcases q with q | ⟨q1,q2⟩
 ·exact .inl q
 ·exact .inr ⟨trivial,q1,q2⟩
theorem b2X{o:Oper}{x:Operand}{args:Array Operand}{ts:Array TypeId}{f:FuncId}{cap:List PV}{r:Row}{l:Nat}{σF:Nat→Option Row}(h:r7 X g st a w)(hs:y6 st.σ σF)(ho:o.op = .call { callee:=.value x,args,argTypes:=ts })
  (hdst:∀t,o.dst=some t→t<X.N)(hlm:l<MB)(hl:st.σ l=none)(hf:p6 st.env x = .fn (.func f) cap)(hb:∃fn c,X.P.funcs[f]? = some fn∧fn.body=some c∧fn.name ≠ "runtime.NumGoroutine")
  (hok:(args.toList.map (p6 st.env)++cap).all (PV.vok σF)=true)(hc:a1E X.P f ((args.toList.map (p6 st.env)++cap).map (PV.vw σF)) r)
  (hK:∀g' a' w',r7 X g' ⟨F3 st.env o.dst (.sl l),o0 (F6 st.σ ((args.toList.map (p6 st.env)++cap).flatMap (PV.D0 σF))) l (some r)⟩ a' w'→K a' w'):o.wpIn (FX ρ) n X.P a w K Q:=by
 have hv:=h.eval x;rw[hf] at hv;obtain⟨vs,e,hn,hcap⟩:=a0r hv;obtain⟨hsz,hrd⟩:=a6I h (args:=args) hn hcap;generalize hls:(args.toList.map (p6 st.env)++cap).flatMap (PV.D0 σF)=ls at hK;obtain⟨imm2,hF,hX,hSh⟩:=h.F6 ls;have hargs:=a1C h hs hX hsz hrd hok (λl hl r hr=>hSh l (by rw[←hls];exact hl) r hr) |>.w2;refine M8 (λc=>by rw[ho];simp) (a0h ho e hb) ((hc w imm2 _ hF.immlt h.gt hargs).mono λev w' hr=>?_);obtain⟨m,rfl,hbel,hRow,hown⟩:=hr;refine⟨_,rfl,?_⟩;have hS:=hF.called hbel (λb o=>¬A2 m r b o);have hl':F6 st.σ ls l=none:=by
  clear hS hRow hargs hSh hF hK hc hls;revert hl
  generalize st.σ=σ;intro hl;induction ls generalizing σ with
  | nil=>exact hl
  | cons k ls ih=>
   refine ih (a1b σ k) ?_;unfold a1b;cases hk:σ k with
   | none=>exact hl
   | some q=>
    by_cases e:l=k
    ·subst e;rw[hl] at hk;cases hk
    ·simp only[e6 _ _ e];exact hl
 have hx2:Ext w' (λb o=>Z1 imm2 w w' b o∧¬A2 m r b o) w' (λb o=>imm2 b o∨(¬A2 m r b o∧w.heap.size≤b∧b<w'.heap.size)):=by
  refine⟨λb o q=>?_,λ_ _ _=>rfl,λ_ _ _ _ q _=>q⟩;rcases q with ⟨q | ⟨q1,q2⟩,q3⟩;·exact .inl q
  ·exact .inr ⟨q3,q1,q2⟩
 have hRow':=hRow.mono (μ':=g.μ) (pres':=St.j2 ⟨st.env,F6 st.σ ls⟩) hx2 (λ_ q=>q.elim) (λb o ho=>⟨rfl,rfl⟩);have hbase:=h.below.size;have hN:=hS.row (l:=l) (m:=m) (r:=r) hlm hl' ⟨hRow'.n,hRow'.z,hRow'.C,hRow'.lo,hRow'.el,hRow'.nil,hRow'.spot,hRow'.cell,λb o ho=>⟨by have:=(hRow'.own b o ho).1;omega,(hRow'.own b o ho).2⟩⟩
  (λl' r' b o q ho k=>by have:=(hF.O4 q ho).2;have:=hown b o k;omega)
  (λb o q k=>by
   rcases k with k | ⟨k,_⟩
   ·have:=hF.immlt b o k;have:=hown b o q;omega
   ·exact k q)
 exact hK _ _ _ (hN.put hdst (U8 ⟨_,j4 _ _ _⟩ (j4 _ _ _)))
theorem small(h:r7 X g st a w){dst:Option Tmp}(hdst:∀t,dst=some t→t<X.N){l:Nat}(hd:dst=some l):l<MB:=by
 exact Nat.lt_of_lt_of_le (hdst l hd) (Nat.le_trans h.big.1 (by decide))
set_option maxHeartbeats 2000000 in
theorem b2Z {o:Oper} {σF:Nat→Option Row} {d:PV} {e:G8} (h:r7 X g st a w) (hop:u6 X.P σF (p6 st.env) o.dst o.op d e) (hs:y6 st.σ σF) (hok:e.ok st.σ) (hdst:∀t,o.dst=some t→t<X.N)
  (hK:∀g' a' w',r7 X g' ⟨F3 st.env o.dst d,e.apply st.σ⟩ a' w'→K a' w'):o.wpIn (FX ρ) n X.P a w K Q:=by
 by_cases hl:match o.op with | .move _ | .assign _ | .pick .. | .load .. | .nilCheck _ | .unOp .. | .binOp .. | .convert .. | .fieldAddr .. | .field .. | .indexAddr .. | .extract .. | .makeFunc .. => True | _=>False
 ·obtain⟨rfl,hu⟩:=b4o h hop hs hl;refine T9 h (λc q=>?_) hdst hu hK;rw[q] at hl;exact hl
 obtain⟨dst,op,ty,pos,after,guard⟩:=o;simp only at hop hl;have hsrc:∀ {y:Operand} {ys:List PV} {cl:Bool},Src σF (p6 st.env y) ys cl→Src st.σ (p6 st.env y) ys cl:=λ{y ys cl} hy=>hy.same hs λl e=>by
  have:=h.eval y;rw[e] at this;exact this.O6.1
 have hrow:∀ {y:Operand} {l:Nat} {r:Row},p6 st.env y = .sl l→σF l=some r→∃r0,st.σ l=some r0∧r0.els=r.els∧r0.z=r.z∧r0.cl=r.cl:=λ{y l r} e hr=>by
  have:=h.eval y;rw[e] at this;exact hs.at this.O6.1 hr
 cases hop <;> first | (exact absurd trivial hl) | skip
 case pureV hnd hnl hc=>exact T9 h hnd hdst (hc _ w g.imm g.μ st.j2 a.eval rfl λx _=>h.eval x) hK
 case box T x l hd hx=>exact b5M h rfl hdst (small h hdst hd) hok hx hK
 case alloc T l v hd hz hx=>exact b2T h rfl hdst (small h hdst hd) hok hz hx (b1x v) hK
 case store T x y l i f d hx hd hy hsz hpos=>exact b20 h rfl hdst hx hd hy hsz hpos hok hK
 case build T parts pl z zs cs hpl hz hzs hsc hf=>exact T9 h (λc q=>by cases q) hdst (b2U h rfl hpl hz hzs hf hsc) hK
 case mkSlice T x y l k k' m E z v hd hx hy h0 hE hz hv hel hvz b hb hbm hn=>exact b0V h rfl hdst (small h hdst hd) hok hx hy h0 hE hz hv hel hvz hb hbm hn hK
 case lenL x t xs T hx hT ts hts=>exact T9 h (λc q=>by cases q) hdst (b4l h rfl hx hT hts) hK
 case lenR x l r T hx hl' hT ts hts=>
  obtain⟨r0,k1,k2,_⟩:=hrow hx hl';have:=b4m h (o:=⟨dst,.call { callee:=.builtin .len,args:=#[x],argTypes:=ts },ty,pos,after,guard⟩) rfl hx k1 hT hts;rw[k2] at this;exact T9 h (λc q=>by cases q) hdst this hK
 case lenS x s T hx hT ts hts=>exact T9 h (λc q=>by cases q) hdst (b4n h rfl hx hT hts) hK
 case min2 x y k p q ts hx hy=>exact T9 h (λc q=>by cases q) hdst (b5O h rfl hx hy) hK
 case max2 x y k p q ts hx hy=>exact T9 h (λc q=>by cases q) hdst (b5N h rfl hx hy) hK
 case call f args ts cap x hf hb hok' hc hfl=>exact b4j h hs rfl hdst hf hb hok' hc hfl hK
 case callF f args ts cap x hf hb hok' hc=>exact b2W h hs rfl hdst hf hb hok' hc hK
 case callN f args ts cap l r x hd hf hb hok' hc hcl=>exact b2X h hs rfl hdst (small h hdst hd) hok hf hb hok' hc hK
 case appT x y T E xs ys cl z by_ l zv hd hx hy hE hz hb hzv hzz hel hfit h63=>exact b4i h rfl hdst (small h hdst hd) hok hx (hsrc hy) hE hz hb hzv hzz hel hfit h63 hK
 case appR x y T E s r ys cl z by_ l zv hd hx hs' hy hE hz hb hzv hzz hel hrz hfit h63=>
  obtain⟨r0,k1,k2,k3,k4⟩:=hrow hx hs';obtain⟨hl',q,hq,hop⟩:=hok;rw[k1] at hq;cases hq;rw[←k2,←k4] at hK;rw[←k2] at hel hfit h63;rw[←k3] at hrz;exact b4h h rfl hdst (small h hdst hd) hl' hx k1 hop (hsrc hy) hE hz hb hzv hzz hel hrz hfit h63 hK
 case buildSlice T E parts len z l zv els cl hd hE hz hzv hlen hel hbig hf hcl=>exact a8a h rfl hdst (small h hdst hd) hok hE hz hzv hlen hel hbig hf hcl hK
 case buildI T E parts len z zv els hE hz hzv hlen hel hbig hf hcl=>exact b10 h rfl hdst hE hz hzv hlen hel hbig hf hcl hK
 case nilSlice T E parts l z hd hE hz hp=>
  subst hp;have hu:=C0 hE;refine w5 (v:=.slice (some ⟨w.heap.size,0,none⟩) 0 0) (w':=w.alloc (.cells #[] E)) (λc q=>by cases q) ?_ (hK g _ _ ((h.alloc _).put hdst (.cl ?_)))
  ·refine y5 ?_;simp only[Instr.buildSlice,Sem.run_bind,run_underlying hu,Result.andThen_ok,w4 hz];simp[Instr.fill,newRow,Array.range_zero']
  ·exact .lst (some ⟨w.heap.size,0,none⟩) 0 1 true [] (λ_ _=>undef) (Nat.le_refl _) (λ_=>rfl) (λq=>by cases q) (λ_ q=>by simp at q) (λq=>absurd q (Nat.lt_irrefl _)) (λi x j y q=>by simp at q)
 case sliceL T E z x lo hi mx t xs i j k hx hE hz hel hlo hhi hmx hmh hij hjk hk=>exact T9 h (λc q=>by cases q) hdst (b12 h rfl hx hE hz hel hlo hhi hmx hmh hij hjk hk) hK
 case sliceR T E z x lo s r i l hd hx hs' hE hz hrz hlo hi=>
  obtain⟨r0,k1,k2,k3,k4⟩:=hrow hx hs';obtain⟨hl',q,hq,hop⟩:=hok;rw[k1] at hq;cases hq;rw[←k2,←k4] at hK;rw[←k2] at hi;rw[←k3] at hrz;exact b13 h rfl hdst (small h hdst hd) hl' hx k1 hop hE hz hrz hlo hi hK
 case sliceF T E z x lo hi s r i j hx hs' hcl hE hz hrz hlo hhi hij hj=>
  obtain⟨r0,k1,k2,k3,k4⟩:=hrow hx hs';rw[←k2] at hK hhi hj;rw[←k3] at hrz;rw[←k4] at hcl;exact b11 h rfl hdst hx k1 hcl hE hz hrz hlo hhi hij hj hK
 case copy x y T U E l r ys z hx hl' hcl hy hE hz hrz hel hn hzp=>
  obtain⟨r0,k1,k2,k3,k4⟩:=hrow hx hl';obtain⟨q,hq,hlo,_⟩:=hok;rw[k1] at hq;cases hq;rw[←k2] at hn;rw[←k3] at hrz;rw[←k4] at hcl;exact b4k h rfl hdst hx k1 hcl hlo (hsrc hy) hE hz hrz hel hn hzp hK
end
end Go.Pw
namespace Go.Pw
open Go.RowKit
theorem a3I{σ σ':Nat→Option Row}(hs:y6 σ σ'){d:PV}(h:d.R8 σ=true):d.v0 σ'=d.v0 σ∧d.R8 σ'=true:=by
 cases d <;> first | exact⟨rfl,h⟩ | skip
 rename_i l;simp only[PV.R8] at h;cases hl:σ l with
 | none=>rw[hl] at h;cases h
 | some r=>
  rw[hl] at h;obtain⟨r',h1,h2,h3,h4⟩:=hs l r hl;simp only[PV.v0,PV.R8,hl,h1,h2,h4];exact⟨trivial,h⟩
theorem H9{σ σ':Nat→Option Row}(hs:y6 σ σ'){d:PV}(h:d.a1A σ=true):d.v2 σ'=d.v2 σ∧d.a1A σ'=true∧d.E7 σ'=d.E7 σ:=by
 by_cases hd:∃l i f,d = .ptr l i f
 ·obtain⟨l,i,f,rfl⟩:=hd;simp only[PV.a1A] at h;cases hl:σ l with
  | none=>rw[hl] at h;cases h
  | some r=>
   rw[hl] at h;obtain⟨r',h1,h2,h3,h4⟩:=hs l r hl;simp only[PV.v2,PV.a1A,PV.E7,hl,h1,h2];cases hx:r.els[i]? with
   | none=>simp only[hx] at h;cases h
   | some x=>
    simp only[hx,List.all_eq_true,Bool.and_eq_true] at h;simp only[List.all_eq_true,Bool.and_eq_true];exact⟨by rw[List.map_congr_left λy hy=>(a3I hs (h y hy).1).1],λy hy=>⟨(a3I hs (h y hy).1).2,(h y hy).2⟩,trivial⟩
 ·have e:d.v2 σ'=d.v0 σ':=by cases d <;> first | rfl | exact absurd ⟨_,_,_,rfl⟩ hd
  have e1:d.v2 σ=d.v0 σ:=by cases d <;> first | rfl | exact absurd ⟨_,_,_,rfl⟩ hd
  have e2:d.a1A σ'=d.R8 σ':=by cases d <;> first | rfl | exact absurd ⟨_,_,_,rfl⟩ hd
  have e3:d.a1A σ=d.R8 σ:=by cases d <;> first | rfl | exact absurd ⟨_,_,_,rfl⟩ hd
  have e4:d.E7 σ'=d.E7 σ:=by cases d <;> first | rfl | exact absurd ⟨_,_,_,rfl⟩ hd
  rw[e,e1,e2,e4];rw[e3] at h;exact⟨(a3I hs h).1,(a3I hs h).2,rfl⟩
theorem G7{σ σ':Nat→Option Row}(hs:y6 σ σ'){d:PV}(h:d.a2m σ=true):d.v3 σ'=d.v3 σ∧d.a2m σ'=true∧d.K0 σ'=d.K0 σ:=by
 cases d;case agg cs=>
  simp only[PV.a2m,List.all_eq_true,Bool.and_eq_true] at h;simp only[PV.v3,PV.a2m,PV.K0,List.all_eq_true,Bool.and_eq_true];exact⟨by rw[List.map_congr_left λy hy=>(a3I hs (h y hy).1).1],λy hy=>⟨(a3I hs (h y hy).1).2,(h y hy).2⟩,trivial⟩
 case fn f cap=>
  simp only[PV.a2m,List.all_eq_true] at h;simp only[PV.v3,PV.a2m,PV.K0,List.all_eq_true];exact⟨by rw[List.map_congr_left λy hy=>(H9 hs (h y hy)).1],λy hy=>(H9 hs (h y hy)).2.1,I5 λy hy=>(H9 hs (h y hy)).2.2⟩
 case tup vs=>exact H9 (d:=.tup vs) hs h
 case bool b=>exact H9 (d:=.bool b) hs h
 case int k m=>exact H9 (d:=.int k m) hs h
 case str s=>exact H9 (d:=.str s) hs h
 case lst t xs=>exact H9 (d:=.lst t xs) hs h
 case sl l=>exact H9 (d:=.sl l) hs h
 case ptr l i f=>exact H9 (d:=.ptr l i f) hs h
 case rptr cs=>exact H9 (d:=.rptr cs) hs h
 case nilfn=>exact H9 (d:=.nilfn) hs h
 case abs R=>exact H9 (d:=.abs R) hs h
 case mp l=>exact H9 (d:=.mp l) hs h
 case mapc es=>exact H9 (d:=.mapc es) hs h
 case junk=>exact H9 (d:=.junk) hs h
theorem a3J{σ σ':Nat→Option Row}(hs:y6 σ σ'){d:PV}(h:d.vok σ=true):d.view σ'=d.view σ∧d.vok σ'=true∧d.D0 σ'=d.D0 σ:=by
 cases d;case tup cs=>
  simp only[PV.vok,List.all_eq_true] at h;simp only[PV.view,PV.vok,PV.D0,List.all_eq_true];exact⟨by rw[List.map_congr_left λy hy=>(G7 hs (h y hy)).1],λy hy=>(G7 hs (h y hy)).2.1,I5 λy hy=>(G7 hs (h y hy)).2.2⟩
 case bool b=>exact G7 (d:=.bool b) hs h
 case int k m=>exact G7 (d:=.int k m) hs h
 case str s=>exact G7 (d:=.str s) hs h
 case lst t xs=>exact G7 (d:=.lst t xs) hs h
 case sl l=>exact G7 (d:=.sl l) hs h
 case ptr l i f=>exact G7 (d:=.ptr l i f) hs h
 case rptr cs=>exact G7 (d:=.rptr cs) hs h
 case nilfn=>exact G7 (d:=.nilfn) hs h
 case abs R=>exact G7 (d:=.abs R) hs h
 case mp l=>exact G7 (d:=.mp l) hs h
 case mapc es=>exact G7 (d:=.mapc es) hs h
 case junk=>exact G7 (d:=.junk) hs h
 case agg cs=>exact G7 (d:=.agg cs) hs h
 case fn f cap=>exact G7 (d:=.fn f cap) hs h
theorem a4H{σ σ':Nat→Option Row}(hs:y6 σ σ'){ds:List PV}(h:ds.all (PV.vok σ)=true) :
  ds.map (PV.view σ')=ds.map (PV.view σ)∧ds.all (PV.vok σ')=true∧ds.flatMap (PV.D0 σ')=ds.flatMap (PV.D0 σ):=by
 rw[List.all_eq_true] at h;exact⟨List.map_congr_left λd hd=>(a3J hs (h d hd)).1,List.all_eq_true.2 λd hd=>(a3J hs (h d hd)).2.1,I5 λd hd=>(a3J hs (h d hd)).2.2⟩
theorem a7S{σ σ':Nat→Option Row}(hs:y6 σ σ'){ds:List PV}(h:ds.all (PV.vok σ)=true):ds.map (PV.vw σ')=ds.map (PV.vw σ):=by
 rw[List.all_eq_true] at h;exact List.map_congr_left λd hd=>by unfold PV.vw;rw[(a3J hs (h d hd)).1]
theorem Src.mono{σ σ':Nat→Option Row}(hs:y6 σ σ'){d:PV}{ys:List PV}{cl:Bool}(h:Src σ d ys cl):Src σ' d ys cl:=by
 rcases h with h | ⟨l,r,h1,h2,h3,h4⟩
 ·exact .inl h
 ·obtain⟨r',k1,k2,k3,k4⟩:=hs l r h2;exact .inr ⟨l,r',h1,k1,by rw[h3,k2],by rw[h4,k4]⟩
theorem u6.mono{P:Program}{σ σ':Nat→Option Row}{ρ:Operand→PV}{dst:Option Tmp}{op:Op}{d:PV}{e:G8}(hs:y6 σ σ')(h:u6 P σ ρ dst op d e):u6 P σ' ρ dst op d e:=by
 cases h;case a2w T x l i f r y n hx hl hy ha hsz hf=>
  obtain⟨r',k1,k2,k3,k4⟩:=hs l r hl;exact .a2w T x l i f r' y n hx k1 (by rw[k2];exact hy) ha hsz hf
 case a1r T x l i f r y hx hl hy ha hf=>
  obtain⟨r',k1,k2,k3,k4⟩:=hs l r hl;exact .a1r T x l i f r' y _ hx k1 (by rw[k2];exact hy) ha hf
 case idxR T x y l r k n E hx hl hy h0 hn hE hz=>
  obtain⟨r',k1,k2,k3,k4⟩:=hs l r hl;exact .idxR T x y l r' k n E hx k1 hy h0 (by rw[k2];exact hn) hE (by rw[k3];exact hz)
 case lenR x l r T hx hl hT ts hts=>
  obtain⟨r',k1,k2,k3,k4⟩:=hs l r hl;rw[←k2];exact .lenR x l r' T hx k1 hT ts hts
 case call f args ts cap x hf hb hok hc hfl=>
  obtain⟨k1,k2,k3⟩:=a4H hs hok;exact .call f args ts cap _ x hf hb k2 (by rw[a7S hs hok];exact hc) hfl
 case callF f args ts cap x hf hb hok hc=>
  obtain⟨k1,k2,k3⟩:=a4H hs hok;rw[←k3];exact .callF f args ts cap _ x hf hb k2 (by rw[a7S hs hok];exact hc)
 case callN f args ts cap l r x hd hf hb hok hc hcl=>
  obtain⟨k1,k2,k3⟩:=a4H hs hok;rw[←k3];exact .callN f args ts cap l r x hd hf hb k2 (by rw[a7S hs hok];exact hc) hcl
 case appT x y T E xs ys cl z by_ l zv hd hx hy hE hz hb hzv hzz hel hfit h63=>exact .appT x y T E xs ys cl z by_ l zv hd hx (hy.mono hs) hE hz hb hzv hzz hel hfit h63
 case appR x y T E s r ys cl z by_ l zv hd hx hs' hy hE hz hb hzv hzz hel hrz hfit h63=>
  obtain⟨r',k1,k2,k3,k4⟩:=hs s r hs';rw[←k2,←k4];exact .appR x y T E s r' ys cl z by_ l zv hd hx k1 (hy.mono hs) hE hz hb hzv hzz (by rw[k2];exact hel) (by rw[k3];exact hrz) (by rw[k2];exact hfit) (by rw[k2];exact h63)
 case sliceR T E z x lo s r i l hd hx hs' hE hz hrz hlo hi=>
  obtain⟨r',k1,k2,k3,k4⟩:=hs s r hs';rw[←k2,←k4];exact .sliceR T E z x lo s r' i l hd hx k1 hE hz (by rw[k3];exact hrz) hlo (by rw[k2];exact hi)
 case sliceF T E z x lo hi s r i j hx hs' hcl hE hz hrz hlo hhi hij hj=>
  obtain⟨r',k1,k2,k3,k4⟩:=hs s r hs';rw[←k2];exact .sliceF T E z x lo hi s r' i j hx k1 (by rw[k4];exact hcl) hE hz (by rw[k3];exact hrz) hlo (by rw[k2];exact hhi) hij (by rw[k2];exact hj)
 case copy x y T U E l r ys z hx hl hcl hy hE hz hrz hel hn hzp=>
  obtain⟨r',k1,k2,k3,k4⟩:=hs l r hl;exact .copy x y T U E l r' ys z hx k1 (by rw[k4];exact hcl) (hy.mono hs) hE hz (by rw[k3];exact hrz) hel (by rw[k2];exact hn) hzp
 case move x=>exact .move x
 case assign x=>exact .assign x
 case pick c a b t h=>exact .pick c a b t h
 case box T x l hd hx=>exact .box T x l hd hx
 case alloc T l v hd hz hx=>exact .alloc T l v hd hz hx
 case Y8 T x cs n hx ha hsz hf=>exact .Y8 T x cs n hx ha hsz hf
 case Y9 T x cs hx ha hf=>exact .Y9 T x cs _ hx ha hf
 case store T x y l i f d hx hd hy hsz hpos=>exact .store T x y l i f d hx hd hy hsz hpos
 case pureV hnd hnl h=>exact .pureV _ _ hnd hnl h
 case nilCheckP x l i f hx=>exact .nilCheckP x l i f hx
 case nilCheckR x cs hx=>exact .nilCheckR x cs hx
 case not t x b hx=>exact .not t x b hx
 case neg t x k n hx=>exact .neg t x k n hx
 case ari op t u x y k a b r hx hy hr=>exact .ari op t u x y k a b r hx hy hr
 case cmp op t u x y k a b r hx hy hr=>exact .cmp op t u x y k a b r hx hy hr
 case eqB t u x y a b hx hy ht=>exact .eqB t u x y a b hx hy ht
 case neB t u x y a b hx hy ht=>exact .neB t u x y a b hx hy ht
 case eqS t u x y a b hx hy=>exact .eqS t u x y a b hx hy
 case neS t u x y a b hx hy=>exact .neS t u x y a b hx hy
 case conv s t x k k' n hx h1 ht=>exact .conv s t x k k' n hx h1 ht
 case fieldAddrP T x f l i q off ft hx ho=>exact .fieldAddrP T x f l i q off ft hx ho
 case fieldAddrR T x f cs off ft hx ho=>exact .fieldAddrR T x f cs off ft hx ho
 case fieldA T x f cs off ft n hx ho ha hsz hn=>exact .fieldA T x f cs off ft n hx ho ha hsz hn
 case fieldS T x f cs off ft hx ho ha hd=>exact .fieldS T x f cs off ft _ hx ho ha hd
 case idxL T x y t xs k n e E hx hy h0 he hE hz=>exact .idxL T x y t xs k n e E hx hy h0 he hE hz
 case idxA T x y l i f k n len E z hx hy h0 hn hE hz=>exact .idxA T x y l i f k n len E z hx hy h0 hn hE hz
 case idxRA T x y cs k n len E z hx hy h0 hn hE hz=>exact .idxRA T x y cs k n len E z hx hy h0 hn hE hz
 case extract x i ds hx hd=>exact .extract x i ds _ hx hd
 case build T parts pl z zs cs hpl hz hzs hsc hf=>exact .build T parts pl z zs cs hpl hz hzs hsc hf
 case mkFunc fn cap=>exact .mkFunc fn cap
 case mkSlice T x y l k k' n E z v hd hx hy h0 hE hz hv hel hvz b hb hbm hn=>exact .mkSlice T x y l k k' n E z v hd hx hy h0 hE hz hv hel hvz b hb hbm hn
 case lenL x t xs T hx hT ts hts=>exact .lenL x t xs T hx hT ts hts
 case lenS x s T hx hT ts hts=>exact .lenS x s T hx hT ts hts
 case min2 x y k a b ts hx hy=>exact .min2 x y k a b ts hx hy
 case max2 x y k a b ts hx hy=>exact .max2 x y k a b ts hx hy
 case buildSlice T E parts len z l zv els cl hd hE hz hzv hlen hel hbig hf hcl=>exact .buildSlice T E parts len z l zv els cl hd hE hz hzv hlen hel hbig hf hcl
 case nilSlice T E parts l z hd hE hz hp=>exact .nilSlice T E parts l z hd hE hz hp
 case buildI T E parts len z zv els hE hz hzv hlen hel hbig hf hcl=>exact .buildI T E parts len z zv els hE hz hzv hlen hel hbig hf hcl
 case sliceL T E z x lo hi mx t xs i j k hx hE hz hel hlo hhi hmx hmh hij hjk hk=>exact .sliceL T E z x lo hi mx t xs i j k hx hE hz hel hlo hhi hmx hmh hij hjk hk
def G8.key:G8→Option Nat
 | .new l _ | .app _ l _ | .frzN _ l _=>some l
 | _=>Option.none
theorem u6.key{P:Program}{σ:Nat→Option Row}{ρ:Operand→PV}{dst:Option Tmp}{op:Op}{d:PV}{e:G8}(h:u6 P σ ρ dst op d e):∀l,e.key=some l→dst=some l:=by
 intro l hl;cases h <;> first | (cases hl;done) | (cases hl;assumption)
theorem b4b{env:Nat→PV}{dst:Option Tmp}{d:PV}{x:Operand}(h:∀t,dst=some t→x ≠ .tmp t):p6 (F3 env dst d) x=p6 env x:=by
 cases dst with
 | none=>rfl
 | some t=>
  cases x with
  | tmp u=>
   have:u≠t:=λe=>h t rfl (by rw[e]);simp only[p6,F3,e6 _ _ this]
  | _=>rfl
theorem u6.congr{P:Program}{σ:Nat→Option Row}{ρ ρ':Operand→PV}{dst:Option Tmp}{op:Op}{d:PV}{e:G8}(hρ:∀x∈op.operands,ρ x=ρ' x)(h:u6 P σ ρ dst op d e):u6 P σ ρ' dst op d e:=by
 have key:∃ρ'':Operand→PV,(∀x∈op.operands,ρ'' x=ρ' x)∧ρ''=ρ:=⟨ρ,hρ,rfl⟩;clear key;cases h;case move x=>rw[hρ x (by simp[Op.operands])];exact .move x
 case assign x=>rw[hρ x (by simp[Op.operands])];exact .assign x
 case pick c a b t h=>
  rw[hρ c (by simp[Op.operands])] at h;rw[hρ a (by simp[Op.operands]),hρ b (by simp[Op.operands])];exact .pick c a b t h
 case box T x l hd hx=>
  rw[hρ x (by simp[Op.operands])] at hx ⊢;exact .box T x l hd hx
 case alloc T l v hd hz hx=>exact .alloc T l v hd hz hx
 case a2w T x l i f r y n hx hl hy ha hsz hf=>exact .a2w T x l i f r y n (by rw[←hρ x (by simp[Op.operands])];exact hx) hl hy ha hsz hf
 case a1r T x l i f r y hx hl hy ha hf=>exact .a1r T x l i f r y _ (by rw[←hρ x (by simp[Op.operands])];exact hx) hl hy ha hf
 case Y8 T x cs n hx ha hsz hf=>exact .Y8 T x cs n (by rw[←hρ x (by simp[Op.operands])];exact hx) ha hsz hf
 case Y9 T x cs hx ha hf=>exact .Y9 T x cs _ (by rw[←hρ x (by simp[Op.operands])];exact hx) ha hf
 case store T x y l i f d hx hd hy hsz hpos=>
  rw[hρ y (by simp[Op.operands])] at hd;exact .store T x y l i f d (by rw[←hρ x (by simp[Op.operands])];exact hx) hd hy hsz hpos
 case pureV hnd hnl h=>
  exact .pureV _ _ hnd hnl λo w imm μ j2 ev ho hx=>h o w imm μ j2 ev ho λx hm=>by rw[hρ x hm];exact hx x hm
 case nilCheckP x l i f hx=>
  rw[hρ x (by simp[Op.operands])] at hx ⊢;exact .nilCheckP x l i f hx
 case nilCheckR x cs hx=>
  rw[hρ x (by simp[Op.operands])] at hx ⊢;exact .nilCheckR x cs hx
 case not t x b hx=>exact .not t x b (by rw[←hρ x (by simp[Op.operands])];exact hx)
 case neg t x k n hx=>exact .neg t x k n (by rw[←hρ x (by simp[Op.operands])];exact hx)
 case ari op t u x y k a b r hx hy hr=>exact .ari op t u x y k a b r (by rw[←hρ x (by simp[Op.operands])];exact hx) (by rw[←hρ y (by simp[Op.operands])];exact hy) hr
 case cmp op t u x y k a b r hx hy hr=>exact .cmp op t u x y k a b r (by rw[←hρ x (by simp[Op.operands])];exact hx) (by rw[←hρ y (by simp[Op.operands])];exact hy) hr
 case eqB t u x y a b hx hy ht=>exact .eqB t u x y a b (by rw[←hρ x (by simp[Op.operands])];exact hx) (by rw[←hρ y (by simp[Op.operands])];exact hy) ht
 case neB t u x y a b hx hy ht=>exact .neB t u x y a b (by rw[←hρ x (by simp[Op.operands])];exact hx) (by rw[←hρ y (by simp[Op.operands])];exact hy) ht
 case eqS t u x y a b hx hy=>exact .eqS t u x y a b (by rw[←hρ x (by simp[Op.operands])];exact hx) (by rw[←hρ y (by simp[Op.operands])];exact hy)
 case neS t u x y a b hx hy=>exact .neS t u x y a b (by rw[←hρ x (by simp[Op.operands])];exact hx) (by rw[←hρ y (by simp[Op.operands])];exact hy)
 case conv s t x k k' n hx h1 ht=>exact .conv s t x k k' n (by rw[←hρ x (by simp[Op.operands])];exact hx) h1 ht
 case fieldAddrP T x f l i q off ft hx ho=>exact .fieldAddrP T x f l i q off ft (by rw[←hρ x (by simp[Op.operands])];exact hx) ho
 case fieldAddrR T x f cs off ft hx ho=>exact .fieldAddrR T x f cs off ft (by rw[←hρ x (by simp[Op.operands])];exact hx) ho
 case fieldA T x f cs off ft n hx ho ha hsz hn=>exact .fieldA T x f cs off ft n (by rw[←hρ x (by simp[Op.operands])];exact hx) ho ha hsz hn
 case fieldS T x f cs off ft hx ho ha hd=>exact .fieldS T x f cs off ft _ (by rw[←hρ x (by simp[Op.operands])];exact hx) ho ha hd
 case idxL T x y t xs k n e E hx hy h0 he hE hz=>exact .idxL T x y t xs k n e E (by rw[←hρ x (by simp[Op.operands])];exact hx) (by rw[←hρ y (by simp[Op.operands])];exact hy) h0 he hE hz
 case idxR T x y l r k n E hx hl hy h0 hn hE hz=>exact .idxR T x y l r k n E (by rw[←hρ x (by simp[Op.operands])];exact hx) hl (by rw[←hρ y (by simp[Op.operands])];exact hy) h0 hn hE hz
 case idxA T x y l i f k n len E z hx hy h0 hn hE hz=>exact .idxA T x y l i f k n len E z (by rw[←hρ x (by simp[Op.operands])];exact hx) (by rw[←hρ y (by simp[Op.operands])];exact hy) h0 hn hE hz
 case idxRA T x y cs k n len E z hx hy h0 hn hE hz=>exact .idxRA T x y cs k n len E z (by rw[←hρ x (by simp[Op.operands])];exact hx) (by rw[←hρ y (by simp[Op.operands])];exact hy) h0 hn hE hz
 case extract x i ds hx hd=>exact .extract x i ds _ (by rw[←hρ x (by simp[Op.operands])];exact hx) hd
 case build T parts pl z zs cs hpl hz hzs hsc hf=>
  refine .build T parts pl z zs cs hpl hz hzs hsc ?_;rw[←hf];congr 1;refine List.map_congr_left λp hp=>?_;rw[hρ p.2 (by simp only[Op.operands,List.mem_toArray,List.mem_map];exact (by simp;exact⟨p.1,by simpa using hp⟩))]
 case mkFunc fn cap=>
  rw[List.map_congr_left λx hx=>hρ x (by simp only[Op.operands];simpa using hx)];exact .mkFunc fn cap
 case mkSlice T x y l k k' n E z v hd hx hy h0 hE hz hv hel hvz b hb hbm hn=>
  exact .mkSlice T x y l k k' n E z v hd (by rw[←hρ x (by simp[Op.operands])];exact hx) (by rw[←hρ y (by simp[Op.operands])];exact hy) h0 hE hz hv hel hvz b hb hbm hn
 case lenL x t xs T hx hT ts hts=>exact .lenL x t xs T (by rw[←hρ x (by simp[Op.operands,Call.operands])];exact hx) hT ts hts
 case lenR x l r T hx hl hT ts hts=>exact .lenR x l r T (by rw[←hρ x (by simp[Op.operands,Call.operands])];exact hx) hl hT ts hts
 case lenS x s T hx hT ts hts=>exact .lenS x s T (by rw[←hρ x (by simp[Op.operands,Call.operands])];exact hx) hT ts hts
 case min2 x y k a b ts hx hy=>exact .min2 x y k a b ts (by rw[←hρ x (by simp[Op.operands,Call.operands])];exact hx) (by rw[←hρ y (by simp[Op.operands,Call.operands])];exact hy)
 case max2 x y k a b ts hx hy=>exact .max2 x y k a b ts (by rw[←hρ x (by simp[Op.operands,Call.operands])];exact hx) (by rw[←hρ y (by simp[Op.operands,Call.operands])];exact hy)
 case call f args ts cap x hf hb hok hc hfl=>
  have e:args.toList.map ρ=args.toList.map ρ':=List.map_congr_left λy hy=>hρ y (by simp[Op.operands,Call.operands];right;simpa using hy);rw[e] at hok hc;exact .call f args ts cap _ x (by rw[←hρ x (by simp[Op.operands,Call.operands])];exact hf) hb hok hc hfl
 case callF f args ts cap x hf hb hok hc=>
  have e:args.toList.map ρ=args.toList.map ρ':=List.map_congr_left λy hy=>hρ y (by simp[Op.operands,Call.operands];right;simpa using hy);rw[e] at hok hc ⊢;exact .callF f args ts cap _ x (by rw[←hρ x (by simp[Op.operands,Call.operands])];exact hf) hb hok hc
 case callN f args ts cap l r x hd hf hb hok hc hcl=>
  have e:args.toList.map ρ=args.toList.map ρ':=List.map_congr_left λy hy=>hρ y (by simp[Op.operands,Call.operands];right;simpa using hy);rw[e] at hok hc ⊢;exact .callN f args ts cap l r x hd (by rw[←hρ x (by simp[Op.operands,Call.operands])];exact hf) hb hok hc hcl
 case appT x y T E xs ys cl z by_ l zv hd hx hy hE hz hb hzv hzz hel hfit h63=>
  exact .appT x y T E xs ys cl z by_ l zv hd (by rw[←hρ x (by simp[Op.operands,Call.operands])];exact hx) (by rw[←hρ y (by simp[Op.operands,Call.operands])];exact hy) hE hz hb hzv hzz hel hfit h63
 case appR x y T E s r ys cl z by_ l zv hd hx hs' hy hE hz hb hzv hzz hel hrz hfit h63=>
  exact .appR x y T E s r ys cl z by_ l zv hd (by rw[←hρ x (by simp[Op.operands,Call.operands])];exact hx) hs' (by rw[←hρ y (by simp[Op.operands,Call.operands])];exact hy) hE hz hb hzv hzz hel hrz hfit h63
 case buildSlice T E parts len z l zv els cl hd hE hz hzv hlen hel hbig hf hcl=>
  refine .buildSlice T E parts len z l zv els cl hd hE hz hzv hlen hel hbig ?_ hcl;rw[←hf];congr 1;refine List.map_congr_left λp hp=>?_;rw[hρ p.2 (by simp only[Op.operands,List.mem_toArray,List.mem_map];exact (by simp;exact⟨p.1,by simpa using hp⟩))]
 case buildI T E parts len z zv els hE hz hzv hlen hel hbig hf hcl=>
  refine .buildI T E parts len z zv els hE hz hzv hlen hel hbig ?_ hcl;rw[←hf];congr 1;refine List.map_congr_left λp hp=>?_;rw[hρ p.2 (by simp only[Op.operands,List.mem_toArray,List.mem_map];exact (by simp;exact⟨p.1,by simpa using hp⟩))]
 case nilSlice T E parts l z hd hE hz hp=>exact .nilSlice T E parts l z hd hE hz hp
 case sliceL T E z x lo hi mx t xs i j k hx hE hz hel hlo hhi hmx hmh hij hjk hk=>
  have hb:∀ {y:Option Operand} {d m:Nat},(∀o,y=some o→o∈(Op.slice T x lo hi mx).operands)→Bnd ρ y d m→Bnd ρ' y d m:=by
   intro y d m hm h;cases y with
   | none=>exact h
   | some o=>obtain⟨q,hq⟩:=h;exact⟨q,by rw[←hρ o (hm o rfl)];exact hq⟩
  exact .sliceL T E z x lo hi mx t xs i j k (by rw[←hρ x (by simp[Op.operands])];exact hx) hE hz hel (hb (λo e=>by subst e;simp[Op.operands]) hlo) (hb (λo e=>by subst e;simp[Op.operands]) hhi)
   (hb (λo e=>by subst e;simp[Op.operands]) hmx) hmh hij hjk hk
 case sliceR T E z x lo s r i l hd hx hs' hE hz hrz hlo hi=>
  refine .sliceR T E z x lo s r i l hd (by rw[←hρ x (by simp[Op.operands])];exact hx) hs' hE hz hrz ?_ hi;cases lo with
  | none=>exact hlo
  | some o=>obtain⟨q,hq⟩:=hlo;exact⟨q,by rw[←hρ o (by simp[Op.operands])];exact hq⟩
 case sliceF T E z x lo hi s r i j hx hs' hcl hE hz hrz hlo hhi hij hj=>
  refine .sliceF T E z x lo hi s r i j (by rw[←hρ x (by simp[Op.operands])];exact hx) hs' hcl hE hz hrz ?_ ?_ hij hj
  ·cases lo with
   | none=>exact hlo
   | some o=>obtain⟨q,hq⟩:=hlo;exact⟨q,by rw[←hρ o (by simp[Op.operands])];exact hq⟩
  ·cases hi with
   | none=>exact hhi
   | some o=>obtain⟨q,hq⟩:=hhi;exact⟨q,by rw[←hρ o (by simp[Op.operands])];exact hq⟩
 case copy x y T U E l r ys z hx hl hcl hy hE hz hrz hel hn hzp=>
  exact .copy x y T U E l r ys z (by rw[←hρ x (by simp[Op.operands,Call.operands])];exact hx) hl hcl (by rw[←hρ y (by simp[Op.operands,Call.operands])];exact hy) hE hz hrz hel hn hzp
def s9(ops:Array Oper)(env:Nat→PV)(o:Oper):Option Bool:=
 match o.guard with
 | none=>some true
 | some (j,want)=>match (ops[j]?).bind (·.dst) with
  | some t=>match p6 env (.tmp t) with
   | .bool b=>some (b==want)
   | .tup []=>some false
   | _=>none
  | none=>none
def cls(bar:List Nat)(i:Nat):Op→Nat
 | .move _ | .assign _ | .pick .. | .nilCheck _ | .unOp .. | .binOp .. | .convert .. | .fieldAddr .. | .field .. | .extract .. | .makeFunc .. | .build .. => 7
 | .load .. | .indexAddr .. | .slice .. => if bar.contains i then 7 else 0
 | .lookup .. => if bar.contains i then 7 else 4
 | .alloc _ | .box .. | .buildSlice .. | .makeSlice .. => 1
 | .call { callee:=.builtin .len,.. }=>if bar.contains i then 7 else 0
 | .call { callee:=.builtin .min,.. } | .call { callee:=.builtin .max,.. }=>7
 | .call { callee:=.builtin .append,.. }=>3
 | .call { callee:=.value _,.. }=>if bar.contains i then 5 else 2
 | _=>4
def V6:Nat→G8→Prop→Prop
 | 0,e,_=>e = .none
 | 1,e,_=>e = .none∨∃l r,e = .new l r
 | 2,e,_=>e = .none∨e = .frz []∨∃l r,e = .frzN [] l r
 | 3,e,_=>(∃l r,e = .new l r)∨∃s l r,e = .app s l r
 | 5,e,_=>e = .none∨(∃ls,e = .frz ls)∨∃ls l r,e = .frzN ls l r
 | 7,e,F=>e = .none∧F
 | _,_,_=>True
def allowed:Nat→Nat→Bool
 | 7,_ | _,7=>true
 | 0,0 | 0,1 | 1,0 | 0,2 | 2,0 | 1,1 | 1,2 | 2,1 | 0,3 | 3,0 | 3,1 | 0,5 | 5,0 | 5,1=>true
 | _,_=>false
def kept(bar:List Nat):List Nat:=bar.filterMap λn=>if 1000≤n then some (n-1000) else none
def core(r:Row):List PV × Nat × Bool:=(r.els,r.z,r.cl)
def w9(T:List Nat)(σ σ':Nat→Option Row):Prop:=∀l,T.contains l=true→(σ l).map core=(σ' l).map core
theorem w9.refl{T:List Nat}(σ:Nat→Option Row):w9 T σ σ:=λ_ _=>rfl
theorem w9.symm{T:List Nat}{σ σ':Nat→Option Row}(h:w9 T σ σ'):w9 T σ' σ:=λl q=>(h l q).symm
theorem w9.trans{T:List Nat}{σ σ' σ'':Nat→Option Row}(h:w9 T σ σ')(k:w9 T σ' σ''):w9 T σ σ'':=λl q=>(h l q).trans (k l q)
def G8.off(T:List Nat):G8→Bool
 | .none | .frz _=>true
 | .new l _ | .app _ l _ | .frzN _ l _ | .sto l _ _ _ | .cpy l _ => !T.contains l
theorem b1W(σ:Nat→Option Row)(l k:Nat):((a1b σ l) k).map core=(σ k).map core:=by
 unfold a1b;cases hl:σ l with
 | none=>rfl
 | some q=>
  by_cases e:k=l
  ·subst e;simp[j4,hl,core]
  ·simp only;rw[e6 _ _ e]
theorem a5C(ls:List Nat):∀(σ:Nat→Option Row) (k:Nat),((F6 σ ls) k).map core=(σ k).map core:=by
 induction ls with
 | nil=>intro σ k;rfl
 | cons l ls ih=>intro σ k;exact (ih (a1b σ l) k).trans (b1W σ l k)
theorem G8.b6t{T:List Nat}{σ:Nat→Option Row}{e:G8}(h:e.off T=true):w9 T σ (e.apply σ):=by
 intro l hl;have ne:∀ {k:Nat},(!T.contains k)=true→l≠k:=λ{k} q e=>by subst e;rw[hl] at q;cases q
 cases e with
 | none=>rfl
 | new k r=>simp only[G8.apply];rw[e6 _ _ (ne h)]
 | app s k r=>
  simp only[G8.apply];rw[e6 _ _ (ne h)];cases hs:σ s with
  | none=>rfl
  | some q=>
   by_cases e:l=s
   ·subst e;simp[j4,hs,core]
   ·simp only;rw[e6 _ _ e]
 | sto k i f cs=>
  simp only[G8.apply];cases σ k with
  | none=>rfl
  | some q=>cases hq:q.els[i]? with
   | none=>simp only[hq]
   | some x=>simp only[hq];rw[e6 _ _ (ne h)]
 | cpy k ys=>
  simp only[G8.apply];cases σ k with
  | none=>rfl
  | some q=>simp only;rw[e6 _ _ (ne h)]
 | frz ls=>exact (a5C ls σ l).symm
 | frzN ls k r=>simp only[G8.apply];rw[e6 _ _ (ne h)];exact (a5C ls σ l).symm
inductive a4L (P:Program) (ops:Array Oper) (dr:Bool) (T:List Nat) (c:Nat) (σF:Nat→Option Row) (o:Oper) (st:St):St→Prop
 | run (d e) (hw:s9 ops st.env o=some true) (h:u6 P σF (p6 st.env) o.dst o.op d e) (hs:y6 st.σ σF∧w9 T st.σ σF) (hok:e.ok st.σ) (ht:dr=true→e.off T=true)
  (hc:dr=true→V6 c e (∀σ',w9 T σF σ'→u6 P σ' (p6 st.env) o.dst o.op d e)):a4L P ops dr T c σF o st ⟨F3 st.env o.dst d,e.apply st.σ⟩
 | skip (hw:s9 ops st.env o=some false):a4L P ops dr T c σF o st ⟨F3 st.env o.dst (.tup []),st.σ⟩
abbrev Stp(P:Program)(ops:Array Oper)(dr:Bool)(T:List Nat)(c:Nat)(o:Oper)(st st':St):Prop:=a4L P ops dr T c st.σ o st st'
theorem a0j{env:Nat→PV}{x y:Option Tmp}{d d':PV}(h:∀t,x=some t→y≠some t):F3 (F3 env x d) y d'=F3 (F3 env y d') x d:=by
 cases x with
 | none=>rfl
 | some t=>cases y with
  | none=>rfl
  | some u=>exact V2 _ _ _ (λe=>h t rfl (by rw[e]))
theorem P7{ops:Array Oper}{env:Nat→PV}{o:Oper}{dst:Option Tmp}{d:PV}(h:∀t,dst=some t→t∉o.looksAt ops):s9 ops (F3 env dst d) o=s9 ops env o:=by
 unfold s9;cases hg:o.guard with
 | none=>rfl
 | some p=>
  obtain⟨j,want⟩:=p;simp only;cases hd:(ops[j]?).bind (·.dst) with
  | none=>rfl
  | some t=>
   simp only;have:F3 env dst d t=env t:=by
    cases dst with
    | none=>rfl
    | some u=>
     refine e6 _ _ (λe=>?_);subst e;refine h t rfl ?_;unfold Oper.looksAt;rw[hg];simp[hd]
   have this2:p6 (F3 env dst d) (.tmp t)=p6 env (.tmp t):=by simp only[p6,this]
   rw[this2]
theorem W4{P:Program}{σ:Nat→Option Row}{ops:Array Oper}{env:Nat→PV}{o:Oper}{dst:Option Tmp}{d d':PV}{e:G8}(h:∀t,dst=some t→t∉o.looksAt ops) :
  u6 P σ (p6 (F3 env dst d)) o.dst o.op d' e↔u6 P σ (p6 env) o.dst o.op d' e:=by
 have hx:∀x∈o.op.operands,p6 (F3 env dst d) x=p6 env x:=λx hx=>b4b λt ht e=>by
  subst e;refine h t ht ?_;unfold Oper.looksAt;exact List.mem_append_left _ (List.mem_filterMap.2 ⟨.tmp t,by simpa using hx,rfl⟩)
 exact⟨λh=>h.congr hx,λh=>h.congr λx q=>(hx x q).symm⟩
def b1s:G8→Bool
 | .sto .. | .cpy .. => false
 | _=>true
theorem b1Y(σ:Nat→Option Row)(l:Nat):y6 σ (a1b σ l):=by
 intro k r hk;unfold a1b;cases hl:σ l with
 | none=>exact⟨r,hk,rfl,rfl,rfl⟩
 | some q=>
  by_cases e:k=l
  ·subst e;rw[hl] at hk;cases hk;exact⟨_,j4 _ _ _,rfl,rfl,rfl⟩
  ·exact⟨r,by simp only[e6 _ _ e];exact hk,rfl,rfl,rfl⟩
theorem y6.trans{σ σ' σ'':Nat→Option Row}(h:y6 σ σ')(k:y6 σ' σ''):y6 σ σ'':=by
 intro l r hl;obtain⟨r',h1,h2,h3,h4⟩:=h l r hl;obtain⟨r'',k1,k2,k3,k4⟩:=k l r' h1;exact⟨r'',k1,by rw[k2,h2],by rw[k3,h3],by rw[k4,h4]⟩
theorem a8z(ls:List Nat):∀(σ:Nat→Option Row),y6 σ (F6 σ ls):=by
 induction ls with
 | nil=>exact λσ=>y6.refl σ
 | cons l ls ih=>exact λσ=>(b1Y σ l).trans (ih (a1b σ l))
theorem F1{σ:Nat→Option Row}{l:Nat}{r:Row}(h:σ l=none):y6 σ (o0 σ l (some r)):=λk q hk=>by
 have:k≠l:=λe=>by subst e;rw[h] at hk;cases hk
 exact⟨q,by rw[e6 _ _ this];exact hk,rfl,rfl,rfl⟩
theorem b1X{σ:Nat→Option Row}{l k:Nat}(h:σ l=none):a1b σ k l=none:=by
 unfold a1b;cases hk:σ k with
 | none=>exact h
 | some q=>
  have:l≠k:=λe=>by subst e;rw[h] at hk;cases hk
  simp only[e6 _ _ this];exact h
theorem a8y{l:Nat}:∀ {ls:List Nat} {σ:Nat→Option Row},σ l=none→F6 σ ls l=none
 | [],_,h=>h
 | k::ls,σ,h=>a8y (ls:=ls) (σ:=a1b σ k) (b1X h)
theorem G8.same{σ:Nat→Option Row}{e:G8}(hk:b1s e=true)(hok:e.ok σ):y6 σ (e.apply σ):=by
 cases e with
 | none=>exact y6.refl σ
 | new l r=>exact F1 hok
 | app s l r=>
  obtain⟨h1,q,h2,_⟩:=hok;simp only[G8.apply,h2];have hne:l≠s:=λe=>by subst e;rw[h1] at h2;cases h2
  intro k p hp;have hkl:k≠l:=λe=>by subst e;rw[h1] at hp;cases hp
  rw[e6 _ _ hkl];by_cases e:k=s
  ·subst e;rw[h2] at hp;cases hp;exact⟨_,j4 _ _ _,rfl,rfl,rfl⟩
  ·exact⟨p,by rw[e6 _ _ e];exact hp,rfl,rfl,rfl⟩
 | sto l i f cs=>cases hk
 | cpy l ys=>cases hk
 | frz ls=>exact a8z ls σ
 | frzN ls l r=>exact (a8z ls σ).trans (F1 (a8y hok))
theorem a1P{c:Nat}{e:G8}{F:Prop}(h:V6 c e F)(hc:c≠4)(hc':c≤5):b1s e=true:=by
 match c,hc,hc',h with
 | 0,_,_,h=>rw[show e = .none from h];rfl
 | 1,_,_,h=>rcases h with rfl | ⟨l,r,rfl⟩ <;> rfl
 | 2,_,_,h=>rcases h with rfl | rfl | ⟨l,r,rfl⟩ <;> rfl
 | 3,_,_,h=>rcases h with ⟨l,r,rfl⟩ | ⟨s,l,r,rfl⟩ <;> rfl
 | 5,_,_,h=>rcases h with rfl | ⟨ls,rfl⟩ | ⟨ls,l,r,rfl⟩ <;> rfl
theorem PV.a7P{σ:Nat→Option Row}{d:PV}(h:d.R8 σ=true):∀k∈d.O9,σ k≠none:=by
 intro k hk q;cases d <;> first | (simp[PV.O9] at hk;done) | skip
 rename_i l;simp only[PV.O9,List.mem_singleton] at hk;subst hk;have h':(match σ k with | some r=>r.cl | none=>false)=true:=h;rw[q] at h';cases h'
theorem PV.a7Q{σ:Nat→Option Row}{d:PV}(h:d.a1A σ=true):∀k∈d.E7 σ,σ k≠none:=by
 intro k hk q;cases d <;> first | (simp[PV.E7,PV.O9] at hk;done) | exact PV.a7P (d:=.sl _) h k hk q | skip
 rename_i l i f;have h':(match σ l with | some r=>(match r.els[i]? with | some x=>(x.cells.drop f).all λy=>y.R8 σ&&y.sc | none=>false) | none=>false)=true:=h;have hk':k∈l::(match σ l with | some r=>(match r.els[i]? with | some x=>(x.cells.drop f).flatMap PV.O9 | none=>[]) | none=>[]):=hk;cases hl:σ l with
 | none=>rw[hl] at h';cases h'
 | some r=>
  rw[hl] at h' hk';dsimp only at h' hk';cases hx:r.els[i]? with
  | none=>rw[hx] at h';cases h'
  | some x=>
   rw[hx] at h' hk';dsimp only at h' hk';rcases List.mem_cons.1 hk' with e | hk'
   ·rw[e,hl] at q;cases q
   ·obtain⟨y,hy,hk'⟩:=List.mem_flatMap.1 hk';have:=List.all_eq_true.1 h' y hy;rw[Bool.and_eq_true] at this;exact PV.a7P this.1 k hk' q
theorem PV.a1B{σ:Nat→Option Row}{d:PV}(h:d.a2m σ=true):∀k∈d.K0 σ,σ k≠none:=by
 intro k hk q;cases d <;> first | (simp[PV.K0,PV.E7,PV.O9] at hk;done) | exact PV.a7Q (d:=.sl _) h k hk q | exact PV.a7Q (d:=.ptr _ _ _) h k hk q | skip
 ·obtain⟨y,hy,hk⟩:=List.mem_flatMap.1 hk;have:=List.all_eq_true.1 h y hy;rw[Bool.and_eq_true] at this;exact PV.a7P this.1 k hk q
 ·obtain⟨y,hy,hk⟩:=List.mem_flatMap.1 hk;exact PV.a7Q (List.all_eq_true.1 h y hy) k hk q
theorem PV.b4C{σ:Nat→Option Row}{d:PV}(h:d.vok σ=true):∀k∈d.D0 σ,σ k≠none:=by
 intro k hk q;cases d <;> first | (simp[PV.D0,PV.K0,PV.E7,PV.O9] at hk;done) | exact PV.a1B (d:=.sl _) h k hk q | exact PV.a1B (d:=.ptr _ _ _) h k hk q | exact PV.a1B (d:=.agg _) h k hk q | exact PV.a1B (d:=.fn _ _) h k hk q | skip
 ·obtain⟨y,hy,hk⟩:=List.mem_flatMap.1 hk;exact PV.a1B (List.all_eq_true.1 h y hy) k hk q
 ·rename_i f cap;have h':PV.a2m σ (.fn f cap)=true:=h;have hk':k∈PV.K0 σ (.fn f cap):=hk;exact PV.a1B h' k hk' q
theorem u6.there{P:Program}{σ:Nat→Option Row}{ρ:Operand→PV}{dst:Option Tmp}{op:Op}{d:PV}{e:G8}(h:u6 P σ ρ dst op d e):∀ls,(e = .frz ls∨∃l r,e = .frzN ls l r)→∀k∈ls,σ k≠none:=by
 have all:∀ {ds:List PV} {k:Nat},ds.all (PV.vok σ)=true→k∈ds.flatMap (PV.D0 σ)→σ k≠none:=λ{ds k} h hk=>by
  obtain⟨y,hy,hk⟩:=List.mem_flatMap.1 hk;exact PV.b4C (List.all_eq_true.1 h y hy) k hk
 intro ls he k hk;cases h <;> first | (exfalso;rcases he with he | ⟨_,_,he⟩ <;> cases he;done) | skip
 all_goals rcases he with he | ⟨_,_,he⟩ <;> cases he
 all_goals first | exact all (by assumption) hk | skip
 all_goals
  rw[List.mem_singleton] at hk;subst hk;simp_all
theorem a7k{l:Nat}{x:Option Row}:∀(ls:List Nat) (σ:Nat→Option Row),l∉ls→F6 (o0 σ l x) ls=o0 (F6 σ ls) l x
 | [],_,_=>rfl
 | k::ls,σ,h=>by
  have hk:k≠l:=λe=>h (by rw[e];exact List.mem_cons_self ..);have e1:a1b (o0 σ l x) k=o0 (a1b σ k) l x:=by
   unfold a1b;rw[e6 _ _ hk];cases σ k with
   | none=>rfl
   | some r=>first | exact V2 _ _ _ hk | exact V2 _ _ _ (Ne.symm hk) | exact (V2 _ _ _ hk).symm | exact (V2 _ _ _ (Ne.symm hk)).symm
  show F6 (a1b (o0 σ l x) k) ls=o0 (F6 (a1b σ k) ls) l x;rw[e1];exact a7k ls _ λq=>h (List.mem_cons_of_mem _ q)
theorem b2C{σ:Nat→Option Row}{cj cx:Nat}{ej ex:G8}{Fj Fx:Prop}(h7j:cj≠7)(h7x:cx≠7)(ha:allowed cj cx=true)(hj:V6 cj ej Fj)(hx:V6 cx ex Fx)(hokj:ej.ok σ)(hokx:ex.ok (ej.apply σ))(hkey:∀l,ej.key=some l→ex.key≠some l)(hth:∀ls,(ej = .frz ls∨∃l r,ej = .frzN ls l r)→∀k∈ls,σ k≠none) :
  ex.ok σ∧ej.ok (ex.apply σ)∧ej.apply (ex.apply σ)=ex.apply (ej.apply σ)∧y6 σ (ej.apply σ)∧y6 σ (ex.apply σ):=by
 have e0:∀(σ:Nat→Option Row),(G8.frz []).apply σ=σ:=λ_=>rfl;have e1:∀(σ:Nat→Option Row) l r,(G8.frzN [] l r).apply σ=(G8.new l r).apply σ:=λ_ _ _=>rfl;have simple:∀ {e:G8},(e = .none∨e = .frz []∨(∃l r,e = .new l r)∨∃l r,e = .frzN [] l r)→(∀σ,e.apply σ=σ∧e.ok σ)∨∃l r,e.key=some l∧(∀σ,e.apply σ=o0 σ l (some r))∧(∀σ,e.ok σ↔σ l=none):=by
  rintro e (rfl | rfl | ⟨l,r,rfl⟩ | ⟨l,r,rfl⟩);·exact .inl λ_=>⟨rfl,trivial⟩
  ·exact .inl λ_=>⟨rfl,trivial⟩
  ·exact .inr ⟨l,r,rfl,λ_=>rfl,λ_=>Iff.rfl⟩
  ·exact .inr ⟨l,r,rfl,λ_=>rfl,λ_=>Iff.rfl⟩
 have s0:∀ {e:G8} {F:Prop},V6 0 e F→(e = .none∨e = .frz []∨(∃l r,e = .new l r)∨∃l r,e = .frzN [] l r):=λh=>.inl h;have s1:∀ {e:G8} {F:Prop},V6 1 e F→(e = .none∨e = .frz []∨(∃l r,e = .new l r)∨∃l r,e = .frzN [] l r):=λh=>h.elim .inl λh=>.inr (.inr (.inl h));have s2:∀ {e:G8} {F:Prop},V6 2 e F→(e = .none∨e = .frz []∨(∃l r,e = .new l r)∨∃l r,e = .frzN [] l r):=λh=>h.elim .inl λh=>h.elim (λh=>.inr (.inl h)) λh=>.inr (.inr (.inr h));have both:(ej = .none∨ej = .frz []∨(∃l r,ej = .new l r)∨∃l r,ej = .frzN [] l r)→(ex = .none∨ex = .frz []∨(∃l r,ex = .new l r)∨∃l r,ex = .frzN [] l r) →
   ex.ok σ∧ej.ok (ex.apply σ)∧ej.apply (ex.apply σ)=ex.apply (ej.apply σ)∧y6 σ (ej.apply σ)∧y6 σ (ex.apply σ):=by
  intro hj hx;rcases simple hj with kj | ⟨l,r,kj0,kj1,kj2⟩ <;> rcases simple hx with kx | ⟨l',r',kx0,kx1,kx2⟩
  ·rw[(kj σ).1,(kx σ).1];exact⟨(kx σ).2,(kj σ).2,by rw[(kj σ).1],y6.refl _,y6.refl _⟩
  ·rw[(kj σ).1] at hokx ⊢;rw[kx1];exact⟨hokx,(kj _).2,(kj _).1,y6.refl _,F1 ((kx2 σ).1 hokx)⟩
  ·exact⟨(kx σ).2,by rw[(kx σ).1];exact hokj,by rw[(kx σ).1,(kx _).1],by rw[kj1];exact F1 ((kj2 σ).1 hokj),by rw[(kx σ).1];exact y6.refl _⟩
  ·have hne:l≠l':=λe=>hkey l kj0 (by rw[kx0,e]);have hl:=(kj2 σ).1 hokj;have hl':σ l'=none:=by
    have:=(kx2 _).1 hokx;rw[kj1,e6 _ _ (Ne.symm hne)] at this;exact this
   rw[kj1,kx1,kj1,kx1];exact⟨(kx2 σ).2 hl',(kj2 _).2 (by rw[e6 _ _ hne];exact hl),V2 _ _ _ (Ne.symm hne),F1 hl,F1 hl'⟩
 have lookj:ej = .none→ex.ok σ∧ej.ok (ex.apply σ)∧ej.apply (ex.apply σ)=ex.apply (ej.apply σ)∧y6 σ (ej.apply σ)∧(b1s ex=true→y6 σ (ex.apply σ)):=by
  rintro rfl;exact⟨hokx,trivial,rfl,y6.refl _,λq=>G8.same q hokx⟩
 have lookx:ex = .none→b1s ej=true→ex.ok σ∧ej.ok (ex.apply σ)∧ej.apply (ex.apply σ)=ex.apply (ej.apply σ)∧y6 σ (ej.apply σ)∧y6 σ (ex.apply σ):=by
  rintro rfl q;exact⟨trivial,hokj,rfl,G8.same q hokj,y6.refl _⟩
 have look0:V6 cj ej Fj→cj=0→cx≠4→cx≤5→ex.ok σ∧ej.ok (ex.apply σ)∧ej.apply (ex.apply σ)=ex.apply (ej.apply σ)∧y6 σ (ej.apply σ)∧y6 σ (ex.apply σ):=by
  intro h q h4 h5;subst q;obtain⟨k1,k2,k3,k4,k5⟩:=lookj h;exact⟨k1,k2,k3,k4,k5 (a1P hx h4 h5)⟩
 unfold allowed at ha;split at ha;·exact absurd rfl h7j
 ·exact absurd rfl h7x
 ·exact both (s0 hj) (s0 hx)
 ·exact both (s0 hj) (s1 hx)
 ·exact both (s1 hj) (s0 hx)
 ·exact both (s0 hj) (s2 hx)
 ·exact both (s2 hj) (s0 hx)
 ·exact both (s1 hj) (s1 hx)
 ·exact both (s1 hj) (s2 hx)
 ·exact both (s2 hj) (s1 hx)
 ·exact look0 hj rfl (by omega) (by omega)
 ·exact lookx hx (a1P hj (by omega) (by omega))
 ·-- an append,and a row that is new
  rcases hj with ⟨l,r,rfl⟩ | ⟨s,l,r,rfl⟩;·exact both (.inr (.inr (.inl ⟨l,r,rfl⟩))) (s1 hx)
  ·rcases hx with rfl | ⟨l',r',rfl⟩
   ·exact lookx rfl rfl
   ·obtain⟨h1,q,h2,h3⟩:=hokj;have hne:l≠l':=λe=>hkey l rfl (by rw[e];rfl);have hsl:s≠l:=λe=>by subst e;rw[h1] at h2;cases h2
    have hx':o0 (o0 σ s (some { q with lo:=q.els.length,opn:=false })) l (some r) l'=none:=by
     have:=hokx;simp only[G8.ok,G8.apply,h2] at this;exact this
    rw[e6 _ _ (Ne.symm hne)] at hx';have hsl':s≠l':=λe=>by subst e;rw[j4] at hx';cases hx'
    rw[e6 _ _ (Ne.symm hsl')] at hx';refine⟨hx',⟨by simp only[G8.apply];rw[e6 _ _ hne];exact h1,q,by simp only[G8.apply];rw[e6 _ _ hsl'];exact h2,h3⟩,?_,G8.same rfl ⟨h1,q,h2,h3⟩,F1 hx'⟩;simp only[G8.apply,e6 _ _ hsl',h2];rw[V2 _ _ _ (Ne.symm hsl'),V2 _ _ _ (Ne.symm hne)]
 ·exact look0 hj rfl (by omega) (by omega)
 ·exact lookx hx (a1P hj (by omega) (by omega))
 ·-- what shows rows,and a row that is new
  rcases hx with rfl | ⟨l',r',rfl⟩
  ·exact lookx rfl (a1P hj (by omega) (by omega))
  ·have back:∀ls,F6 σ ls l'=none→σ l'=none:=λls q=>by
    have:=a5C ls σ l';rw[q] at this;cases e:σ l' with
    | none=>rfl
    | some r=>rw[e] at this;cases this
   rcases hj with rfl | ⟨ls,rfl⟩ | ⟨ls,l,r,rfl⟩
   ·obtain⟨k1,k2,k3,k4,k5⟩:=lookj rfl;exact⟨k1,k2,k3,k4,k5 rfl⟩
   ·have h0:=back ls hokx;have hn:l'∉ls:=λq=>hth ls (.inl rfl) l' q h0;exact⟨h0,trivial,a7k ls σ hn,G8.same rfl hokj,F1 h0⟩
   ·have hne:l≠l':=λe=>hkey l rfl (by rw[e];rfl);have hx1:o0 (F6 σ ls) l (some r) l'=none:=hokx;rw[e6 _ _ (Ne.symm hne)] at hx1;have h0:=back ls hx1;have hn:l'∉ls:=λq=>hth ls (.inr ⟨l,r,rfl⟩) l' q h0;refine⟨h0,?_,?_,G8.same rfl hokj,F1 h0⟩
    ·show o0 σ l' (some r') l=none;rw[e6 _ _ hne];exact hokj
    ·show o0 (F6 (o0 σ l' (some r')) ls) l (some r)=o0 (o0 (F6 σ ls) l (some r)) l' (some r');rw[a7k ls σ hn];exact V2 _ _ _ (Ne.symm hne)
 ·cases ha
theorem b2b{P:Program}{ops:Array Oper}{T:List Nat}{cj cx:Nat}{oj ox:Oper}{st s s':St}{σF:Nat→Option Row}(hap:oj.apart ops ox=true)(ha:allowed cj cx=true)
  (hj:Stp P ops true T cj oj st s)(hx:a4L P ops true T cx σF ox s s'):∃σF' st',a4L P ops true T cx σF' ox st st'∧Stp P ops true T cj oj st' s':=by
 obtain⟨a1,a2,a3⟩:=Oper.apart_spec hap;have rr:∀σ:Nat→Option Row,y6 σ σ∧w9 T σ σ:=λσ=>⟨y6.refl _,w9.refl _⟩;have weak:∀ {c:Nat} {e:G8} {F G:Prop},(c=7→F→G)→V6 c e F→V6 c e G:=λ{c e F G} hne q=>by
  unfold V6 at q ⊢;split at q <;> first | exact q | exact⟨q.1,hne rfl q.2⟩ | trivial
 cases hj with
 | run d e hw h hs hok ht hc=>
  cases hx with
  | run d' e' hw' h' hs' hok' ht' hc'=>
   simp only at hw' h' hs' hok' ⊢;have hkey:∀l,e.key=some l→e'.key≠some l:=λl q q'=>a2 l (h.key l q) (h'.key l q');have near1:w9 T st.σ (e.apply st.σ):=G8.b6t (ht rfl);rw[P7 a1] at hw';by_cases h7x:cx=7
   ·subst h7x;obtain⟨rfl,hfree⟩:=hc' rfl;have hfree':∀σ',w9 T st.σ σ'→u6 P σ' (p6 st.env) ox.dst ox.op d' .none:=λσ' q=>(W4 a1).1 (hfree σ' ((near1.trans hs'.2).symm.trans q));refine⟨st.σ,_,.run d' .none hw' (hfree' _ (w9.refl _)) (rr _) trivial (λ_=>rfl) (λ_=>⟨rfl,hfree'⟩),?_⟩;have:=a4L.run (P:=P) (ops:=ops) (dr:=true) (T:=T) (c:=cj) (σF:=st.σ) (o:=oj) (st:=⟨F3 st.env ox.dst d',st.σ⟩) d e (by rw[P7 a3];exact hw) ((W4 a3).2 h) (rr _) hok ht
     (λq=>weak (λ_ f σ' hσ=>(W4 a3).2 (f σ' hσ)) (hc q))
    rw[a0j (x:=ox.dst) (y:=oj.dst) λt q q'=>a2 t q' q] at this;exact this
   by_cases h7j:cj=7
   ·subst h7j;obtain⟨rfl,hfree⟩:=hc rfl;rw[W4 a1] at h';have near2:w9 T st.σ (e'.apply st.σ):=G8.b6t (ht' rfl);refine⟨σF,_,.run d' e' hw' h' hs' hok' ht' (λq=>weak (λ_ f σ' hσ=>(W4 a1).1 (f σ' hσ)) (hc' q)),?_⟩;have:=a4L.run (P:=P) (ops:=ops) (dr:=true) (T:=T) (c:=7) (σF:=e'.apply st.σ) (o:=oj) (st:=⟨F3 st.env ox.dst d',e'.apply st.σ⟩) d .none (by rw[P7 a3];exact hw) ((W4 a3).2 (hfree _ near2)) (rr _) trivial (λ_=>rfl)
     (λ_=>⟨rfl,λσ' q=>(W4 a3).2 (hfree σ' (near2.trans q))⟩)
    rw[a0j (x:=ox.dst) (y:=oj.dst) λt q q'=>a2 t q' q] at this;exact this
   ·have fj:V6 cj e True:=weak (λ_ _=>trivial) (hc rfl);have fx:V6 cx e' True:=weak (λ_ _=>trivial) (hc' rfl);obtain⟨k1,k2,k3,k4,k5⟩:=b2C h7j h7x ha fj fx hok hok' hkey λls he=>h.there ls he;rw[W4 a1] at h';refine⟨σF,_,.run d' e' hw' h' ⟨k4.trans hs'.1,near1.trans hs'.2⟩ k1 ht' (λ_=>weak (λq=>absurd q h7x) fx),?_⟩;have:=a4L.run (P:=P) (ops:=ops) (dr:=true) (T:=T) (c:=cj) (σF:=e'.apply st.σ) (o:=oj) (st:=⟨F3 st.env ox.dst d',e'.apply st.σ⟩) d e (by rw[P7 a3];exact hw) ((W4 a3).2 (h.mono k5)) (rr _) k2 ht (λ_=>weak (λq=>absurd q h7j) fj);rw[k3,a0j (x:=ox.dst) (y:=oj.dst) λt q q'=>a2 t q' q] at this;exact this
  | skip hw'=>
   simp only at hw' ⊢;rw[P7 a1] at hw';refine⟨st.σ,_,.skip hw',?_⟩;have:=a4L.run (P:=P) (ops:=ops) (dr:=true) (T:=T) (c:=cj) (σF:=st.σ) (o:=oj) (st:=⟨F3 st.env ox.dst (.tup []),st.σ⟩) d e (by rw[P7 a3];exact hw) ((W4 a3).2 h) (rr _) hok ht
    (λq=>weak (λ_ f σ' hσ=>(W4 a3).2 (f σ' hσ)) (hc q))
   rw[a0j (x:=ox.dst) (y:=oj.dst) λt q q'=>a2 t q' q] at this;exact this
 | skip hw=>
  cases hx with
  | run d' e' hw' h' hs' hok' ht' hc'=>
   simp only at hw' h' hs' hok' ⊢;rw[P7 a1] at hw';rw[W4 a1] at h';refine⟨σF,_,.run d' e' hw' h' hs' hok' ht' (λq=>weak (λ_ f σ' hσ=>(W4 a1).1 (f σ' hσ)) (hc' q)),?_⟩;have:=a4L.skip (P:=P) (ops:=ops) (dr:=true) (T:=T) (c:=cj) (σF:=e'.apply st.σ) (o:=oj) (st:=⟨F3 st.env ox.dst d',e'.apply st.σ⟩) (by rw[P7 a3];exact hw);rw[a0j (x:=ox.dst) (y:=oj.dst) λt q q'=>a2 t q' q] at this;exact this
  | skip hw'=>
   simp only at hw' ⊢;rw[P7 a1] at hw';refine⟨st.σ,_,.skip hw',?_⟩;have:=a4L.skip (P:=P) (ops:=ops) (dr:=true) (T:=T) (c:=cj) (σF:=st.σ) (o:=oj) (st:=⟨F3 st.env ox.dst (.tup []),st.σ⟩) (by rw[P7 a3];exact hw);rw[a0j (x:=ox.dst) (y:=oj.dst) λt q q'=>a2 t q' q] at this;exact this
def a9K(P:Program)(ops:Array Oper)(bar:List Nat)(dr:Bool):List Nat→St→St→Prop
 | [],st,st'=>st=st'
 | i::is,st,st'=>∃o s,ops[i]? = some o∧Stp P ops dr (kept bar) (cls bar i o.op) o st s∧a9K P ops bar dr is s st'
theorem a7E{P:Program}{ops:Array Oper}{bar:List Nat}{x:Nat}{ox:Oper}(hox:ops[x]? = some ox):∀(c1 c2:List Nat) (st s':St),
  (∀j∈c1,∀oj,ops[j]? = some oj→oj.apart ops ox=true∧allowed (cls bar j oj.op) (cls bar x ox.op)=true)→a9K P ops bar true (c1++x::c2) st s' →
  ∃σF st',a4L P ops true (kept bar) (cls bar x ox.op) σF ox st st'∧a9K P ops bar true (c1++c2) st' s':=by
 intro c1;induction c1 with
 | nil=>
  intro c2 st s' _ h;obtain⟨o,s,ho,hs,hr⟩:=h;rw[hox] at ho;cases ho;exact⟨_,s,hs,hr⟩
 | cons j c1 ih=>
  intro c2 st s' hj h;obtain⟨oj,s,hoj,hs,hr⟩:=h;obtain⟨σF,s1,h1,h2⟩:=ih c2 s s' (λk hk=>hj k (List.mem_cons_of_mem _ hk)) hr;obtain⟨k1,k2⟩:=hj j (List.mem_cons_self ..) oj hoj;obtain⟨σF',st',q1,q2⟩:=b2b k1 k2 hs h1;exact⟨σF',st',q1,oj,s1,hoj,q2,h2⟩
end Go.Pw
namespace Go.Pw
open Go.RowKit
section
variable{X:Ctx}{g:Gh}{st:St}{a:Act}{w:World}{n:Nat}{K:Act→World→Prop}{Q:Exit→Act→World→Prop}{ρ:Option Nat}{ops:Array Oper}
theorem F9(h:r7 X g st a w){o:Oper}{b:Bool}(hw:s9 ops st.env o=some b):Region.wanted o (yielded ops a.tmps)=b:=by
 unfold s9 at hw;unfold Region.wanted;cases hg:o.guard with
 | none=>rw[hg] at hw;simpa using hw
 | some p=>
  obtain⟨j,want⟩:=p;rw[hg] at hw;simp only at hw ⊢;cases hd:(ops[j]?).bind (·.dst) with
  | none=>rw[hd] at hw;cases hw
  | some t=>
   rw[hd] at hw;simp only at hw;have ht:=h.b2D t;cases he:p6 st.env (.tmp t) <;> rw[he] at hw ht <;> first | (cases hw;done) | skip
   case bool b'=>
    simp only[Option.some.injEq] at hw;have hv:=ht.P0;have:a.tmps[t]? = some (.bool b'):=by
     rw[Array.getD_eq_getD_getElem?] at hv;cases hq:a.tmps[t]? with
     | none=>rw[hq] at hv;cases hv
     | some v=>rw[hq] at hv;simp only[Option.getD_some] at hv;rw[hv]
    have hy:yielded ops a.tmps j=some b':=by
     unfold yielded;rw[hd];simp only[Option.bind_some,this]
    rw[hy,←hw];rfl
   case tup vs=>
    cases vs with
    | cons _ _=>cases hw
    | nil=>
     simp only[Option.some.injEq] at hw;subst hw;obtain⟨us,hv,_⟩:=ht.a6O;have hy:yielded ops a.tmps j=none:=by
      unfold yielded;rw[hd];simp only[Option.bind_some];rw[Array.getD_eq_getD_getElem?] at hv;cases hq:a.tmps[t]? with
      | none=>rfl
      | some v=>rw[hq] at hv;simp only[Option.getD_some] at hv;rw[hv]
     rw[hy];rfl
theorem a5V{c:Nat}{T:List Nat}{dr:Bool}{σF:Nat→Option Row}{o:Oper}{st':St}{i:Nat}(hi:ops[i]? = some o)(h:r7 X g st a w)(hs:a4L X.P ops dr T c σF o st st')(hdst:∀t,o.dst=some t→t<X.N)
  (hK:∀g' a' w',r7 X g' st' a' w'→K a' w'):wpOpIn (FX ρ) n X.P ops Q i K a w:=by
 unfold wpOpIn;rw[hi];simp only;cases hs with
 | run d e hw ho hsame hok ht hc=>
  rw[if_pos (F9 h hw)];exact b2Z h ho hsame.1 hok hdst hK
 | skip hw=>
  rw[if_neg (by rw[F9 h hw];simp)];exact⟨λ_ _=>trivial,hK g _ w (h.put hdst (.cl (.tup #[] [] rfl λi v c _ hc=>by simp at hc)))⟩
def X5(N:Nat)(ops:Array Oper):Bool:=ops.toList.all λo=>match o.dst with | some t=>decide (t<N) | none=>true
theorem y8{N:Nat}(h:X5 N ops=true){i:Nat}{o:Oper}(hi:ops[i]? = some o):∀t,o.dst=some t→t<N:=by
 intro t ht;have hm:o∈ops.toList:=by
  have:ops.toList[i]? = some o:=by simpa using hi
  exact List.mem_of_getElem? this
 have:=List.all_eq_true.1 h o hm;rw[ht] at this;simpa using this
def b6r(M:Array Nat)(es:List Edge):Nat:=es.foldl (λs e=>if Region.binds .any e then s ||| (2 ^ e.on ||| M.getD e.on 0) else s) 0
theorem a8E(M:Array Nat)(j:Nat):∀(es:List Edge) (s:Nat),(es.foldl (λs e=>if Region.binds .any e then s ||| (2 ^ e.on ||| M.getD e.on 0) else s) s).testBit j=true →
  s.testBit j=true∨∃e∈es,Region.binds .any e=true∧(e.on=j∨(M.getD e.on 0).testBit j=true)
 | [],s,h=>.inl h
 | e::es,s,h=>by
  rw[List.foldl_cons] at h;rcases a8E M j es _ h with q | ⟨e',q1,q2⟩
  ·split at q
   ·rename_i hb;rw[Nat.testBit_or,Nat.testBit_or,Bool.or_eq_true,Bool.or_eq_true] at q;rcases q with q | q | q
    ·exact .inl q
    ·refine .inr ⟨e,List.mem_cons_self ..,hb,.inl ?_⟩;rw[Nat.testBit_two_pow] at q;simpa using q
    ·exact .inr ⟨e,List.mem_cons_self ..,hb,.inr q⟩
   ·exact .inl q
  ·exact .inr ⟨e',List.mem_cons_of_mem _ q1,q2⟩
def a4d(ops:Array Oper)(bar:List Nat)(M:Array Nat):Bool:=
 (List.range ops.size).all λx=>match ops[x]? with
  | some ox=>(M.getD x 0==b6r M ox.after.toList)&&(ox.after.toList.all λe => !Region.binds .any e||decide (e.on<x)) &&
   ((List.range x).all λj=>(M.getD x 0).testBit j||(match ops[j]? with
    | some oj=>oj.apart ops ox&&allowed (cls bar j oj.op) (cls bar x ox.op)
    | none=>true))
  | none=>true
theorem M3{bar:List Nat}{M:Array Nat}(h:a4d ops bar M=true){x:Nat}{ox:Oper}(hx:ops[x]? = some ox) :
  (∀j,(M.getD x 0).testBit j=true→∃e∈ox.after,Region.binds .any e=true∧(e.on=j∨(M.getD e.on 0).testBit j=true))∧(∀e∈ox.after,Region.binds .any e=true→e.on<x) ∧
  (∀j oj,j<x→ops[j]? = some oj→(M.getD x 0).testBit j=true∨(oj.apart ops ox=true∧allowed (cls bar j oj.op) (cls bar x ox.op)=true)):=by
 have hlt:x<ops.size:=by
  rcases Nat.lt_or_ge x ops.size with q | q
  ·exact q
  ·rw[Array.getElem?_eq_none q] at hx;cases hx
 have:=List.all_eq_true.1 h x (by simpa using hlt);rw[hx] at this;simp only[Bool.and_eq_true,beq_iff_eq] at this;obtain⟨⟨h1,h2⟩,h3⟩:=this;refine⟨λj hj=>?_,λe he hb=>?_,λj oj hj hoj=>?_⟩
 ·rw[h1] at hj;rcases a8E M j _ _ hj with q | ⟨e,q1,q2⟩
  ·simp at q
  ·exact⟨e,by simpa using q1,q2⟩
 ·simpa[hb] using List.all_eq_true.1 h2 e (by simpa using he)
 ·have:=List.all_eq_true.1 h3 j (by simpa using hj);rw[hoj] at this;simp only[Bool.or_eq_true,Bool.and_eq_true] at this;exact this
def V4(n:Nat)(listed:Array Bool):List Nat:=(List.range n).filter λi => !listed.getD i true
theorem Y0(n:Nat)(listed:Array Bool):(V4 n listed).Pairwise (· < ·):=List.Pairwise.filter _ List.pairwise_lt_range
theorem a7C{n:Nat}{listed:Array Bool}{i:Nat}{c1 c2:List Nat}(hsz:listed.size=n)(hi:i<n)(h:V4 n listed=c1++i::c2):V4 n (listed.setIfInBounds i true)=c1++c2:=by
 have hs:=Y0 n listed;rw[h] at hs;rw[List.pairwise_append] at hs;obtain⟨h1,h2,h3⟩:=hs;rw[List.pairwise_cons] at h2;have e:V4 n (listed.setIfInBounds i true)=(V4 n listed).filter λj=>decide (j≠i):=by
  unfold V4;rw[List.filter_filter];refine List.filter_congr λj hj=>?_;have hj':j<n:=by simpa using hj
  by_cases q:j=i
  ·subst q;simp[Array.getD_eq_getD_getElem?,hsz,hj']
  ·rw[getD_set_ne (listed:=listed) (i:=i) (j:=j) true (Ne.symm q)];simp[q]
 rw[e,h,List.filter_append,List.filter_cons,if_neg (by simp)];congr 1;·exact List.filter_eq_self.2 λj hj=>by have:=h3 j hj i (List.mem_cons_self ..);simp;omega
 ·exact List.filter_eq_self.2 λj hj=>by have:=h2.1 j hj;simp;omega
theorem b1R{bar:List Nat}{M:Array Nat}{stF:St}(hd:X5 X.N ops=true)(hr:a4d ops bar M=true)(hQ:∀g' a' w',r7 X g' stF a' w'→Q .normal a' w') :
  ∀(fuel:Nat) (listed:Array Bool) (g:Gh) (st:St) (a:Act) (w:World),r7 X g st a w→listed.size=ops.size→(V4 ops.size listed).length=fuel →
   (∀i o,listed.getD i false=true→ops[i]? = some o→∀e∈o.after,Region.binds .any e=true→listed.getD e.on false=true) →
   a9K X.P ops bar true (V4 ops.size listed) st stF→wpAnyIn (FX ρ) n X.P .any ops Q fuel listed a w:=by
 intro fuel;have hfirst:∀(listed:Array Bool),listed.size=ops.size→∀i c,V4 ops.size listed=i::c→i∈Region.ready .any ops listed:=by
  intro listed hsz i c h;have hmem:i∈V4 ops.size listed:=by rw[h];simp
  obtain⟨hi1,hi2⟩:=List.mem_filter.1 hmem;have hi:i<ops.size:=by simpa using hi1
  refine List.mem_filter.2 ⟨hi1,?_⟩;rw[hi2,Bool.true_and,Array.getElem?_eq_getElem hi];simp only[Option.map_some,Option.getD_some];rw[Array.all_eq_true_iff_forall_mem];intro e he;cases hb:Region.binds .any e with
  | false=>rfl
  | true=>
  have hlt:=(M3 hr (Array.getElem?_eq_getElem hi)).2.1 e he hb;show (!true||_)=true;rw[Bool.or_eq_true];right;cases hq:listed.getD e.on false with
  | true=>rfl
  | false=>
   exfalso;have hon:e.on∈V4 ops.size listed:=List.mem_filter.2 ⟨by simp;omega,by
    have:listed.getD e.on true=false:=by
     have hlt':e.on<listed.size:=by omega
     simp[Array.getD_eq_getD_getElem?,hlt'] at hq ⊢;exact hq
    rw[this];rfl⟩
   have hs:=Y0 ops.size listed;rw[h] at hs hon;rw[List.pairwise_cons] at hs;rcases List.mem_cons.1 hon with q | q
   ·omega
   ·have:=hs.1 _ q;omega
 induction fuel with
 | zero=>
  intro listed g st a w h hsz hf _ hrun;have hnil:V4 ops.size listed = []:=List.eq_nil_of_length_eq_zero hf;rw[hnil] at hrun;have:st=stF:=hrun;subst this;refine⟨?_,hQ g a w h⟩;cases hq:Region.ready .any ops listed with
  | nil=>rfl
  | cons i l=>
   exfalso;have hm:i∈Region.ready .any ops listed:=by rw[hq];simp
   obtain⟨k1,k2⟩:=List.mem_filter.1 hm;rw[Bool.and_eq_true] at k2;have:i∈V4 ops.size listed:=List.mem_filter.2 ⟨k1,k2.1⟩;rw[hnil] at this;cases this
 | succ fuel ih=>
  intro listed g st a w h hsz hf hdown hrun;refine⟨λhnil=>?_,λi hi=>?_⟩
  ·exfalso;cases hq:V4 ops.size listed with
   | nil=>rw[hq] at hf;simp at hf
   | cons j c=>
    have:=hfirst listed hsz j c hq;rw[hnil] at this;cases this
  ·obtain⟨k1,k2⟩:=List.mem_filter.1 hi;rw[Bool.and_eq_true] at k2;have hil:i<ops.size:=by simpa using k1
   have hget:=Array.getElem?_eq_getElem hil;have hirem:i∈V4 ops.size listed:=List.mem_filter.2 ⟨k1,k2.1⟩;obtain⟨c1,c2,hc⟩:=List.append_of_mem hirem;have hs:=Y0 ops.size listed;rw[hc] at hs hrun;rw[List.pairwise_append] at hs;have hafter:∀e∈ops[i].after,Region.binds .any e=true→listed.getD e.on false=true:=by
    have:=k2.2;rw[hget] at this;simp only[Option.map_some,Option.getD_some] at this;rw[Array.all_eq_true_iff_forall_mem] at this;intro e he hb;have:=this e he;rw[hb] at this;simpa using this
   have hnotl:∀j∈c1,listed.getD j false=false:=by
    intro j hj;have:j∈V4 ops.size listed:=by rw[hc];simp[hj]
    obtain⟨q1,q2⟩:=List.mem_filter.1 this;have q2':listed.getD j true=false:=by simpa using q2
    rw[Array.getD_eq_getD_getElem?] at q2' ⊢;cases hq:listed[j]? with
    | none=>rfl
    | some b=>rw[hq] at q2';exact q2'
   have hwait:∀j,(M.getD i 0).testBit j=true→listed.getD j false=true:=by
    have key:∀(m k:Nat) (o:Oper),k<m→ops[k]? = some o→(∀e∈o.after,Region.binds .any e=true→listed.getD e.on false=true)→∀j,(M.getD k 0).testBit j=true→listed.getD j false=true:=by
     intro m;induction m with
     | zero=>intro k o hk;omega
     | succ m ihm=>
      intro k o hk ho haf j hj;obtain⟨e,he1,he2,he3⟩:=(M3 hr ho).1 j hj;have hl:=haf e he1 he2;rcases he3 with rfl | he3
      ·exact hl
      ·have hlt:=(M3 hr ho).2.1 e he1 he2;have hklt:k<ops.size:=by
        rcases Nat.lt_or_ge k ops.size with q | q
        ·exact q
        ·rw[Array.getElem?_eq_none q] at ho;cases ho
       exact ihm e.on _ (by omega) (Array.getElem?_eq_getElem (show e.on<ops.size by omega)) (λe' h1 h2=>hdown e.on _ hl (Array.getElem?_eq_getElem (show e.on<ops.size by omega)) e' h1 h2) j he3
    exact key (i+1) i _ (by omega) hget hafter
   have hind:∀j∈c1,∀oj,ops[j]? = some oj→oj.apart ops ops[i]=true∧allowed (cls bar j oj.op) (cls bar i ops[i].op)=true:=by
    intro j hj oj hoj;have hji:=hs.2.2 j hj i (List.mem_cons_self ..);rcases (M3 hr hget).2.2 j oj hji hoj with q | q
    ·have:=hwait j q;rw[hnotl j hj] at this;cases this
    ·exact q
   obtain⟨σF,st',hst,hrest⟩:=a7E hget c1 c2 st stF hind hrun;refine a5V hget h hst (y8 hd hget) λg' a' w' h'=>?_;have hrem:=a7C hsz hil hc;refine ih _ g' st' a' w' h' (by simpa using hsz) ?_ ?_ (by rw[hrem];exact hrest)
   ·rw[hrem];rw[hc] at hf;simp at hf ⊢;omega
   ·intro k o hk ho e he hb;by_cases q:k=i
    ·subst q;rw[hget] at ho;cases ho;exact getD_set_true (hafter e he hb)
    ·rw[getD_set_ne (listed:=listed) (i:=i) (j:=k) false (Ne.symm q)] at hk;exact getD_set_true (hdown k o hk ho e he hb)
end
end Go.Pw
namespace Go.Pw
open Go.RowKit
inductive PX where
 | normal
 | exit (id:Nat)
 | goto (l:Nat)
 | ret
def lift(X:Ctx)(Q:PX→Ctx→St→Prop):Exit→Act→World→Prop
 | .normal,a,w=>∃X' g st,r7 X' g st a w∧(X'.P=X.P∧X'.ρ=X.ρ)∧Q .normal X' st
 | .exit id,a,w=>∃X' g st,r7 X' g st a w∧(X'.P=X.P∧X'.ρ=X.ρ)∧Q (.exit id) X' st
 | .goto l,a,w=>∃X' g st,r7 X' g st a w∧(X'.P=X.P∧X'.ρ=X.ρ)∧Q (.goto l) X' st
 | .ret,a,w=>∃X' g st,r7 X' g st a w∧(X'.P=X.P∧X'.ρ=X.ρ)∧Q .ret X' st
 | .panic _,_,_=>False
 | .outgrown,_,_=>False
def J1(X:Ctx)(c:Code)(Q:PX→Ctx→St→Prop)(st:St):Prop:=∀(n:Nat) (g:Gh) (a:Act) (w:World),r7 X g st a w→c.wpIn (FX X.ρ) n X.P (lift X Q) a w
section
variable{X:Ctx}{Q:PX→Ctx→St→Prop}{st:St}
theorem J1.mono{c:Code}{Q':PX→Ctx→St→Prop}(h:J1 X c Q st)(hq:∀e X' s,Q e X' s→Q' e X' s):J1 X c Q' st:=λn g a w hs=>wpIn_mono (h n g a w hs) λe a' w' q=>by
 cases e <;> simp only[lift] at q ⊢ <;> first | exact q | (obtain⟨X',g',st',h1,h3,h2⟩:=q;exact⟨X',g',st',h1,h3,hq _ _ _ h2⟩)
theorem b5(h:Q .normal X st):J1 X .skip Q st:=λn g a w hs=>wpIn_skip ⟨X,g,st,hs,⟨rfl,rfl⟩,h⟩
theorem a7y{l:Nat}(h:Q .normal X st):J1 X (.label l) Q st:=λn g a w hs=>wpIn_label ⟨X,g,st,hs,⟨rfl,rfl⟩,h⟩
theorem o9{id:Nat}(h:Q (.exit id) X st):J1 X (.exit id) Q st:=λn g a w hs=>wpIn_exit ⟨X,g,st,hs,⟨rfl,rfl⟩,h⟩
theorem b1y{l:Nat}(h:Q (.goto l) X st):J1 X (.goto l) Q st:=λn g a w hs=>wpIn_goto ⟨X,g,st,hs,⟨rfl,rfl⟩,h⟩
theorem a7(h:Q .ret X st):J1 X .ret Q st:=λn g a w hs=>wpIn_ret ⟨X,g,st,hs,⟨rfl,rfl⟩,h⟩
def a0Y(N:Ctx→St→Prop)(Q:PX→Ctx→St→Prop):PX→Ctx→St→Prop
 | .normal,X,s=>N X s
 | e,X,s=>Q e X s
theorem a5d{X X':Ctx}(h:X'.P=X.P∧X'.ρ=X.ρ):lift X' Q=lift X Q:=by
 funext e a w
 cases e <;> simp only[lift,h.1,h.2]
theorem c5{x y:Code}(h:J1 X x (a0Y (λX'=>J1 X' y Q) Q) st):J1 X (.seq x y) Q st:=λn g a w hs=>wpIn_seq (wpIn_mono (h n g a w hs) λe a' w' q=>by
 cases e <;> simp only[lift,a0Y,Exit.then] at q ⊢ <;> first | exact q | (
  obtain⟨X',g',st',h1,h3,h2⟩:=q;have:=h2 n g' a' w' h1;rw[a5d h3,h3.1,h3.2] at this;exact this))
theorem y7{c:Operand}{x y:Code}(b:Bool)(hc:p6 st.env c = .bool b)(hx:b=true→J1 X x Q st)(hy:b=false→J1 X y Q st):J1 X (.cond c x y) Q st:=λn g a w hs=>by
 have hv:=hs.eval c;rw[hc] at hv;refine wpIn_cond hv.P0 ?_;cases b;·exact hy rfl n g a w hs
 ·exact hx rfl n g a w hs
def a5u(id:Nat)(Q:PX→Ctx→St→Prop):PX→Ctx→St→Prop
 | .exit id',X,s=>if id'=id then Q .normal X s else Q (.exit id') X s
 | e,X,s=>Q e X s
theorem c6 {id : Nat} {c : Code} (h : J1 X c (a5u id Q) st) : J1 X (.block id c) Q st := fun n g a w hs => wpIn_block (wpIn_mono (h n g a w hs) fun e a' w' q => by
  cases e <;> simp only [lift, a5u, Exit.inBlock] at q ⊢ <;> first
    | exact q
    | (obtain ⟨X', g', st', h1, h3, h2⟩ := q
       split;· rename_i e; rw [if_pos e] at h2; exact ⟨X', g', st', h1, h3, h2⟩
       · rename_i e; rw [if_neg e] at h2; exact ⟨X', g', st', h1, h3, h2⟩))
theorem exists_least{p:Nat→Prop}(h:∃m,p m):∃m,p m∧∀k,p k→m≤k:=by
 obtain⟨m,hm⟩:=h;induction m using Nat.strongRecOn with
 | _ m ih=>
  by_cases q:∃k,k<m∧p k
  ·obtain⟨k,h1,h2⟩:=q;exact ih k h1 h2
  ·exact⟨m,hm,λk hk=>Nat.le_of_not_lt λh=>q ⟨k,h,hk⟩⟩
theorem b4t{id:Nat}{ops:Array Oper}(bar:List Nat)(hm:X.P.follows .mixedOrders=true)(hd:X5 X.N ops=true)(hr:a4d ops bar (Region.before ops)=true)
  (h:∃s,a9K X.P ops bar true (List.range ops.size) st s∧Q .normal X s):J1 X (.region id ops true) Q st:=by
 intro n g a w hs;obtain⟨s,hrun,hq⟩:=h;have hrem:V4 ops.size (Array.replicate ops.size false)=List.range ops.size:=List.filter_eq_self.2 λi hi=>by
  have:i<ops.size:=by simpa using hi
  simp[Array.getD_eq_getD_getElem?,this]
 refine wpIn_region_any hm (b1R hd hr (λg' a' w' h'=>⟨X,g',s,h',⟨rfl,rfl⟩,hq⟩) _ _ g st a _ hs.drew (by simp) (by rw[hrem];simp) (λi o hi=>?_) (by rw[hrem];exact hrun));exfalso;rw[Array.getD_eq_getD_getElem?,Array.getElem?_replicate] at hi;split at hi <;> cases hi
end
def D3(ds:List PV):Nat→PV:=λi=>ds.getD i (.tup [])
def b48(P:Program)(st:St):ResultVar→PV→Prop
 | .tmp t,d=>p6 st.env (.tmp t)=d
 | .cell t T,d=>u6 P st.σ (p6 st.env) none (.load T (.tmp t)) d .none
def a7W(P:Program)(st:St):List ResultVar→List PV→Prop
 | [],[]=>True
 | r::rs,d::ds=>b48 P st r d∧a7W P st rs ds
 | _,_=>False
def a0b:List PV→PV
 | [d]=>d
 | ds=>.tup ds
def Fin(P:Program)(fn:Func)(d:PV)(st:St):Prop:=
 ∃rs,a7W P st fn.results.toList rs∧(a0b rs).vok st.σ=true∧((a0b rs).view st.σ=d∨((a0b rs).view st.σ).w3=d)
def b2e(P:Program)(fn:Func)(r:Row)(st:St):Prop:=
 ∃t l,fn.results = #[.tmp t]∧p6 st.env (.tmp t) = .sl l∧st.σ l=some r∧r.cl=true
def fnQ(X:Ctx)(F:St→Prop):PX→Ctx→St→Prop
 | .normal,X',s | .ret,X',s=>X'=X∧F s
 | _,_,_=>False
section
variable{X:Ctx}{g:Gh}{st:St}{a:Act}{w:World}
def a3j(tmps:Array Value):ResultVar→Sem Value
 | .tmp t=>pure (tmps.getD t undef)
 | .cell t T=>do loadVar T (←asAddr (tmps.getD t undef))
theorem a0y(fn:Func)(tmps:Array Value):results fn tmps=(do let vs ←fn.results.mapM (a3j tmps);pure (if h:vs.size=1 then vs[0] else .tuple vs)):=by
 have:(λx:ResultVar=>match x with
   | .tmp t=>(pure (tmps.getD t undef):Sem Value)
   | .cell a t=>do loadVar t (←asAddr (tmps.getD a undef)))=a3j tmps:=by
  funext r
  cases r <;> rfl
 unfold results;rw[←this];rfl
theorem b1E(h:r7 X g st a w){r:ResultVar}{d:PV}(hr:b48 X.P st r d) :
  ∃v,(a3j a.tmps r).run X.P w = .ok v w∧Rd w g.imm g.μ st.j2 v d:=by
 cases r with
 | tmp t=>
  have:p6 st.env (.tmp t)=d:=hr;subst this;exact⟨_,rfl,h.b2D t⟩
 | cell t T=>
  have hv:=h.b2D t;have hr':u6 X.P st.σ (p6 st.env) none (.load T (.tmp t)) d .none:=hr;have key:∀(b o:Nat) (u:Value),a.tmps.getD t undef = .pointer (some ⟨b,o,none⟩)→(Instr.loadAt T (a.tmps.getD t undef)).run X.P w = .ok u w →
    (do loadVar T (←asAddr (a.tmps.getD t undef)):Sem Value).run X.P w = .ok u w:=by
   intro b o u e hrun;rw[e] at hrun ⊢;exact hrun
  cases hr' with
  | pureV _ _ hnd hnl h=>exact absurd rfl (hnl _ _)
  | a2w _ _ l i f r y n hx hl hy ha hsz hf=>
   have hx':p6 st.env (.tmp t) = .ptr l i f:=hx;rw[hx'] at hv;obtain⟨u,h1,h2⟩:=h.a2w hv hl hy ha hsz hf;obtain⟨_,b,s,_,e⟩:=hv.J9;exact⟨u,key _ _ u e h1,h2⟩
  | a1r _ _ l i f r y _ hx hl hy ha hf=>
   have hx':p6 st.env (.tmp t) = .ptr l i f:=hx;rw[hx'] at hv;obtain⟨u,h1,h2⟩:=h.a1r hv hl hy ha hf;obtain⟨_,b,s,_,e⟩:=hv.J9;exact⟨u,key _ _ u e h1,h2⟩
  | Y8 _ _ cs n hx ha hsz hf=>
   have hx':p6 st.env (.tmp t) = .rptr cs:=hx;rw[hx'] at hv;obtain⟨u,h1,h2⟩:=h.Y8 hv ha hsz hf;obtain⟨b,o,_,e,_⟩:=hv.P5;exact⟨u,key _ _ u e h1,h2⟩
  | Y9 _ _ cs _ hx ha hf=>
   have hx':p6 st.env (.tmp t) = .rptr cs:=hx;rw[hx'] at hv;obtain⟨u,h1,h2⟩:=h.Y9 hv ha hf;obtain⟨b,o,_,e,_⟩:=hv.P5;exact⟨u,key _ _ u e h1,h2⟩
theorem a5j(h:r7 X g st a w):∀ {rs:List ResultVar} {ds:List PV},a7W X.P st rs ds →
  ∃vs:List Value,(rs.mapM (a3j a.tmps)).run X.P w = .ok vs w∧vs.length=ds.length ∧
   ∀(i:Nat) v d,vs[i]? = some v→ds[i]? = some d→Rd w g.imm g.μ st.j2 v d
 | [],[],_=>⟨[],rfl,rfl,λi v d hv=>by simp at hv⟩
 | r::rs,d::ds,hr=>by
  obtain⟨v,h1,h2⟩:=b1E h hr.1;obtain⟨vs,k1,k2,k3⟩:=a5j h hr.2;refine⟨v::vs,?_,by simp[k2],λi v' d' hv hd=>?_⟩
  ·rw[List.mapM_cons,Sem.run_bind,h1,Result.andThen_ok,Sem.run_bind,k1,Result.andThen_ok];rfl
  ·cases i with
   | zero=>simp at hv hd;subst hv hd;exact h2
   | succ i=>exact k3 i v' d' (by simpa using hv) (by simpa using hd)
 | [],_::_,hr=>hr.elim
 | _::_,[],hr=>hr.elim
theorem b1D(h:r7 X g st a w){fn:Func}{ds:List PV}(hr:a7W X.P st fn.results.toList ds):∃v,(results fn a.tmps).run X.P w = .ok v w∧Rd w g.imm g.μ st.j2 v (a0b ds):=by
 obtain⟨vs,k1,k2,k3⟩:=a5j h hr;have hm:(fn.results.mapM (a3j a.tmps)).run X.P w = .ok vs.toArray w:=by
  rw[Array.mapM_eq_mapM_toList];simp only[←bind_pure_comp];rw[Sem.run_bind,k1];rfl
 by_cases h1:vs.length=1
 ·match vs,h1,k1,k2,k3,hm with
  | [v],_,k1,k2,k3,hm=>
   match ds,k2,k3 with
   | [d],_,k3=>
    refine⟨v,?_,k3 0 v d rfl rfl⟩;rw[a0y,Sem.run_bind,hm];rfl
 ·refine⟨.tuple vs.toArray,?_,?_⟩
  ·rw[a0y,Sem.run_bind,hm];simp only[Result.andThen_ok];rw[dif_neg (by simpa using h1)];rfl
  ·have:a0b ds = .tup ds:=by
    match ds,k2 with
    | [],_=>rfl
    | [d],k2=>simp at k2;exact absurd k2 h1
    | _::_::_,_=>rfl
   rw[this];exact .tup _ _ (by simpa using k2) λi v c hv hc=>k3 i v c (by simpa using hv) hc
theorem a3d{fn:Func}{tmps:Array Value}{R:Ending→World→Prop}{P:Program}{n:Nat}{base:Nat}{v:Value}:∀(rs:List Nat) (w:World),rs.Nodup →
  (∀r∈rs,w.heap[r]? = some (.deferred (some []))∧base≤r)→(∀w',Bel base w w'→(∀(b o:Nat),w'.cell? ⟨b,o,none⟩=w.cell? ⟨b,o,none⟩∧w'.frozen? ⟨b,o,none⟩=w.frozen? ⟨b,o,none⟩)→w'.heap.size=w.heap.size→(∀(k:Nat) x,w.heap[k]? = some x→O3 x=true→w'.heap[k]? = some x)→(results fn tmps).run P w' = .ok v w'∧R (.returned v) w') →
  LeavesInM Fence.wide n P fn tmps R (rs.map λr=>{ target:=.collected r,args:=#[] }) .returning w
 | [],w,_,_,hR=>by
  obtain⟨h1,h2⟩:=hR w (Bel.refl _ _) (λ_ _=>⟨rfl,rfl⟩) rfl (λ_ _ q _=>q);exact⟨v,h1,h2⟩
 | r::rs,w,hn,hm,hR=>by
  rw[List.nodup_cons] at hn;have hr:=hm r (by simp);have hlt:=(Array.getElem?_eq_some_iff.1 hr.1).1;have hcell:∀b o,(w.putObj r (.deferred none)).cell? ⟨b,o,none⟩=w.cell? ⟨b,o,none⟩:=by
   intro b o;by_cases e:b=r
   ·subst e;unfold World.cell?;simp only;rw[World.putObj_heap_same hlt,hr.1]
   ·exact World.cell?_of_block (by rw[World.putObj_heap_other e])
  have hfro:∀b o,(w.putObj r (.deferred none)).frozen? ⟨b,o,none⟩=w.frozen? ⟨b,o,none⟩:=by
   intro b o;by_cases e:b=r
   ·subst e;unfold World.frozen?;simp only;rw[World.putObj_heap_same hlt,hr.1]
   ·unfold World.frozen?;simp only;rw[World.putObj_heap_other e]
  have hb:Bel base w (w.putObj r (.deferred none)):=⟨⟨rfl,rfl,rfl,by simp,λk hk=>World.putObj_heap_other (by omega)⟩,Nat.le_refl _⟩;refine⟨(by intro q;cases q),.inl ⟨r,w.putObj r (.deferred none),rfl,?_,a3d (base:=base) (v:=v) rs _ hn.2 (λk hk=>?_) λw' h1 h2 h3 h4=>?_⟩⟩;·exact run_takeDeferred hr.1
  ·rw[World.putObj_heap_other (λe=>hn.1 (by rw[←e];exact hk))];exact hm k (by simp[hk])
  ·exact hR w' (hb.trans h1) (λb o=>⟨(h2 b o).1.trans (hcell b o),(h2 b o).2.trans (hfro b o)⟩) (by rw[h3];simp) (λk x hx hm=>h4 k x (by
    rw[World.putObj_heap_other (λe=>by rw[e,hr.1] at hx;cases hx;cases hm)];exact hx) hm)
theorem b15{P:Program}{f:FuncId}{fn:Func}{c:Code}{ds:List PV}{d:PV}(hf:P.funcs[f]? = some fn)(hb:fn.body=some c)(hn:ds.length≤fn.ntmps)(h6:fn.ntmps≤1000000)
  (h:∀X:Ctx,X.P=P→X.N=fn.ntmps→X.ρ=none→X.ext=(λ_=>undef)→X.obs = []→X.calm=false→J1 X c (fnQ X (Fin P fn d)) ⟨D3 ds,λ_=>none⟩):E5 P f ds d:=by
 intro w imm vs hlt hG hargs;let X:Ctx:={ P:=P,N:=fn.ntmps,ρ:=none,w0:=w,imm0:=imm,ext:=λ_=>undef,tab:=hG }
 let a0:Act:={ tmps:=vs++Array.replicate (fn.ntmps-vs.size) undef,defers:=[] }
 have hsim:r7 X ⟨imm,λ_=>⟨none,0,0,0⟩⟩ ⟨D3 ds,λ_=>none⟩ a0 w:=by
  refine⟨?_,λi=>?_,(λl r q=>by cases q),(λl l' r r' _ q=>by cases q),(λl r b o q=>by cases q),hlt,λb o q=>.inl q,λb o q=>q,Bel.refl _ _,⟨[],List.nodup_nil,rfl,λr hr=>by cases hr⟩,λp hp=>(by cases hp),⟨h6,λ_=>rfl⟩,⟨λl r _ q=>(by cases q),λl l' r r' _ _ _ q=>(by cases q)⟩⟩
  ·have:=hargs.1;simp only[a0,X,Array.size_append,Array.size_replicate];omega
  ·by_cases q6:i<1000000
   rotate_left
   ·simp only[a0,D3,Ctx.val,if_neg q6,X];rw[List.getD_eq_getElem?_getD,List.getElem?_eq_none (by omega)];exact .cl (.tup #[] [] rfl λi v c _ hc=>by simp at hc)
   simp only[a0,D3,Ctx.val,if_pos q6];rw[Array.getD_eq_getD_getElem?,List.getD_eq_getElem?_getD];rcases Nat.lt_or_ge i vs.size with q | q
   ·rw[Array.getElem?_append_left q,Array.getElem?_eq_getElem q,List.getElem?_eq_getElem (by rw[←hargs.1];exact q)];exact .cl (hargs.2 i _ _ (Array.getElem?_eq_getElem q) (List.getElem?_eq_getElem (by rw[←hargs.1];exact q)))
   ·rw[Array.getElem?_append_right q,List.getElem?_eq_none (by rw[←hargs.1];exact q),Array.getElem?_replicate];split;·exact .cl (.tup #[] [] rfl λi v c _ hc=>by simp at hc)
    ·exact .cl (.tup #[] [] rfl λi v c _ hc=>by simp at hc)
 have key:∀(g:Gh) (st:St) (a:Act) (w':World),r7 X g st a w'→Fin P fn d st →
   LeavesInM Fence.wide 0 P fn a.tmps (λe w'=>∃v,e = .returned v∧Bel w.heap.size w w'∧Rd0 w' (Z1 imm w w') v d) a.defers .returning w':=by
  intro g st a w' hs hfin;obtain⟨rs,hnd,hdef,hmk⟩:=hs.marks;rw[hdef];have hbase:∃v,∀w'',Bel w.heap.size w' w''→(∀b o,w''.cell? ⟨b,o,none⟩=w'.cell? ⟨b,o,none⟩)→w''.heap.size=w'.heap.size→(∀(k:Nat) x,w'.heap[k]? = some x→O3 x=true→w''.heap[k]? = some x) →
    (results fn a.tmps).run P w'' = .ok v w''∧Rd0 w'' (Z1 imm w w'') v d:=by
   obtain⟨ds',hres,hok,hd⟩:=hfin;obtain⟨v,hrun,hrd⟩:=b1D hs hres;refine⟨v,λw'' hbl hc hz hmaps=>?_⟩;have hrun':(results fn a.tmps).run P w'' = .ok v w'':=by
    have same:∀(r:ResultVar) (u:Value),r∈fn.results.toList→(a3j a.tmps r).run P w' = .ok u w'→(∃d',b48 P st r d')→(a3j a.tmps r).run P w'' = .ok u w'':=by
     rintro r u _ hu ⟨d',hr'⟩;cases r with
     | tmp t=>cases hu;rfl
     | cell t T=>
      have hr2:u6 P st.σ (p6 st.env) none (.load T (.tmp t)) d' .none:=hr';have hvt:=hs.b2D t;have look:∀(b o:Nat),a.tmps.getD t undef = .pointer (some ⟨b,o,none⟩)→(loadVar T ⟨b,o,none⟩).run P w' = .ok u w' →
        ((∃n,B8 P T=some true∧l5 P T=some n∧∀j,j<n→∃q,w'.cell? ⟨b,o+j,none⟩=some q)∨(B8 P T=some false∧∃q,w'.cell? ⟨b,o,none⟩=some q)) →
        (a3j a.tmps (.cell t T)).run P w'' = .ok u w'':=by
       intro b o e hl hcase;have goal:(loadVar T ⟨b,o,none⟩).run P w'' = .ok u w'':=by
        rcases hcase with ⟨n,h1,h2,h3⟩ | ⟨h1,q,h3⟩
        ·have e1:=P9 (w:=w') h1 h2 (λj=>(w'.cell? ⟨b,o+j,none⟩).getD undef) (λj hj=>by obtain⟨q,hq⟩:=h3 j hj;rw[hq];rfl);have e2:=P9 (w:=w'') h1 h2 (λj=>(w'.cell? ⟨b,o+j,none⟩).getD undef) (λj hj=>by obtain⟨q,hq⟩:=h3 j hj;rw[hc,hq];rfl);rw[e1] at hl;cases hl;exact e2
        ·have e1:=Q0 (w:=w') h1 h3;have e2:=Q0 (w:=w'') h1 (by rw[hc];exact h3);rw[e1] at hl;cases hl;exact e2
       simp only[a3j,e];exact goal
      have hu2:∀(b o:Nat),a.tmps.getD t undef = .pointer (some ⟨b,o,none⟩)→(loadVar T ⟨b,o,none⟩).run P w' = .ok u w':=by
       intro b o e;simp only[a3j,e] at hu;exact hu
      cases hr2 with
      | pureV _ _ hnd hnl h=>exact absurd rfl (hnl _ _)
      | a2w _ _ l i f r y n hx' hl hy ha hsz hf=>
       have hx2:p6 st.env (.tmp t) = .ptr l i f:=hx';rw[hx2] at hvt;obtain⟨_,b,s,hA,e⟩:=hvt.J9;refine look _ _ e (hu2 _ _ e) (.inl ⟨n,ha,hsz,λj hj=>?_⟩);obtain⟨q,h1,_⟩:=hs.cell_of hl hy (List.getElem?_eq_getElem (show f+j<y.cells.length by omega)) hA;exact⟨q,by rw[Nat.add_assoc _ f j];exact h1⟩
      | a1r _ _ l i f r y _ hx' hl hy ha hf=>
       have hx2:p6 st.env (.tmp t) = .ptr l i f:=hx';rw[hx2] at hvt;obtain⟨_,b,s,hA,e⟩:=hvt.J9;obtain⟨q,h1,_⟩:=hs.cell_of hl hy hf hA;exact look _ _ e (hu2 _ _ e) (.inr ⟨ha,q,h1⟩)
      | Y8 _ _ cs n hx' ha hsz hf=>
       have hx2:p6 st.env (.tmp t) = .rptr cs:=hx';rw[hx2] at hvt;obtain⟨b,o,q,e,_,hq⟩:=hvt.P5;exact look _ _ e (hu2 _ _ e) (.inl ⟨n,ha,hsz,λj hj=>⟨_,(hq j _ (List.getElem?_eq_getElem (show j<cs.length by omega))).2.1⟩⟩)
      | Y9 _ _ cs _ hx' ha hf=>
       have hx2:p6 st.env (.tmp t) = .rptr cs:=hx';rw[hx2] at hvt;obtain⟨b,o,q,e,_,hq⟩:=hvt.P5;exact look _ _ e (hu2 _ _ e) (.inr ⟨ha,_,by simpa using (hq 0 _ hf).2.1⟩)
    have all:∀(rs:List ResultVar) (ds:List PV) (vs:List Value),(∀r∈rs,r∈fn.results.toList)→a7W P st rs ds→(rs.mapM (a3j a.tmps)).run P w' = .ok vs w'→(rs.mapM (a3j a.tmps)).run P w'' = .ok vs w'':=by
     intro rs;induction rs with
     | nil=>intro ds vs _ _ q;cases q;rfl
     | cons r rs ih=>
      intro ds vs hm hr q;cases ds with
      | nil=>exact hr.elim
      | cons d' ds=>
       obtain⟨u,h1,_⟩:=b1E (X:=X) hs hr.1;obtain⟨us,k1,_,_⟩:=a5j (X:=X) hs hr.2;have h1':(a3j a.tmps r).run P w' = .ok u w':=h1;have k1':(rs.mapM (a3j a.tmps)).run P w' = .ok us w':=k1;rw[List.mapM_cons,Sem.run_bind,h1',Result.andThen_ok,Sem.run_bind,k1',Result.andThen_ok] at q;rw[List.mapM_cons,Sem.run_bind,same r u (hm r (by simp)) h1' ⟨d',hr.1⟩,Result.andThen_ok,Sem.run_bind,ih ds us (λr hr=>hm r (by simp[hr])) hr.2 k1',Result.andThen_ok];cases q;rfl
    obtain⟨us,k1,k2,_⟩:=a5j (X:=X) hs hres;have k1':(fn.results.toList.mapM (a3j a.tmps)).run P w' = .ok us w':=k1;have k3:=all fn.results.toList ds' us (λ_ q=>q) hres k1';have hm:∀w0:World,(fn.results.toList.mapM (a3j a.tmps)).run P w0 = .ok us w0→(fn.results.mapM (a3j a.tmps)).run P w0 = .ok us.toArray w0:=by
     intro w0 q;rw[Array.mapM_eq_mapM_toList];simp only[←bind_pure_comp];rw[Sem.run_bind,q];rfl
    have r1:(results fn a.tmps).run P w' = .ok v w':=hrun;rw[a0y,Sem.run_bind,hm w' k1'] at r1;rw[a0y,Sem.run_bind,hm w'' k3];simp only[Result.andThen_ok] at r1 ⊢;cases r1;rfl
   refine⟨hrun',?_⟩;have hX2:Ext w' g.imm w' (Z1 imm w w'):=⟨λb o q=>by
    rcases hs.immsub b o q with q' | q'
    ·exact .inl q'
    ·exact .inr ⟨q',hs.immlt b o q⟩,λ_ _ _=>rfl,λ_ _ _ _ q _=>q⟩
   have hv2:=hs.view (imm2:=Z1 imm w w') hX2 hrd hok (λl _ r hl i x j y b s hx' hy hA=>by
    obtain⟨b',s',u,q1,q2,_,q4,_⟩:=(hs.rows l r hl).cell i x j y hx' hy;rw[hA] at q1;cases q1;by_cases hi:i<r.lo
    ·exact hX2.im _ _ (q4 hi)
    ·have:=hs.O4 hl ((hs.rows l r hl).b4d hx' hy hA hi);exact .inr this)
   have hfin2:Rd0 w' (Z1 imm w w') v d:=by
    rcases hd with rfl | rfl
    ·exact hv2
    ·exact hv2.w3
   refine hfin2.mono ⟨λb o q=>?_,λb o _=>hc b o,λb o x q hx' hcl=>?_⟩
   ·rcases q with q | ⟨q1,q2⟩
    ·exact .inl q
    ·exact .inr ⟨q1,by omega⟩
   ·exact hmaps b x hx' hcl
  obtain⟨v,hv⟩:=hbase;exact a3d rs w' hnd hmk λw'' h1 h2 h3 h4=>⟨(hv w'' h1 (λb o=>(h2 b o).1) h3 h4).1,v,rfl,hs.below.trans h1,(hv w'' h1 (λb o=>(h2 b o).1) h3 h4).2⟩
 have hcall:CallsIn Fence.wide 0 P f vs w λe w'=>∃v,e = .returned v∧Bel w.heap.size w w'∧Rd0 w' (Z1 imm w w') v d:=by
  refine callsIn_of_wp_marks hf hb trivial ?_;refine wpIn_mono (h X rfl rfl rfl rfl rfl rfl 0 _ a0 w hsim) λe a w' q=>?_;cases e <;> simp only[lift,fnQ] at q
  ·obtain⟨_,g,st,h1,_,hX,h2⟩:=q;rw[hX] at h1;exact key g st a w' h1 h2
  ·obtain⟨_,g,st,h1,_,h2⟩:=q;exact h2.elim
  ·obtain⟨_,g,st,h1,_,h2⟩:=q;exact h2.elim
  ·obtain⟨_,g,st,h1,_,hX,h2⟩:=q;rw[hX] at h1;exact key g st a w' h1 h2
 exact callsIn_wide.1 hcall
theorem b0W{P:Program}{f:FuncId}{fn:Func}{c:Code}{ds:List PV}{r:Row}(hf:P.funcs[f]? = some fn)(hb:fn.body=some c)(hn:ds.length≤fn.ntmps)(h6:fn.ntmps≤1000000)
  (h:∀X:Ctx,X.P=P→X.N=fn.ntmps→X.ρ=none→X.ext=(λ_=>undef)→X.obs = []→X.calm=false→J1 X c (fnQ X (b2e P fn r)) ⟨D3 ds,λ_=>none⟩):a1E P f ds r:=by
 intro w imm vs hlt hG hargs;let X:Ctx:={ P:=P,N:=fn.ntmps,ρ:=none,w0:=w,imm0:=imm,ext:=λ_=>undef,tab:=hG }
 let a0:Act:={ tmps:=vs++Array.replicate (fn.ntmps-vs.size) undef,defers:=[] }
 have hsim:r7 X ⟨imm,λ_=>⟨none,0,0,0⟩⟩ ⟨D3 ds,λ_=>none⟩ a0 w:=by
  refine⟨?_,λi=>?_,(λl r q=>by cases q),(λl l' r r' _ q=>by cases q),(λl r b o q=>by cases q),hlt,λb o q=>.inl q,λb o q=>q,Bel.refl _ _,⟨[],List.nodup_nil,rfl,λr hr=>by cases hr⟩,λp hp=>(by cases hp),⟨h6,λ_=>rfl⟩,⟨λl r _ q=>(by cases q),λl l' r r' _ _ _ q=>(by cases q)⟩⟩
  ·have:=hargs.1;simp only[a0,X,Array.size_append,Array.size_replicate];omega
  ·by_cases q6:i<1000000
   rotate_left
   ·simp only[a0,D3,Ctx.val,if_neg q6,X];rw[List.getD_eq_getElem?_getD,List.getElem?_eq_none (by omega)];exact .cl (.tup #[] [] rfl λi v c _ hc=>by simp at hc)
   simp only[a0,D3,Ctx.val,if_pos q6];rw[Array.getD_eq_getD_getElem?,List.getD_eq_getElem?_getD];rcases Nat.lt_or_ge i vs.size with q | q
   ·rw[Array.getElem?_append_left q,Array.getElem?_eq_getElem q,List.getElem?_eq_getElem (by rw[←hargs.1];exact q)];exact .cl (hargs.2 i _ _ (Array.getElem?_eq_getElem q) (List.getElem?_eq_getElem (by rw[←hargs.1];exact q)))
   ·rw[Array.getElem?_append_right q,List.getElem?_eq_none (by rw[←hargs.1];exact q),Array.getElem?_replicate];split;·exact .cl (.tup #[] [] rfl λi v c _ hc=>by simp at hc)
    ·exact .cl (.tup #[] [] rfl λi v c _ hc=>by simp at hc)
 have key:∀(g:Gh) (st:St) (a:Act) (w':World),r7 X g st a w'→b2e P fn r st →
   LeavesInM Fence.wide 0 P fn a.tmps (λe w'=>∃m:A6,e = .returned (.slice m.A m.n m.C)∧Bel w.heap.size w w' ∧
    a2K w.heap.size w' (λb o=>Z1 imm w w' b o∧¬A2 m r b o) (λ_=>m) (λ_=>False) m r∧∀b o,A2 m r b o→w.heap.size≤b) a.defers .returning w':=by
  intro g st a w' hs hfin;obtain⟨rs,hnd,hdef,hmk⟩:=hs.marks;rw[hdef];obtain⟨t,l,hres,ht,hl,hcl⟩:=hfin;have hv:=hs.b2D t;rw[ht] at hv;obtain⟨_,hv⟩:=hv.O6;have hR:=hs.rows l r hl;have hrun:∀w0:World,(results fn a.tmps).run P w0 = .ok (.slice (g.μ l).A (g.μ l).n (g.μ l).C) w0:=by
   intro w0;rw[←hv];simp only[results,hres,List.mapM_toArray,Sem.run_bind];rfl
  refine a3d rs w' hnd hmk λw'' h1 h2 h3 h4=>⟨hrun w'',g.μ l,rfl,hs.below.trans h1,?_,λb o ho=>(hR.own b o ho).1⟩;have hX:Ext w' g.imm w'' (λb o=>Z1 imm w w'' b o∧¬A2 (g.μ l) r b o):=by
   refine⟨λb o q=>⟨?_,λk=>hs.ownimm l r b o hl k q⟩,λb o _=>(h2 b o).1,λb o x q hx hcl=>h4 b x hx hcl⟩;rcases hs.immsub b o q with q' | q'
   ·exact .inl q'
   ·exact .inr ⟨q',by have:=hs.immlt b o q;omega⟩
  refine⟨hR.n,hR.z,hR.C,hR.lo,hR.el,hR.nil,hR.spot,λi x j y hx hy=>?_,λb o ho=>?_⟩
  ·obtain⟨b,s,u,k1,k2,_,k4,k5⟩:=hR.cell i x j y hx hy;exact⟨b,s,u,k1,by rw[(h2 _ _).1];exact k2,.cl ((k5 hcl).mono hX),λq=>hX.im _ _ (k4 q),λ_=>(k5 hcl).mono hX⟩
  ·obtain⟨k1,k2,k3⟩:=hR.own b o ho;exact⟨k1,by rw[(h2 _ _).1];exact k2,by rw[(h2 _ _).2];exact k3⟩
 have hcall:CallsIn Fence.wide 0 P f vs w λe w'=>∃m:A6,e = .returned (.slice m.A m.n m.C)∧Bel w.heap.size w w' ∧
    a2K w.heap.size w' (λb o=>Z1 imm w w' b o∧¬A2 m r b o) (λ_=>m) (λ_=>False) m r∧∀b o,A2 m r b o→w.heap.size≤b:=by
  refine callsIn_of_wp_marks hf hb trivial ?_;refine wpIn_mono (h X rfl rfl rfl rfl rfl rfl 0 _ a0 w hsim) λe a w' q=>?_;cases e <;> simp only[lift,fnQ] at q
  ·obtain⟨_,g,st,h1,_,hX,h2⟩:=q;rw[hX] at h1;exact key g st a w' h1 h2
  ·obtain⟨_,g,st,h1,_,h2⟩:=q;exact h2.elim
  ·obtain⟨_,g,st,h1,_,h2⟩:=q;exact h2.elim
  ·obtain⟨_,g,st,h1,_,hX,h2⟩:=q;rw[hX] at h1;exact key g st a w' h1 h2
 exact callsIn_wide.1 hcall
end
end Go.Pw
namespace Go.Pw
open Go.RowKit
def Wk(s s':St):Prop:=∀(X:Ctx) (g:Gh) (a:Act) (w:World),r7 X g s a w→∃g',r7 X g' s' a w
theorem Wk.refl(s:St):Wk s s:=λX g a w h=>⟨g,h⟩
theorem Wk.trans{s s' s'':St}(h:Wk s s')(k:Wk s' s''):Wk s s'':=λX g a w q=>by
 obtain⟨g',q'⟩:=h X g a w q;exact k X g' a w q'
theorem R6{X:Ctx}{c:Code}{Q:PX→Ctx→St→Prop}{st st':St}(h:Wk st st')(hc:J1 X c Q st'):J1 X c Q st:=λn g a w hs=>by
 obtain⟨g',hs'⟩:=h X g a w hs;exact hc n g' a w hs'
theorem l6(s:St)(ls:List Nat):Wk s ⟨s.env,F6 s.σ ls⟩:=λX g a w h=>by
 obtain⟨imm',h1,_⟩:=h.F6 ls;exact⟨_,h1⟩
theorem J0{s:St}{t l z:Nat}(ht:s.env t = .lst true [])(hl:s.σ l=none)(hlm:l<MB:=by exact Nat.le_of_ble_eq_true rfl):Wk s ⟨o0 s.env t (.sl l),o0 s.σ l (some ⟨[],0,true,z,true⟩)⟩:=λX g a w h=>by
 have hv:=h.env t;rw[ht] at hv;obtain⟨A,c,z',u,e,h1,h2,h3,_⟩:=hv.W8;have hc:=h2 rfl;simp only[List.length_nil] at hc e;subst hc;have hs:=h.a6M (l:=l) (A:=A) (xs:=[]) (z:=z) hlm hl (λ_=>rfl) (λ_ q=>by cases q) (λq=>absurd q (Nat.lt_irrefl _)) true;refine⟨_,⟨hs.size,λi=>?_,hs.rows,hs.disj,hs.ownimm,hs.immlt,hs.immsub,hs.immsup,hs.below,hs.marks,hs.obs,hs.big,hs.maps⟩⟩;by_cases q:i=t
 ·subst q;rw[show (St.mk (o0 s.env i (.sl l)) (o0 s.σ l (some ⟨[],0,true,z,true⟩))).env i = .sl l from j4 _ _ _,e];exact U8 (m:=⟨A,0,0,z⟩) ⟨_,j4 _ _ _⟩ (j4 _ _ _)
 ·rw[show (St.mk (o0 s.env t (.sl l)) (o0 s.σ l (some ⟨[],0,true,z,true⟩))).env i=s.env i from e6 _ _ q];exact hs.env i
def PV.a9s(π:Nat→Nat):PV→PV
 | .sl l=>.sl (π l)
 | .mp l=>.mp (π l)
 | .ptr l i f=>.ptr (π l) i f
 | d=>d
def PV.a5i(π:Nat→Nat):PV→PV
 | .fn f cap=>.fn f (cap.map (PV.a9s π))
 | d=>d.a9s π
def PV.ren(π:Nat→Nat):PV→PV
 | .agg cs=>.agg (cs.map (PV.a5i π))
 | d=>d.a5i π
def PV.a6k:PV→List Nat
 | .sl l=>[l]
 | .mp l=>[l]
 | .ptr l _ _=>[l]
 | _=>[]
def PV.a8I:PV→List Nat
 | .fn _ cap=>cap.flatMap PV.a6k
 | d=>d.a6k
def PV.refs:PV→List Nat
 | .agg cs=>cs.flatMap PV.a8I
 | d=>d.a8I
section
variable{w:World}{imm:Nat→Nat→Prop}{μ μ':Nat→A6}{j2 pres':Nat→Prop}{π:Nat→Nat}
theorem Rd.b1S{v:Value}{d:PV}(h:Rd w imm μ j2 v d)(h1:∀l,d ≠ .sl l)(h2:∀l i f,d ≠ .ptr l i f)(h3:∀cs,d ≠ .agg cs)(h4:∀f cap,d ≠ .fn f cap)(h5:∀cs,d ≠ .tup cs)(h6:∀l,d ≠ .mp l):Rd w imm μ' pres' v d:=by
 cases h with
 | cl h=>exact .cl h
 | agg vs cs=>exact absurd rfl (h3 cs)
 | tup vs cs=>exact absurd rfl (h5 cs)
 | fn f vs cap=>exact absurd rfl (h4 f cap)
 | sl l=>exact absurd rfl (h1 l)
 | mp l=>exact absurd rfl (h6 l)
 | ptr l i f=>exact absurd rfl (h2 l i f)
theorem Rd.a9s{v:Value}{d:PV}(ht:∀cs,d ≠ .tup cs)(ha:∀cs,d ≠ .agg cs)(hf:∀f cap,d ≠ .fn f cap)(h:Rd w imm μ j2 v (d.a9s π))(hr:∀l∈d.a6k,pres' l∧μ' l=μ (π l)∧(MB≤π l→MB≤l)):Rd w imm μ' pres' v d:=by
 by_cases e1:∃l,d = .sl l
 ·obtain⟨l,rfl⟩:=e1;have h':Rd w imm μ j2 v (.sl (π l)):=h;obtain⟨_,rfl⟩:=h'.O6;obtain⟨k1,k2,_⟩:=hr l (by simp[PV.a6k]);rw[←k2];exact .sl l k1
 by_cases e2:∃l i f,d = .ptr l i f
 ·obtain⟨l,i,f,rfl⟩:=e2;have h':Rd w imm μ j2 v (.ptr (π l) i f):=h;obtain⟨_,b,s,hA,rfl⟩:=h'.J9;obtain⟨k1,k2,_⟩:=hr l (by simp[PV.a6k]);rw[←k2] at hA ⊢;exact .ptr l i f b s k1 hA
 by_cases e3:∃l,d = .mp l
 ·obtain⟨l,rfl⟩:=e3;have h':Rd w imm μ j2 v (.mp (π l)):=h;obtain⟨_,h2,b,hA,rfl⟩:=h'.a7u;obtain⟨k1,k2,k3⟩:=hr l (by simp[PV.a6k]);exact .mp l b k1 (k3 h2) (by rw[k2];exact hA)
 ·have e:d.a9s π=d:=by cases d <;> first | rfl | exact absurd ⟨_,rfl⟩ e1 | exact absurd ⟨_,_,_,rfl⟩ e2 | exact absurd ⟨_,rfl⟩ e3
  rw[e] at h;exact h.b1S (λl q=>e1 ⟨l,q⟩) (λl i f q=>e2 ⟨l,i,f,q⟩) ha hf ht λl q=>e3 ⟨l,q⟩
theorem Rd.a5i{v:Value}{d:PV}(ht:∀cs,d ≠ .tup cs)(ha:∀cs,d ≠ .agg cs)(hc:∀f cap,d = .fn f cap→∀y∈cap,(∀cs,y ≠ .tup cs)∧(∀cs,y ≠ .agg cs)∧∀f cap,y ≠ .fn f cap)
  (h:Rd w imm μ j2 v (d.a5i π))(hr:∀l∈d.a8I,pres' l∧μ' l=μ (π l)∧(MB≤π l→MB≤l)):Rd w imm μ' pres' v d:=by
 by_cases e1:∃f cap,d = .fn f cap
 ·obtain⟨f,cap,rfl⟩:=e1;have h':Rd w imm μ j2 v (.fn f (cap.map (PV.a9s π))):=h;obtain⟨vs,rfl,hn,hk⟩:=a0r h';refine .fn f vs cap (by simpa using hn) λi v c hv hc'=>?_;have hm:=List.mem_of_getElem? hc';obtain⟨q1,q2,q3⟩:=hc f cap rfl c hm;exact (hk i v _ hv (by rw[List.getElem?_map,hc'];rfl)).a9s q1 q2 q3 λl hl=>hr l (List.mem_flatMap.2 ⟨c,hm,hl⟩)
 ·have e:d.a5i π=d.a9s π:=by cases d <;> first | rfl | exact absurd ⟨_,_,rfl⟩ e1
  have e':d.a8I=d.a6k:=by cases d <;> first | rfl | exact absurd ⟨_,_,rfl⟩ e1
  rw[e] at h;rw[e'] at hr;exact h.a9s ht ha (λf cap q=>e1 ⟨f,cap,q⟩) hr
def b1q:PV→Bool
 | .fn _ cap=>cap.all λy=>match y with | .tup _ | .agg _ | .fn .. => false | _=>true
 | _=>true
def a3i:PV→Bool
 | .tup _=>false
 | .agg cs=>cs.all b1q
 | d=>b1q d
theorem a4j{d:PV}(h:b1q d=true):∀f cap,d = .fn f cap→∀y∈cap,(∀cs,y ≠ .tup cs)∧(∀cs,y ≠ .agg cs)∧∀f cap,y ≠ .fn f cap:=by
 rintro f cap rfl y hy;have:=List.all_eq_true.1 h y hy;refine⟨λcs e=>?_,λcs e=>?_,λf cap e=>?_⟩ <;> (subst e;cases this)
theorem Rd.ren{v:Value}{d:PV}(hok:a3i d=true)(h:Rd w imm μ j2 v (d.ren π))(hr:∀l∈d.refs,pres' l∧μ' l=μ (π l)∧(MB≤π l→MB≤l)):Rd w imm μ' pres' v d:=by
 by_cases e1:∃cs,d = .agg cs
 ·obtain⟨cs,rfl⟩:=e1;have h':Rd w imm μ j2 v (.agg (cs.map (PV.a5i π))):=h;obtain⟨vs,rfl,hn,hk⟩:=h'.T4;have hsc:=h'.a83;simp only[a3i,List.all_eq_true] at hok;rw[List.all_eq_true] at hsc;have hsc':∀c∈cs,c.sc=true:=λc hc=>by
   have:=hsc (c.a5i π) (List.mem_map.2 ⟨c,hc,rfl⟩);cases c <;> first | rfl | exact this
  refine .agg vs cs (List.all_eq_true.2 hsc') (by simpa using hn) λi v c hv hc=>?_;have hm:=List.mem_of_getElem? hc;refine (hk i v _ hv (by rw[List.getElem?_map,hc];rfl)).a5i (λes q=>?_) (λes q=>?_) (a4j (hok c hm)) λl hl=>hr l (List.mem_flatMap.2 ⟨c,hm,hl⟩);·have:=hsc' c hm;rw[q] at this;cases this
  ·have:=hsc' c hm;rw[q] at this;cases this
 ·have e:d.ren π=d.a5i π:=by cases d <;> first | rfl | exact absurd ⟨_,rfl⟩ e1
  have e':d.refs=d.a8I:=by cases d <;> first | rfl | exact absurd ⟨_,rfl⟩ e1
  have e2:∀cs,d ≠ .tup cs:=λcs q=>by subst q;cases hok
  have e3:b1q d=true:=by cases d <;> first | exact hok | exact absurd ⟨_,rfl⟩ e1 | cases hok
  rw[e] at h;rw[e'] at hr;exact h.a5i e2 (λcs q=>e1 ⟨cs,q⟩) (a4j e3) hr
end
def b2E(L:List (Nat × PV)):Nat→PV:=λi=>(L.lookup i).getD .junk
def rowsOf(R:List (Nat × Row)):Nat→Option Row:=λi=>R.lookup i
def St.of(L:List (Nat × PV))(R:List (Nat × Row)):St:=⟨b2E L,rowsOf R⟩
theorem Q7{α:Type}{L:List (Nat × α)}{i:Nat}{x:α}(h:L.lookup i=some x):(i,x)∈L:=by
 induction L with
 | nil=>cases h
 | cons p L ih=>
  obtain⟨k,y⟩:=p;rw[List.lookup_cons] at h;split at h
  ·rename_i q;have:i=k:=by simpa using q
   subst this;cases h;exact List.mem_cons_self ..
  ·exact List.mem_cons_of_mem _ (ih h)
def okM(l m:Nat)(c c':Bool):Bool:=(decide (MB≤l)==decide (MB≤m))&&(decide (l<MB)||c==c')
def a0H(π:Nat→Nat)(R:List (Nat × Row))(σ:Nat→Option Row)(p:Nat × Row):Prop:=
 ∃r,σ (π p.1)=some r∧okM p.1 (π p.1) r.cl p.2.cl=true∧r.z=p.2.z∧r.lo=p.2.lo∧(p.2.opn=true→r.opn=true)∧(p.2.cl=true→r.cl=true) ∧
  ((p.2.cl=true∧r.els=p.2.els)∨(p.2.cl=false∧r.els=p.2.els.map (PV.ren π)∧p.2.els.all a3i=true∧(p.2.els.flatMap PV.refs).all (λl=>(R.lookup l).isSome)=true))
theorem b1H{s:St}(π:Nat→Nat)(L:List (Nat × PV))(R:List (Nat × Row))(he:∀p∈L,s.env p.1=p.2.ren π∧a3i p.2=true∧p.2.refs.all (λl=>(R.lookup l).isSome)=true)
  (hr:∀p∈R,a0H π R s.σ p)(hi:∀p∈R,∀q∈R,π p.1=π q.1→p.1=q.1):∀(X:Ctx) (g:Gh) (a:Act) (w:World),r7 X g s a w→r7 X ⟨g.imm,λl=>g.μ (π l)⟩ (St.of L R) a w:=by
 intro X g a w h;have hget:∀l r',rowsOf R l=some r'→a0H π R s.σ (l,r'):=λl r' q=>hr _ (Q7 q);have hmap:∀l r',rowsOf R l=some r'→(MB≤l↔MB≤π l)∧(MB≤l→∃r,s.σ (π l)=some r∧r.cl=r'.cl∧(∀es,r.els = [.mapc es]→r'.els = [.mapc es])):=λl r' q=>by
  obtain⟨r,h1,h2,_,_,_,_,h6⟩:=hget l r' q;simp only[okM,Bool.and_eq_true,beq_iff_eq,Bool.or_eq_true,decide_eq_true_eq,decide_eq_decide] at h2;refine⟨h2.1,λh=>⟨r,h1,h2.2.elim (λk=>absurd h (Nat.not_le.2 k)) id,λes he=>?_⟩⟩;rcases h6 with ⟨_,h6⟩ | ⟨_,h6,_⟩;·exact h6▸he
  ·simp only at h6;rw[he] at h6;match hq:r'.els with
   | []=>rw[hq] at h6;simp at h6
   | _::_::_=>rw[hq] at h6;simp at h6
   | [x]=>
    rw[hq] at h6;simp only[List.map_cons,List.map_nil,List.cons.injEq,and_true] at h6;cases x <;> first | (cases h6;rfl) | cases h6
 have hx:∀(l:Nat),(R.lookup l).isSome=true→St.j2 (St.of L R) l∧g.μ (π l)=g.μ (π l)∧(MB≤π l→MB≤l):=λl q=>by
  obtain⟨r,hr⟩:=Option.isSome_iff_exists.1 q;exact⟨⟨r,hr⟩,rfl,(hmap l r hr).1.2⟩
 have hsub:∀l r' r,r.els.length=r'.els.length→r.z=r'.z→r.lo=r'.lo→(r'.opn=true→r.opn=true)→∀b o,A2 (g.μ (π l)) r' b o→s.σ (π l)=some r→A2 (g.μ (π l)) r b o:=by
  rintro l r' r h1 h2 h3 h4 b o ⟨s',hA,k1,k2⟩ hl;refine⟨s',hA,by rw[h3];exact k1,?_⟩;have hC:=(h.rows _ r hl).C;have:(if r'.opn then (g.μ (π l)).C else (g.μ (π l)).n)*(g.μ (π l)).z≤(if r.opn then (g.μ (π l)).C else (g.μ (π l)).n)*(g.μ (π l)).z:=Nat.mul_le_mul_right _ (by
   cases q:r'.opn;·simp only[Bool.false_eq_true,if_false];split <;> omega
   ·rw[h4 q];exact Nat.le_refl _)
  omega
 have hlen:∀l r',rowsOf R l=some r'→∃r,s.σ (π l)=some r∧r.els.length=r'.els.length∧r.z=r'.z∧r.lo=r'.lo∧(r'.opn=true→r.opn=true):=by
  intro l r' q;obtain⟨r,h1,_,h2,h3,h4,_,h6⟩:=hget l r' q;refine⟨r,h1,?_,h2,h3,h4⟩;rcases h6 with ⟨_,h6⟩ | ⟨_,h6,_⟩;·rw[h6]
  ·rw[h6];simp
 refine⟨h.size,λi=>?_,λl r' q=>?_,λl l' r r' hne q q' b o ho=>?_,λl r' b o q ho=>?_,h.immlt,h.immsub,h.immsup,h.below,h.marks,h.obs,h.big,⟨λl r' hl q=>?_,λl l' r r' hl hl' hne q q' hc=>?_⟩⟩
 ·show Rd w g.imm (λl=>g.μ (π l)) (St.j2 (St.of L R)) _ ((L.lookup i).getD .junk);cases hq:L.lookup i with
  | none=>exact .cl (.junk _)
  | some d=>
   obtain⟨k1,k2,k3⟩:=he (i,d) (Q7 hq);have hv:=h.env i;rw[k1] at hv;exact hv.ren k2 λl hl=>hx l (List.all_eq_true.1 k3 l hl)
 ·obtain⟨r,h1,_,h2,h3,h4,h5,h6⟩:=hget l r' q;simp only at h1 h2 h3 h4 h5 h6;have hR:=h.rows _ r h1;obtain⟨_,_,hl,_⟩:=hlen l r' q;have hl2:r.els.length=r'.els.length:=by
   rcases h6 with ⟨_,h6⟩ | ⟨_,h6,_⟩;·rw[h6]
   ·rw[h6];simp
  have hcellz:∀(d:PV),(d.ren π).cells.length=d.cells.length:=λd=>by
   cases d <;> first | rfl | simp[PV.ren,PV.cells]
  have helz:∀(d:PV),(d.ren π).el=true→d.el=true:=λd=>by
   cases d <;> first | exact λq=>q | skip
   intro q;simp only[PV.ren,PV.el,List.all_eq_true] at q ⊢;intro c hc;have:=q (c.a5i π) (List.mem_map.2 ⟨c,hc,rfl⟩);cases c <;> first | rfl | exact this
  refine⟨by rw[←hl2];exact hR.n,by rw[←h2];exact hR.z,hR.C,by rw[←h3];exact hR.lo,λx hx'=>?_,hR.nil,hR.spot,λi x j y hx' hy=>?_,λb o ho=>hR.own b o (hsub l r' r hl2 h2 h3 h4 b o ho h1)⟩
  ·rcases h6 with ⟨_,h6⟩ | ⟨_,h6,_⟩;·rw[←h2];exact hR.el x (by rw[h6];exact hx')
   ·have:=hR.el (x.ren π) (by rw[h6];exact List.mem_map.2 ⟨x,hx',rfl⟩);exact⟨helz x this.1,by rw[←hcellz,←h2];exact this.2⟩
  ·rcases h6 with ⟨hc,h6⟩ | ⟨hnc,h6,h7,h8⟩
   ·obtain⟨b,s',u,k1,k2,k3,k4,k5⟩:=hR.cell i x j y (by rw[h6];exact hx') hy;exact⟨b,s',u,k1,k2,.cl (k5 (h5 hc)),by rw[←h3];exact k4,λ_=>k5 (h5 hc)⟩
   ·have hm:=List.mem_of_getElem? hx';have hxr:r.els[i]? = some (x.ren π):=by rw[h6,List.getElem?_map,hx'];rfl
    have hok:=List.all_eq_true.1 h7 x hm;have hrefs:∀l'∈x.refs,(R.lookup l').isSome=true:=λl' hl'=>List.all_eq_true.1 h8 l' (List.mem_flatMap.2 ⟨x,hm,hl'⟩);have hyr:∃y',(x.ren π).cells[j]? = some y'∧∀v,Rd w g.imm g.μ s.j2 v y'→Rd w g.imm (λl=>g.μ (π l)) (St.j2 (St.of L R)) v y:=by
     by_cases e:∃cs,x = .agg cs
     ·obtain⟨cs,rfl⟩:=e;have hy':cs[j]? = some y:=hy;refine⟨y.a5i π,by show (cs.map (PV.a5i π))[j]? = _;rw[List.getElem?_map,hy'];rfl,λv hv=>?_⟩;have hmy:=List.mem_of_getElem? hy';simp only[a3i,List.all_eq_true] at hok;have hel:=helz _ (hR.el _ (List.mem_of_getElem? hxr)).1;have hsc:=PV.a4W hel y (by exact hmy);exact hv.a5i (λes q=>by rw[q] at hsc;cases hsc) (λes q=>by rw[q] at hsc;cases hsc) (a4j (hok y hmy)) λl' hl'=>hx l' (hrefs l' (List.mem_flatMap.2 ⟨y,hmy,hl'⟩))
     ·have hxc:x.cells = [x]:=by cases x <;> first | rfl | exact absurd ⟨_,rfl⟩ e | cases hy
      rw[hxc] at hy;have hj:j=0∧y=x:=by
       cases j with
       | zero=>simp at hy;exact⟨rfl,hy.symm⟩
       | succ j=>simp at hy
      obtain⟨rfl,rfl⟩:=hj;have hrc:(y.ren π).cells = [y.ren π]:=by cases y <;> first | rfl | exact absurd ⟨_,rfl⟩ e | cases hxc
      exact⟨y.ren π,by rw[hrc];rfl,λv hv=>hv.ren hok λl' hl'=>hx l' (hrefs l' hl')⟩
    obtain⟨y',hy',hrd⟩:=hyr;obtain⟨b,s',u,k1,k2,k3,k4,k5⟩:=hR.cell i (x.ren π) j y' hxr hy';exact⟨b,s',u,k1,k2,hrd u k3,by rw[←h3];exact k4,λq'=>by rw[hnc] at q';cases q'⟩
 ·obtain⟨r0,k0,k1,k2,k3,k4⟩:=hlen l r q;obtain⟨r1,m0,m1,m2,m3,m4⟩:=hlen l' r' q';exact λk=>h.disj (π l) (π l') r0 r1 (λe=>hne (hi (l,r) (Q7 q) (l',r') (Q7 q') e)) k0 m0 b o (hsub l r r0 k1 k2 k3 k4 b o ho k0) (hsub l' r' r1 m1 m2 m3 m4 b o k m0)
 ·obtain⟨r0,k0,k1,k2,k3,k4⟩:=hlen l r' q;exact h.ownimm (π l) r0 b o k0 (hsub l r' r0 k1 k2 k3 k4 b o ho k0)
 ·obtain⟨k1,k2⟩:=hmap l r' q;obtain⟨r,k3,k4,k5⟩:=k2 hl;obtain⟨b,es,m1,m2,m3,m4,m5,m6⟩:=h.maps.at_ (π l) r (k1.1 hl) k3;exact⟨b,es,k5 es m1,m2,m3,m4,λc=>m5 (by rw[k4];exact c),λc=>m6 (by rw[k4];exact c)⟩
 ·obtain⟨k1,k2⟩:=hmap l r q;obtain⟨k1',k2'⟩:=hmap l' r' q';obtain⟨r0,k3,k4,_⟩:=k2 hl;obtain⟨r1,k3',k4',_⟩:=k2' hl';exact h.maps.apart (π l) (π l') r0 r1 (k1.1 hl) (k1'.1 hl') (λe=>hne (hi (l,r) (Q7 q) (l',r') (Q7 q') e)) k3 k3' (by rw[k4];exact hc)
theorem b57{s:St}(π:Nat→Nat)(L:List (Nat × PV))(R:List (Nat × Row))(he:∀p∈L,s.env p.1=p.2.ren π∧a3i p.2=true∧p.2.refs.all (λl=>(R.lookup l).isSome)=true)
  (hr:∀p∈R,a0H π R s.σ p)(hi:∀p∈R,∀q∈R,π p.1=π q.1→p.1=q.1):Wk s (St.of L R):=λX g a w h=>⟨_,b1H π L R he hr hi X g a w h⟩
end Go.Pw
namespace Go.Pw
open Go.RowKit
def Ex(P:Program)(ops:Array Oper)(bar:List Nat)(dr:Bool):Nat→List Oper→St→(St→Prop)→Prop
 | _,[],st,K=>K st
 | i,o::os,st,K=>∃s,Stp P ops dr (kept bar) (cls bar i o.op) o st s∧Ex P ops bar dr (i+1) os s K
theorem a7F{P:Program}{bar:List Nat}{dr:Bool}{K:St→Prop}{ops:Array Oper}:∀(os:List Oper) (i:Nat) (st:St),(∀j,os[j]? = ops[i+j]?)→Ex P ops bar dr i os st K→∃s,a9K P ops bar dr (List.range' i os.length) st s∧K s
 | [],_,st,_,h=>⟨st,rfl,h⟩
 | o::os,i,st,hi,h=>by
  obtain⟨s,h1,h2⟩:=h;obtain⟨s',k1,k2⟩:=a7F os (i+1) s (λj=>by have:=hi (j+1);simpa[Nat.add_assoc,Nat.add_comm 1 j] using this) h2;exact⟨s',⟨o,s,by have:=hi 0;simpa using this.symm,h1,k1⟩,k2⟩
section
variable{X:Ctx}{Q:PX→Ctx→St→Prop}{st:St}
theorem a7x{id:Nat}{l:List Oper}(bar:List Nat)(hm:X.P.follows .mixedOrders=true)(hd:X5 X.N l.toArray=true)(hr:a4d l.toArray bar (Region.before l.toArray)=true)
  (h:Ex X.P l.toArray bar true 0 l st (Q .normal X)):J1 X (.region id l.toArray true) Q st:=by
 refine b4t bar hm hd hr ?_;have:=a7F (ops:=l.toArray) l 0 st (λj=>by simp) h;simpa[List.range_eq_range'] using this
variable{P:Program}{ops:Array Oper}{bar:List Nat}{dr:Bool}{i:Nat}{os:List Oper}{K:St→Prop}{env:Nat→PV}{σ:Nat→Option Row}
theorem b3h{t:Tmp}{op:Op}{ty:TypeId}{pos:String}{after:Array Edge}{gd:Option (Nat × Bool)}(hw:s9 ops env ⟨some t,op,ty,pos,after,gd⟩=some false)
  (k:Ex P ops bar dr (i+1) os ⟨o0 env t (.tup []),σ⟩ K):Ex P ops bar dr i (⟨some t,op,ty,pos,after,gd⟩::os) ⟨env,σ⟩ K:=⟨_,.skip hw,k⟩
theorem x0{t:Tmp}{op:Op}{ty:TypeId}{pos:String}{after:Array Edge}{gd:Option (Nat × Bool)}{d:PV}(hw:s9 ops env ⟨some t,op,ty,pos,after,gd⟩=some true)
  (h:u6 P σ (p6 env) (some t) op d .none)(hc:dr=true→V6 (cls bar i op) .none (∀σ',w9 (kept bar) σ σ'→u6 P σ' (p6 env) (some t) op d .none))(k:Ex P ops bar dr (i+1) os ⟨o0 env t d,σ⟩ K) :
  Ex P ops bar dr i (⟨some t,op,ty,pos,after,gd⟩::os) ⟨env,σ⟩ K:=⟨_,.run d .none hw h ⟨y6.refl _,w9.refl _⟩ trivial (λ_=>rfl) hc,k⟩
theorem x7{t:Tmp}{op:Op}{ty:TypeId}{pos:String}{after:Array Edge}{gd:Option (Nat × Bool)}{d:PV}(hw:s9 ops env ⟨some t,op,ty,pos,after,gd⟩=some true)
  (h:∀σ',w9 (kept bar) σ σ'→u6 P σ' (p6 env) (some t) op d .none)(h7:cls bar i op=7)(k:Ex P ops bar dr (i+1) os ⟨o0 env t d,σ⟩ K) :
  Ex P ops bar dr i (⟨some t,op,ty,pos,after,gd⟩::os) ⟨env,σ⟩ K:=⟨_,.run d .none hw (h σ (w9.refl _)) ⟨y6.refl _,w9.refl _⟩ trivial (λ_=>rfl) (λ_=>by rw[h7];exact⟨rfl,h⟩),k⟩
theorem x1{t:Tmp}{op:Op}{ty:TypeId}{pos:String}{after:Array Edge}{gd:Option (Nat × Bool)}{d:PV}{r:Row}(hw:s9 ops env ⟨some t,op,ty,pos,after,gd⟩=some true)
  (h:u6 P σ (p6 env) (some t) op d (.new t r))(hf:σ t=none)(ht:dr=true→(G8.new t r).off (kept bar)=true)(hc:dr=true→V6 (cls bar i op) (.new t r) (∀σ',w9 (kept bar) σ σ'→u6 P σ' (p6 env) (some t) op d (.new t r)))(k:Ex P ops bar dr (i+1) os ⟨o0 env t d,o0 σ t (some r)⟩ K) :
  Ex P ops bar dr i (⟨some t,op,ty,pos,after,gd⟩::os) ⟨env,σ⟩ K:=⟨_,.run d (.new t r) hw h ⟨y6.refl _,w9.refl _⟩ hf ht hc,k⟩
theorem b44{op:Op}{ty:TypeId}{pos:String}{after:Array Edge}{gd:Option (Nat × Bool)}{l j f:Nat}{cs es:List PV}{q:Row}{x x':PV}{cl:Bool}(hw:s9 ops env ⟨none,op,ty,pos,after,gd⟩=some true)
  (h:u6 P σ (p6 env) none op (.tup []) (.sto l j f cs))(hl:σ l=some q)(hx:q.els[j]? = some x)(hlo:q.lo≤j)(hf:f+cs.length≤x.cells.length)(hsc:cs.all PV.sc=true)(hcl:(q.cl&&cs.all PV.K1)=cl)
  (he:R7 x f cs=x')(hes:q.els.set j x'=es)(ht:dr=true→(G8.sto l j f cs).off (kept bar)=true)(hc:dr=true→V6 (cls bar i op) (.sto l j f cs) (∀σ',w9 (kept bar) σ σ'→u6 P σ' (p6 env) none op (.tup []) (.sto l j f cs)))(k:Ex P ops bar dr (i+1) os ⟨env,o0 σ l (some ⟨es,q.lo,q.opn,q.z,cl⟩)⟩ K) :
  Ex P ops bar dr i (⟨none,op,ty,pos,after,gd⟩::os) ⟨env,σ⟩ K:=by
 refine⟨_,.run (.tup []) (.sto l j f cs) hw h ⟨y6.refl _,w9.refl _⟩ ⟨q,x,hl,hx,hlo,hf,hsc⟩ ht hc,?_⟩;subst he;subst hes;subst hcl;simp only[G8.apply,hl,hx];exact k
theorem b6G{t:Tmp}{op:Op}{ty:TypeId}{pos:String}{after:Array Edge}{gd:Option (Nat × Bool)}{d:PV}{s:Nat}{r q:Row}(hw:s9 ops env ⟨some t,op,ty,pos,after,gd⟩=some true)
  (h:u6 P σ (p6 env) (some t) op d (.app s t r))(hf:σ t=none)(hq:σ s=some q)(ho:q.opn=true)(ht:dr=true→(G8.app s t r).off (kept bar)=true)(hc:dr=true→V6 (cls bar i op) (.app s t r) (∀σ',w9 (kept bar) σ σ'→u6 P σ' (p6 env) (some t) op d (.app s t r)))
  (k:Ex P ops bar dr (i+1) os ⟨o0 env t d,o0 (o0 σ s (some ⟨q.els,q.els.length,false,q.z,q.cl⟩)) t (some r)⟩ K) :
  Ex P ops bar dr i (⟨some t,op,ty,pos,after,gd⟩::os) ⟨env,σ⟩ K:=by
 refine⟨_,.run d (.app s t r) hw h ⟨y6.refl _,w9.refl _⟩ ⟨hf,q,hq,ho⟩ ht hc,?_⟩;simp only[G8.apply,hq];exact k
theorem b6H{t:Tmp}{op:Op}{ty:TypeId}{pos:String}{after:Array Edge}{gd:Option (Nat × Bool)}{d:PV}(hw:s9 ops env ⟨some t,op,ty,pos,after,gd⟩=some true)
  (h:u6 P σ (p6 env) (some t) op d (.frz []))(hc:dr=true→V6 (cls bar i op) (.frz []) (∀σ',w9 (kept bar) σ σ'→u6 P σ' (p6 env) (some t) op d (.frz [])))(k:Ex P ops bar dr (i+1) os ⟨o0 env t d,σ⟩ K) :
  Ex P ops bar dr i (⟨some t,op,ty,pos,after,gd⟩::os) ⟨env,σ⟩ K:=⟨_,.run d (.frz []) hw h ⟨y6.refl _,w9.refl _⟩ trivial (λ_=>rfl) hc,k⟩
end
theorem b23{P:Program}{f:FuncId}{fn:Func}{c:Code}{ds:List PV}{d:PV}{N:Nat}(hf:P.funcs[f]? = some fn)(hb:fn.body=some c)(hN:fn.ntmps=N)(hn:ds.length≤N)
  (h:∀(w0:WG P) imm0,J1 { P:=P,N:=N,ρ:=none,w0:=w0.1,imm0:=imm0,tab:=w0.2 } c (fnQ { P:=P,N:=N,ρ:=none,w0:=w0.1,imm0:=imm0,tab:=w0.2 } (Fin P fn d)) ⟨D3 ds,λ_=>none⟩)(h6:N≤1000000:=by exact Nat.le_of_ble_eq_true rfl):E5 P f ds d:=by
 refine b15 hf hb (by rw[hN];exact hn) (by rw[hN];exact h6) ?_;rintro⟨P',N',ρ',w0,imm0,ext,obs,calm,tab⟩ hP hN' hρ hext hobs hcalm;simp only at hP hN' hρ hext hobs hcalm;subst hP hN' hρ hext hobs hcalm hN;exact h ⟨w0,tab⟩ imm0
theorem b14{P:Program}{f:FuncId}{fn:Func}{c:Code}{ds:List PV}{r:Row}{N:Nat}(hf:P.funcs[f]? = some fn)(hb:fn.body=some c)(hN:fn.ntmps=N)(hn:ds.length≤N)
  (h:∀(w0:WG P) imm0,J1 { P:=P,N:=N,ρ:=none,w0:=w0.1,imm0:=imm0,tab:=w0.2 } c (fnQ { P:=P,N:=N,ρ:=none,w0:=w0.1,imm0:=imm0,tab:=w0.2 } (b2e P fn r)) ⟨D3 ds,λ_=>none⟩)(h6:N≤1000000:=by exact Nat.le_of_ble_eq_true rfl):a1E P f ds r:=by
 refine b0W hf hb (by rw[hN];exact hn) (by rw[hN];exact h6) ?_;rintro⟨P',N',ρ',w0,imm0,ext,obs,calm,tab⟩ hP hN' hρ hext hobs hcalm;simp only at hP hN' hρ hext hobs hcalm;subst hP hN' hρ hext hobs hcalm hN;exact h ⟨w0,tab⟩ imm0
theorem c4{K:Ctx→St→Prop}{Q:PX→Ctx→St→Prop}{i:Nat}{X:Ctx}{s:St}(h:Q (.exit i) X s):a0Y K Q (.exit i) X s:=h
theorem j7{id:Nat}{Q:PX→Ctx→St→Prop}{X:Ctx}{s:St}(h:Q .normal X s):a5u id Q (.exit id) X s:=by
 simp only[a5u,if_true];exact h
theorem N2{id id':Nat}{Q:PX→Ctx→St→Prop}{X:Ctx}{s:St}(hne:id'≠id)(h:Q (.exit id') X s):a5u id Q (.exit id') X s:=by
 simp only[a5u,if_neg hne];exact h
def Ag(R:List (Nat × Row))(s:St):List (Nat × PV)→Prop
 | []=>True
 | (i,d)::L=>s.env i=d.ren id∧a3i d=true∧d.refs.all (λl=>(R.lookup l).isSome)=true∧Ag R s L
def Ar(R0:List (Nat × Row))(s:St):List (Nat × Row)→Prop
 | []=>True
 | p::R=>a0H id R0 s.σ p∧Ar R0 s R
theorem b3g{s:St}(L:List (Nat × PV))(R:List (Nat × Row))(h:Ag R s L)(k:Ar R s R)(X:Ctx)(g:Gh)(a:Act)(w:World)(hs:r7 X g s a w):r7 X g (St.of L R) a w:=by
 refine b1H id L R ?_ ?_ (λp _ q _ e=>e) X g a w hs
 ·clear k;induction L with
  | nil=>intro p hp;cases hp
  | cons x L ih=>
   intro p hp;obtain⟨h1,h2,h3,h4⟩:=h;rcases List.mem_cons.1 hp with rfl | hp
   ·exact⟨h1,h2,h3⟩
   ·exact ih h4 p hp
 ·clear h;have:∀R',Ar R s R'→∀p∈R',a0H id R s.σ p:=by
   intro R';induction R' with
   | nil=>intro _ p hp;cases hp
   | cons x R' ih=>
    intro h p hp;rcases List.mem_cons.1 hp with rfl | hp
    ·exact h.1
    ·exact ih h.2 p hp
  exact this R k
theorem a5r{s:St}(L:List (Nat × PV))(R:List (Nat × Row))(h:Ag R s L)(k:Ar R s R):Wk s (St.of L R):=λX g a w hs=>⟨g,b3g L R h k X g a w hs⟩
def AgP(π:Nat→Nat)(R:List (Nat × Row))(s:St):List (Nat × PV)→Prop
 | []=>True
 | (i,d)::L=>s.env i=d.ren π∧a3i d=true∧d.refs.all (λl=>(R.lookup l).isSome)=true∧AgP π R s L
def ArP(π:Nat→Nat)(R0:List (Nat × Row))(s:St):List (Nat × Row)→Prop
 | []=>True
 | p::R=>a0H π R0 s.σ p∧ArP π R0 s R
theorem b04{s:St}(π:Nat→Nat)(L:List (Nat × PV))(R:List (Nat × Row))(h:AgP π R s L)(k:ArP π R s R)(hi:(R.all λp=>R.all λq=>π p.1 != π q.1||p.1==q.1)=true):Wk s (St.of L R):=by
 refine b57 π L R ?_ ?_ λp hp q hq e=>?_
 ·clear k hi;induction L with
  | nil=>intro p hp;cases hp
  | cons x L ih=>
   intro p hp;obtain⟨h1,h2,h3,h4⟩:=h;rcases List.mem_cons.1 hp with rfl | hp
   ·exact⟨h1,h2,h3⟩
   ·exact ih h4 p hp
 ·clear h hi;have:∀R',ArP π R s R'→∀p∈R',a0H π R s.σ p:=by
   intro R';induction R' with
   | nil=>intro _ p hp;cases hp
   | cons x R' ih=>
    intro h p hp;rcases List.mem_cons.1 hp with rfl | hp
    ·exact h.1
    ·exact ih h.2 p hp
  exact this R k
 ·have:=List.all_eq_true.1 (List.all_eq_true.1 hi p hp) q hq;simpa[e] using this
theorem b16{π:Nat→Nat}{R:List (Nat × Row)}{σ:Nat→Option Row}{l:Nat}{r r':Row}(h:σ (π l)=some r)(hz:r.z=r'.z)(hl:r.lo=r'.lo)(ho:r'.opn=true→r.opn=true)(hc:r.cl=true)(he:r.els=r'.els)(hc':r'.cl=true)(hm:okM l (π l) r.cl r'.cl=true:=by rfl):a0H π R σ (l,r'):=
 ⟨r,h,hm,hz,hl,ho,λ_=>hc,.inl ⟨hc',he⟩⟩
theorem b0Y{R:List (Nat × Row)}{σ:Nat→Option Row}{l:Nat}{r r':Row}(h:σ l=some r)(hz:r.z=r'.z)(hl:r.lo=r'.lo)(ho:r'.opn=true→r.opn=true)(hc:r.cl=true)(he:r.els=r'.els)(hc':r'.cl=true)(hm:okM l l r.cl r'.cl=true:=by rfl):a0H id R σ (l,r'):=
 ⟨r,h,hm,hz,hl,ho,λ_=>hc,.inl ⟨hc',he⟩⟩
theorem W5{π:Nat→Nat}{R:List (Nat × Row)}{σ:Nat→Option Row}{l:Nat}{r r':Row}(h:σ (π l)=some r)(hz:r.z=r'.z)(hl:r.lo=r'.lo)(ho:r'.opn=true→r.opn=true)(hc:r'.cl=false)(he:r.els=r'.els.map (PV.ren π))(h1:r'.els.all a3i=true)
  (h2:(r'.els.flatMap PV.refs).all (λl=>(R.lookup l).isSome)=true)(hm:okM l (π l) r.cl r'.cl=true:=by rfl):a0H π R σ (l,r'):=
 ⟨r,h,hm,hz,hl,ho,λq=>(by
  have q':r'.cl=true:=q;rw[hc] at q';cases q'),.inr ⟨hc,he,h1,h2⟩⟩
def Sq(X:Ctx)(ops:Array Oper)(i:Nat)(os:List Oper)(K:Ctx→St→Prop)(st:St):Prop:=
 X5 X.N ops=true→(∀j,os[j]? = ops[i+j]?)→∀n g a w (Qo:Exit→Act→World→Prop),r7 X g st a w →
  (∀X' g' s' a' w',r7 X' g' s' a' w'→X'.P=X.P∧X'.ρ=X.ρ→K X' s'→Qo .normal a' w')→wpOpsIn (FX X.ρ) n X.P ops Qo (List.range' i os.length) a w
section
variable{X:Ctx}{Q:PX→Ctx→St→Prop}{st:St}{ops:Array Oper}{i:Nat}{os:List Oper}{K:Ctx→St→Prop}{env:Nat→PV}{σ:Nat→Option Row}
theorem b6K(h:K X st):Sq X ops i [] K st:=λ_ _ n g a w Qo hs hq=>hq X g st a w hs ⟨rfl,rfl⟩ h
theorem E1{st':St}(h:Wk st st')(k:Sq X ops i os K st'):Sq X ops i os K st:=λhd hi n g a w Qo hs hq=>by
 obtain⟨g',hs'⟩:=h X g a w hs;exact k hd hi n g' a w Qo hs' hq
theorem a2D{o:Oper}{s:St}(h:Stp X.P ops false (kept []) (cls [] i o.op) o st s)(k:Sq X ops (i+1) os K s):Sq X ops i (o::os) K st:=λhd hi n g a w Qo hs hq=>by
 have ho:ops[i]? = some o:=by have:=hi 0;simpa using this.symm
 have e:List.range' i (o::os).length=i::List.range' (i+1) os.length:=rfl;rw[e,wpOpsIn_cons];exact a5V ho hs h (y8 hd ho) λg' a' w' hs'=>k hd (λj=>by have:=hi (j+1);simpa[Nat.add_assoc,Nat.add_comm 1 j] using this) n g' a' w' Qo hs' hq
theorem sr{id:Nat}{l:List Oper}{y:Code}(hd:X5 X.N l.toArray=true)(h:Sq X l.toArray 0 l (λX' s=>J1 X' y Q s) st):J1 X (.seq (.region id l.toArray false) y) Q st:=λn g a w hs=>by
 refine wpIn_seq (wpIn_region ?_);have hz:List.range l.toArray.size=List.range' 0 l.length:=by simp[List.range_eq_range']
 rw[hz];refine h hd (λj=>by simp) n g a w _ hs λX' g' s' a' w' h1 h3 h2=>?_;have:=h2 n g' a' w' h1;rw[a5d h3,h3.1,h3.2] at this;exact this
theorem sr1{id:Nat}{l:List Oper}(hd:X5 X.N l.toArray=true)(h:Sq X l.toArray 0 l (Q .normal) st):J1 X (.region id l.toArray false) Q st:=λn g a w hs=>by
 refine wpIn_region ?_;have hz:List.range l.toArray.size=List.range' 0 l.length:=by simp[List.range_eq_range']
 rw[hz];exact h hd (λj=>by simp) n g a w _ hs λX' g' s' a' w' h1 h3 h2=>⟨X',g',s',h1,h3,h2⟩
theorem dr{id:Nat}{l:List Oper}{y:Code}(bar:List Nat)(hm:X.P.follows .mixedOrders=true)(hd:X5 X.N l.toArray=true)(hr:a4d l.toArray bar (Region.before l.toArray)=true)
  (h:Ex X.P l.toArray bar true 0 l st (λs=>J1 X y Q s)):J1 X (.seq (.region id l.toArray true) y) Q st:=c5 (a7x bar hm hd hr h)
end
end Go.Pw
namespace Go.Pw
open Go.RowKit Go.Sh
section
variable{P:Program}{σ:Nat→Option Row}{ρ:Operand→PV}{dst:Option Tmp}
theorem b0U{x:Operand}{d:PV}(h:ρ x=d):u6 P σ ρ dst (.move x) d .none:=by rw[←h];exact .move x
theorem a0x{t:TypeId}{x:Operand}{b r:Bool}(h:ρ x = .bool b)(hr:(!b)=r):u6 P σ ρ dst (.unOp .not t x) (.bool r) .none:=by rw[←hr];exact .not t x b h
theorem a9n{T:TypeId}{x:Operand}{l i f n:Nat}{r:Row}{y:PV}{cs:List PV}(hx:ρ x = .ptr l i f)(hl:σ l=some r)(hy:r.els[i]? = some y)(ha:B8 P T=some true)(hs:l5 P T=some n)(hf:f+n≤y.cells.length)
  (hd:(y.cells.drop f).take n=cs):u6 P σ ρ dst (.load T x) (.agg cs) .none:=by rw[←hd];exact .a2w T x l i f r y n hx hl hy ha hs hf
theorem b2R{T:TypeId}{x:Operand}{n:Nat}{es cs:List PV}(hx:ρ x = .rptr es)(ha:B8 P T=some true)(hs:l5 P T=some n)(hf:n≤es.length)
  (hd:es.take n=cs):u6 P σ ρ dst (.load T x) (.agg cs) .none:=by rw[←hd];exact .Y8 T x es n hx ha hs hf
theorem a9o{T:TypeId}{x:Operand}{l i f:Nat}{r:Row}{y d:PV}(hx:ρ x = .ptr l i f)(hl:σ l=some r)(hy:r.els[i]? = some y)(ha:B8 P T=some false)(hd:y.cells[f]? = some d):u6 P σ ρ dst (.load T x) d .none:=
 .a1r T x l i f r y d hx hl hy ha hd
theorem C6{T:TypeId}{x:Operand}{es:List PV}{d:PV}(hx:ρ x = .rptr es)(ha:B8 P T=some false)(hd:es[0]? = some d):u6 P σ ρ dst (.load T x) d .none:=.Y9 T x es d hx ha hd
theorem w9.row{T:List Nat}{σ σ':Nat→Option Row}{l:Nat}{r:Row}(h:w9 T σ σ')(hm:T.contains l=true)(hl:σ l=some r):∃r',σ' l=some r'∧r'.els=r.els∧r'.z=r.z∧r'.cl=r.cl:=by
 have:=h l hm;rw[hl] at this;cases hq:σ' l with
 | none=>rw[hq] at this;cases this
 | some r'=>
  rw[hq] at this;simp only[Option.map_some,Option.some.injEq,core,Prod.mk.injEq] at this;exact⟨r',rfl,this.1.symm,this.2.1.symm,this.2.2.symm⟩
theorem a10{T:TypeId}{x:Operand}{l i f n:Nat}{r:Row}{y:PV}{cs:List PV}{K:List Nat}{σ':Nat→Option Row}(hN:w9 K σ σ')(hx:ρ x = .ptr l i f)(hm:K.contains l=true)(hl:σ l=some r)(hy:r.els[i]? = some y)(ha:B8 P T=some true)(hs:l5 P T=some n)(hf:f+n≤y.cells.length)
  (hd:(y.cells.drop f).take n=cs):u6 P σ' ρ dst (.load T x) (.agg cs) .none:=by
 obtain⟨r',h1,h2,_⟩:=hN.row hm hl;exact a9n hx h1 (by rw[h2];exact hy) ha hs hf hd
theorem a6J{T:TypeId}{x:Operand}{l i f:Nat}{r:Row}{y d:PV}{K:List Nat}{σ':Nat→Option Row}(hN:w9 K σ σ')(hx:ρ x = .ptr l i f)(hm:K.contains l=true)(hl:σ l=some r)(hy:r.els[i]? = some y)(ha:B8 P T=some false)(hd:y.cells[f]? = some d):u6 P σ' ρ dst (.load T x) d .none:=by
 obtain⟨r',h1,h2,_⟩:=hN.row hm hl;exact a9o hx h1 (by rw[h2];exact hy) ha hd
theorem b5H{x:Operand}{T E:TypeId}{t:Bool}{xs:List PV}{n:Int}(hx:ρ x = .lst t xs)(hE:r5 P T=some E)(hn:(xs.length:Int)=n):u6 P σ ρ dst (.call { callee:=.builtin .len,args:=#[x],argTypes:=#[T] }) (.int .i64 n) .none:=by
 subst hn;exact .lenL x t xs T hx (by rw[hE];rfl) _ rfl
theorem b5I{x:Operand}{T E:TypeId}{l:Nat}{r:Row}{n:Int}(hx:ρ x = .sl l)(hl:σ l=some r)(hE:r5 P T=some E)(hn:(r.els.length:Int)=n):u6 P σ ρ dst (.call { callee:=.builtin .len,args:=#[x],argTypes:=#[T] }) (.int .i64 n) .none:=by
 subst hn;exact .lenR x l r T hx hl (by rw[hE];rfl) _ rfl
theorem b5J{x:Operand}{T:TypeId}{s:ByteArray}{n:Int}(hx:ρ x = .str s)(hE:P.underlying T=some .string)(hn:(s.size:Int)=n):u6 P σ ρ dst (.call { callee:=.builtin .len,args:=#[x],argTypes:=#[T] }) (.int .i64 n) .none:=by
 subst hn;exact .lenS x s T hx hE _ rfl
theorem b4X{x y:Operand}{k:IntKind}{a b r:Int}{ts:Array TypeId}(hx:ρ x = .int k a)(hy:ρ y = .int k b)(hr:(if b<a then b else a)=r):u6 P σ ρ dst (.call { callee:=.builtin .min,args:=#[x,y],argTypes:=ts }) (.int k r) .none:=by
 subst hr;exact .min2 x y k a b ts hx hy
theorem b1v{x y:Operand}{k:IntKind}{a b r:Int}{ts:Array TypeId}(hx:ρ x = .int k a)(hy:ρ y = .int k b)(hr:(if b > a then b else a)=r):u6 P σ ρ dst (.call { callee:=.builtin .max,args:=#[x,y],argTypes:=ts }) (.int k r) .none:=by
 subst hr;exact .max2 x y k a b ts hx hy
theorem a5f{op:BinOp}{t u:TypeId}{x y:Operand}{k:IntKind}{a b r:Int}(hx:ρ x = .int k a)(hy:ρ y = .int k b)(hr:b2v k op a b=some r):u6 P σ ρ dst (.binOp op t x y u) (.int k r) .none:=.ari op t u x y k a b r hx hy hr
theorem A0{op:BinOp}{t u:TypeId}{x y:Operand}{k:IntKind}{a b:Int}{r:Bool}(hx:ρ x = .int k a)(hy:ρ y = .int k b)(hr:b2z op a b=some r):u6 P σ ρ dst (.binOp op t x y u) (.bool r) .none:=.cmp op t u x y k a b r hx hy hr
theorem a5g{t u:TypeId}{x y:Operand}{a b:ByteArray}{r:Bool}(hx:ρ x = .str a)(hy:ρ y = .str b)(hr:(a.toList==b.toList)=r):u6 P σ ρ dst (.binOp .eql t x y u) (.bool r) .none:=by subst hr;exact .eqS t u x y a b hx hy
theorem b5E{s t:TypeId}{x:Operand}{k k':IntKind}{n r:Int}{D:TypeDesc}(hx:ρ x = .int k' n)(hs:P.underlying s=some D)(ht:b3b P t=some k)(hr:k.wrap n=r):u6 P σ ρ dst (.convert s t x) (.int k r) .none:=by
 subst hr;exact .conv s t x k k' n hx (by rw[hs];rfl) ht
theorem b1w{T E:TypeId}{z i j k:Nat}{x:Operand}{lo hi mx:Option Operand}{t t':Bool}{xs ys:List PV}(hx:ρ x = .lst t xs)(hE:r5 P T=some E)(hz:l5 P E=some z)(hel:∀e∈xs,e.cells.length=z)(hlo:Bnd ρ lo 0 i)(hhi:Bnd ρ hi xs.length j)(hmx:Bnd ρ mx xs.length k)
  (hmh:mx.isSome=true→hi.isSome=true)(hij:i≤j)(hjk:j≤k)(hk:k≤xs.length)(ht:(if mx.isSome then decide (j=k) else t&&decide (j=xs.length))=t')(hy:(xs.take j).drop i=ys):u6 P σ ρ dst (.slice T x lo hi mx) (.lst t' ys) .none:=by
 subst ht;subst hy;exact .sliceL T E z x lo hi mx t xs i j k hx hE hz hel hlo hhi hmx hmh hij hjk hk
theorem b5D{x y:Operand}{T E:TypeId}{t:Tmp}{xs ys zs:List PV}{cl:Bool}{z by_ n:Nat}{zv:Value}(hd:dst=some t)(hx:ρ x = .lst true xs)(hy:Src σ (ρ y) ys cl)(hE:r5 P T=some E)(hz:l5 P E=some z)(hb:C2 P E=some by_)(hzv:r4 P E=some zv)(hzz:zv.cells.size=z)
  (hel:∀e∈xs++ys,e.cells.length=z)(hfit:(xs.length+ys.length)*by_≤140737488355328)(h63:xs.length+ys.length≤9223372036854775807)(hzs:xs++ys=zs)(hn:xs.length=n) :
  u6 P σ ρ dst (.call { callee:=.builtin .append,args:=#[x,y],argTypes:=#[T,T] }) (.sl t) (.new t ⟨zs,n,true,z,cl⟩):=by
 subst hzs;subst hn;exact .appT x y T E xs ys cl z by_ t zv hd hx hy hE hz hb hzv hzz hel hfit h63
theorem b5C{x y:Operand}{T E:TypeId}{t:Tmp}{s:Nat}{r:Row}{ys zs:List PV}{cl cl':Bool}{z by_ n:Nat}{zv:Value}(hd:dst=some t)(hx:ρ x = .sl s)(hs:σ s=some r)(hy:Src σ (ρ y) ys cl)(hE:r5 P T=some E)(hz:l5 P E=some z)(hb:C2 P E=some by_)(hzv:r4 P E=some zv)
  (hzz:zv.cells.size=z)(hel:∀e∈r.els++ys,e.cells.length=z)(hrz:r.z=z)(hfit:(r.els.length+ys.length)*by_≤140737488355328)(h63:r.els.length+ys.length≤9223372036854775807)(hzs:r.els++ys=zs)(hn:r.els.length=n)(hcl:(r.cl&&cl)=cl') :
  u6 P σ ρ dst (.call { callee:=.builtin .append,args:=#[x,y],argTypes:=#[T,T] }) (.sl t) (.app s t ⟨zs,n,true,z,cl'⟩):=by
 subst hzs;subst hn;subst hcl;exact .appR x y T E s r ys cl z by_ t zv hd hx hs hy hE hz hb hzv hzz hel hrz hfit h63
theorem J2{α:Type}{f:α→PV}{l:List α}{T E:TypeId}{parts:Array (Nat × Operand)}{len z:Nat}{zv:Value}{ps:List (Nat × PV)}(hp:(parts.toList.map λp=>(p.1,(ρ p.2).w1))=ps)(hE:r5 P T=some E)(hz:l5 P E=some z)(hzv:r4 P E=some zv)
  (hlen:(l.map f).length=len)(hel:(l.map f).all (λx=>x.el&&(x.cells.length==z))=true)(hbig:len*z≤2 ^ 24)(hf:a2t (λi=>some (i*z,z)) (List.replicate (len*z) .junk) ps=some ((l.map f).flatMap PV.cells))
  (hcl:(l.map f).all (λx=>x.cells.all PV.K1)=true):u6 P σ ρ dst (.buildSlice T len parts) (.lst true (l.map f)) .none:=by
 subst hp;refine .buildI T E parts len z zv _ hE hz hzv hlen (λx hx=>?_) hbig hf hcl;have:=List.all_eq_true.1 hel x hx;simp only[Bool.and_eq_true,beq_iff_eq] at this;exact this
theorem a7w{T E:TypeId}{z:Nat}{t:Tmp}(hd:dst=some t)(hE:r5 P T=some E)(hz:l5 P E=some z):u6 P σ ρ dst (.buildSlice T 0 #[]) (.lst true []) .none:=.nilSlice T E #[] t z hd hE hz rfl
theorem b5F{x y:Operand}{T U E:TypeId}{l z:Nat}{r:Row}{ys:List PV}{n:Int}(hx:ρ x = .sl l)(hl:σ l=some r)(hcl:r.cl=true)(hy:Src σ (ρ y) ys true)(hE:r5 P T=some E)(hz:l5 P E=some z)(hrz:r.z=z)(hel:∀e∈ys,e.cells.length=z)(hn:ys.length≤r.els.length)
  (hzp:0<z)(hk:(ys.length:Int)=n):u6 P σ ρ dst (.call { callee:=.builtin .copy,args:=#[x,y],argTypes:=#[T,U] }) (.int .i64 n) (.cpy l ys):=by
 subst hk;exact .copy x y T U E l r ys z hx hl hcl hy hE hz hrz hel hn hzp
theorem a3D{T:TypeId}{x y:Operand}{l i f n:Nat}{d:PV}{cs:List PV}(hx:ρ x = .ptr l i f)(hy:ρ y=d∨(ρ y).w1=d)(hc:d.cells=cs)(he:d.el=true)(hs:l5 P T=some n)(hp:0<n)(hn:cs.length=n) :
  u6 P σ ρ dst (.store T x y) (.tup []) (.sto l i f cs):=by subst hc;subst hn;exact .store T x y l i f d hx hy he hs hp
theorem a9m{T:TypeId}{x:Operand}{f l i q off k:Nat}{ft:TypeId}(hx:ρ x = .ptr l i q)(ho:O2 P T f=some (off,ft))(hk:q+off=k):u6 P σ ρ dst (.fieldAddr T x f) (.ptr l i k) .none:=by
 subst hk;exact .fieldAddrP T x f l i q off ft hx ho
theorem N4{T:TypeId}{x:Operand}{f off:Nat}{ft:TypeId}{cs es:List PV}(hx:ρ x = .rptr es)(ho:O2 P T f=some (off,ft))(hk:es.drop off=cs):u6 P σ ρ dst (.fieldAddr T x f) (.rptr cs) .none:=by
 subst hk;exact .fieldAddrR T x f es off ft hx ho
theorem o6{T:TypeId}{parts:Array (Nat × Operand)}{pl:Nat→Option (Nat × Nat)}{z:Value}{zs cs:List PV}{ps:List (Nat × PV)}(hp:(parts.toList.map λp=>(p.1,(ρ p.2).w1))=ps)(hpl:w6 P T=some pl)(hz:r4 P T=some z)(hzs:PV.ofV z = .agg zs)
  (hf:a2t pl zs ps=some cs)(hsc:cs.all PV.sc=true):u6 P σ ρ dst (.build T parts) (.agg cs) .none:=by subst hp;exact .build T parts pl z zs cs hpl hz hzs hsc hf
theorem a0o{α:Type}{a b:α}{l m:List α}(h:a=b)(k:l=m):a::l=b::m:=by rw[h,k]
def o7(P:Program)(f:FuncId):Prop:=∃fn c,P.funcs[f]? = some fn∧fn.body=some c∧fn.name ≠ "runtime.NumGoroutine"
theorem a5K{f:FuncId}{args:Array Operand}{ts:Array TypeId}{x:Operand}{ds vs cap:List PV}{d:PV}(hx:ρ x = .fn (.func f) cap)(hk:o7 P f)(ha:args.toList.map ρ++cap=ds)(h:E5 P f vs d)
  (hok:ds.all (PV.vok σ)=true:=by rfl)(hv:ds.map (PV.vw σ)=vs:=by rfl)(hfl:d.flat=true:=by rfl):u6 P σ ρ dst (.call { callee:=.value x,args,argTypes:=ts }) d .none:=by
 subst ha;subst hv;exact .call f args ts cap d x hx hk hok h hfl
theorem a6K{f:FuncId}{args:Array Operand}{ts:Array TypeId}{x:Operand}{ds vs cap:List PV}{ls:List Nat}{d:PV}(hx:ρ x = .fn (.func f) cap)(hk:o7 P f)(ha:args.toList.map ρ++cap=ds)(h:E5 P f vs d)
  (hok:ds.all (PV.vok σ)=true:=by rfl)(hv:ds.map (PV.vw σ)=vs:=by rfl)(hl:ds.flatMap (PV.D0 σ)=ls:=by rfl):u6 P σ ρ dst (.call { callee:=.value x,args,argTypes:=ts }) d (.frz ls):=by
 subst ha;subst hv;subst hl;exact .callF f args ts cap d x hx hk hok h
theorem b4g{f:FuncId}{args:Array Operand}{ts:Array TypeId}{x:Operand}{ds vs cap:List PV}{ls:List Nat}{l:Tmp}{r:Row}(hx:ρ x = .fn (.func f) cap)(hk:o7 P f)(ha:args.toList.map ρ++cap=ds)(h:a1E P f vs r)
  (hd:dst=some l:=by rfl)(hok:ds.all (PV.vok σ)=true:=by rfl)(hv:ds.map (PV.vw σ)=vs:=by rfl)(hcl:r.cl=true:=by rfl)(hl:ds.flatMap (PV.D0 σ)=ls:=by rfl) :
  u6 P σ ρ dst (.call { callee:=.value x,args,argTypes:=ts }) (.sl l) (.frzN ls l r):=by
 subst ha;subst hv;subst hl;exact .callN f args ts cap l r x hd hx hk hok h hcl
end
section
variable{P:Program}{σ:Nat→Option Row}{ρ:Operand→PV}{dst:Option Tmp}
theorem D8{c a b:Operand}{x y g:Bool}(hc:ρ c = .bool x)(ha:ρ a = .bool true)(hb:ρ b=cond g (.bool y) (.tup []))(hg:x=false→g=true):u6 P σ ρ dst (.pick c a b) (.bool (x||y)) .none:=by
 have:=u6.pick (P:=P) (σ:=σ) (dst:=dst) c a b x hc;rw[ha,hb] at this;cases x;·rw[hg rfl] at this;exact this
 ·exact this
theorem A3{c a b:Operand}{x y g:Bool}(hc:ρ c = .bool x)(ha:ρ a=cond g (.bool y) (.tup []))(hb:ρ b = .bool false)(hg:x=true→g=true):u6 P σ ρ dst (.pick c a b) (.bool (x&&y)) .none:=by
 have:=u6.pick (P:=P) (σ:=σ) (dst:=dst) c a b x hc;rw[ha,hb] at this;cases x;·exact this
 ·rw[hg rfl] at this;exact this
theorem ct{g:Bool}{a b:PV}(h:g=true):cond g a b=a:=by rw[h];rfl
theorem b6U{a b:Bool}(h:a=true)(k:b=true):(a&&b)=true:=by rw[h,k];rfl
theorem eqF{b:Bool}(h:b=false):(b==false)=true:=by rw[h];rfl
theorem eqT{b:Bool}(h:b=true):(b==true)=true:=by rw[h];rfl
theorem a3g{α:Type}{f:α→PV}{xs:List α}{x:Operand}{T E:TypeId}{t:Bool}(hx:ρ x = .lst t (xs.map f))(hE:r5 P T=some E):u6 P σ ρ dst (.call { callee:=.builtin .len,args:=#[x],argTypes:=#[T] }) (.int .i64 xs.length) .none:=b5H hx hE (by simp)
theorem a8H{α:Type}{f:α→PV}{xs:List α}{x:Operand}{T E:TypeId}{l:Nat}{r:Row}(hx:ρ x = .sl l)(hl:σ l=some r)(he:r.els=xs.map f)(hE:r5 P T=some E):u6 P σ ρ dst (.call { callee:=.builtin .len,args:=#[x],argTypes:=#[T] }) (.int .i64 xs.length) .none:=
 b5I hx hl hE (by rw[he];simp)
theorem a1c{α β:Type}(f:α→β){xs:List α}{i:Int}{e:α}(h:ix xs i=some e):0≤i∧(xs.map f)[i.toNat]? = some (f e):=by
 obtain⟨h0,h1⟩:=a7q h;exact⟨h0,by rw[List.getElem?_map,h1];rfl⟩
theorem B4{α:Type}{f:α→PV}{xs:List α}{i:Int}{e:α}{T E:TypeId}{x y:Operand}{t:Bool}{k:IntKind}{z:Nat}{cs:List PV}(h:ix xs i=some e)(hx:ρ x = .lst t (xs.map f))(hy:ρ y = .int k i)
  (hE:r5 P T=some E)(hz:l5 P E=some z)(hc:(f e).cells=cs)(hl:cs.length=z):u6 P σ ρ dst (.indexAddr T x y) (.rptr cs) .none:=by
 obtain⟨h0,h1⟩:=a1c f h;subst hc;subst hl;exact .idxL T x y t (xs.map f) k i (f e) E hx hy h0 h1 hE hz
theorem a0w{α:Type}{f:α→PV}{xs:List α}{i:Int}{e:α}{T E:TypeId}{x y:Operand}{l:Nat}{k:IntKind}{z:Nat}{r:Row}(h:ix xs i=some e)(hx:ρ x = .sl l)(hr:σ l=some r)(he:r.els=xs.map f)(hy:ρ y = .int k i)
  (hE:r5 P T=some E)(hz:l5 P E=some z)(hl:r.z=z):u6 P σ ρ dst (.indexAddr T x y) (.ptr l i.toNat 0) .none:=by
 obtain⟨h0,h1⟩:=a1c f h;subst hl;exact .idxR T x y l r k i E hx hr hy h0 (by rw[he];exact (List.getElem?_eq_some_iff.1 h1).1) hE hz
theorem b6v{α:Type}{f:α→PV}{xs:List α}{i:Int}{e:α}{T:TypeId}{x:Operand}{l q n:Nat}{r:Row}{cs:List PV}(h:ix xs i=some e)(hx:ρ x = .ptr l i.toNat q)(hr:σ l=some r)(he:r.els=xs.map f)
  (ha:B8 P T=some true)(hs:l5 P T=some n)(hf:q+n≤(f e).cells.length)(hd:((f e).cells.drop q).take n=cs):u6 P σ ρ dst (.load T x) (.agg cs) .none:=
 a9n hx hr (by rw[he];exact (a1c f h).2) ha hs hf hd
theorem b2P{α:Type}{f:α→PV}{xs:List α}{i:Int}{e:α}{T:TypeId}{x:Operand}{l q:Nat}{r:Row}{d:PV}(h:ix xs i=some e)(hx:ρ x = .ptr l i.toNat q)(hr:σ l=some r)(he:r.els=xs.map f)
  (ha:B8 P T=some false)(hd:(f e).cells[q]? = some d):u6 P σ ρ dst (.load T x) d .none:=
 a9o hx hr (by rw[he];exact (a1c f h).2) ha hd
theorem b0c{α:Type}{f:α→PV}{xs ys zs:List α}{b:Nat}{x y:Operand}{T E:TypeId}{t:Tmp}{z:Nat}{zv:Value}(h:app b xs ys=some zs)(hd:dst=some t)(hx:ρ x = .lst true (xs.map f))(hy:Src σ (ρ y) (ys.map f) true)
  (hE:r5 P T=some E)(hz:l5 P E=some z)(hb:C2 P E=some b)(hzv:r4 P E=some zv)(hzz:zv.cells.size=z)(hel:∀e,(f e).cells.length=z) :
  u6 P σ ρ dst (.call { callee:=.builtin .append,args:=#[x,y],argTypes:=#[T,T] }) (.sl t) (.new t ⟨zs.map f,xs.length,true,z,true⟩):=by
 obtain⟨h1,h2,rfl⟩:=a6Y h;exact b5D hd hx hy hE hz hb hzv hzz (λe he=>by rw[←List.map_append] at he;obtain⟨a,_,rfl⟩:=List.mem_map.1 he;exact hel a) (by simpa using h1) (by simpa using h2) (by simp) (by simp)
theorem L5{α:Type}{f:α→PV}{xs ys zs:List α}{b:Nat}{x y:Operand}{T E:TypeId}{t:Tmp}{z s:Nat}{r:Row}{zv:Value}(h:app b xs ys=some zs)(hd:dst=some t)(hx:ρ x = .sl s)(hs:σ s=some r)(he:r.els=xs.map f)(hrz:r.z=z)(hcl:r.cl=true)
  (hy:Src σ (ρ y) (ys.map f) true)(hE:r5 P T=some E)(hz:l5 P E=some z)(hb:C2 P E=some b)(hzv:r4 P E=some zv)(hzz:zv.cells.size=z)(hel:∀e,(f e).cells.length=z) :
  u6 P σ ρ dst (.call { callee:=.builtin .append,args:=#[x,y],argTypes:=#[T,T] }) (.sl t) (.app s t ⟨zs.map f,xs.length,true,z,true⟩):=by
 obtain⟨h1,h2,rfl⟩:=a6Y h;exact b5C hd hx hs hy hE hz hb hzv hzz (λe q=>by rw[he,←List.map_append] at q;obtain⟨a,_,rfl⟩:=List.mem_map.1 q;exact hel a) hrz (by rw[he];simpa using h1) (by rw[he];simpa using h2) (by rw[he];simp) (by rw[he];simp) (by rw[hcl];rfl)
theorem a7v{α:Type}{f:α→PV}{zs:List α}{z0:α}{n:Int}{T E:TypeId}{x y:Operand}{t:Tmp}{k k':IntKind}{z b:Nat}{v:Value}(h:mk b n z0=some zs)(hd:dst=some t)(hx:ρ x = .int k n)(hy:ρ y = .int k' n)(hE:r5 P T=some E)(hz:l5 P E=some z)
  (hv:r4 P E=some v)(hb:C2 P E=some b)(hdv:(PV.ofV v).w1=f z0)(hel:(PV.ofV v).w1.el=true)(hvz:(PV.ofV v).w1.cells.length=z):u6 P σ ρ dst (.makeSlice T x y) (.sl t) (.new t ⟨zs.map f,0,true,z,true⟩):=by
 obtain⟨h1,h2,h3,rfl⟩:=b4e h;rw[List.map_replicate,←hdv];exact .mkSlice T x y t k k' n E z v hd hx hy h1 hE hz hv hel hvz b hb h2 h3
def a7V(ρ:Operand→PV)(x:Option Operand)(dflt n:Int):Prop:=
 match x with
 | some y=>∃k,ρ y = .int k n
 | none=>n=dflt
theorem a7V.bnd{ρ:Operand→PV}{x:Option Operand}{d n:Int}{d':Nat}(h:a7V ρ x d n)(h0:0≤n)(hd:d=d'):Bnd ρ x d' n.toNat:=by
 cases x with
 | none=>have:n=d:=h;show n.toNat=d';omega
 | some y=>obtain⟨k,hk⟩:=h;exact⟨k,by rw[hk];congr;omega⟩
theorem a9l{α:Type}{f:α→PV}{xs zs:List α}{i j:Int}{T E:TypeId}{z:Nat}{x:Operand}{lo hi:Option Operand}(h:cut xs i j=some zs)(hx:ρ x = .lst false (xs.map f))(hlo:a7V ρ lo 0 i)(hhi:a7V ρ hi xs.length j)
  (hE:r5 P T=some E)(hz:l5 P E=some z)(hel:∀e,(f e).cells.length=z):u6 P σ ρ dst (.slice T x lo hi none) (.lst false (zs.map f)) .none:=by
 obtain⟨h1,h2,h3,rfl⟩:=a9P h;have:=b1w (P:=P) (σ:=σ) (dst:=dst) (mx:=none) (t':=false) (i:=i.toNat) (j:=j.toNat) (k:=(xs.map f).length) (ys:=((xs.take j.toNat).drop i.toNat).map f) hx hE hz (λe he=>by obtain⟨a,_,rfl⟩:=List.mem_map.1 he;exact hel a)
  (hlo.bnd h1 rfl) (hhi.bnd (by omega) (by simp)) rfl (λq=>by cases q) (by omega) (by simp;omega) (Nat.le_refl _) rfl (by simp[List.map_take,List.map_drop])
 exact this
theorem b2O{α:Type}{f:α→PV}{xs zs:List α}{i j:Int}{T E:TypeId}{z:Nat}{x:Operand}{lo hi mx:Option Operand}(h:cut xs i j=some zs)(hx:ρ x = .lst false (xs.map f))(hlo:a7V ρ lo 0 i)(hhi:a7V ρ hi xs.length j)(hmx:a7V ρ mx xs.length j)(hm:mx.isSome=true)(hs:hi.isSome=true)
  (hE:r5 P T=some E)(hz:l5 P E=some z)(hel:∀e,(f e).cells.length=z):u6 P σ ρ dst (.slice T x lo hi mx) (.lst true (zs.map f)) .none:=by
 obtain⟨h1,h2,h3,rfl⟩:=a9P h;exact b1w (P:=P) (σ:=σ) (dst:=dst) (t':=true) (i:=i.toNat) (j:=j.toNat) (k:=j.toNat) (ys:=((xs.take j.toNat).drop i.toNat).map f) hx hE hz (λe he=>by obtain⟨a,_,rfl⟩:=List.mem_map.1 he;exact hel a)
  (hlo.bnd h1 rfl) (hhi.bnd (by omega) (by simp)) (hmx.bnd (by omega) (by simp)) (λ_=>hs) (by omega) (Nat.le_refl _) (by simp;omega) (by rw[hm];simp) (by simp[List.map_take,List.map_drop])
end
end Go.Pw
