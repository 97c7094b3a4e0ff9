/- A part. -/
import Derived.Test.YtppgkaeodaaidaaGreatDoorU3lAl
set_option linter.unusedVariables false
set_option linter.unusedSimpArgs false
set_option linter.unusedSectionVars false
namespace Go.Pw
open Go.RowKit
inductive PV where
 | bool (b:Bool)
 | int (k:IntKind) (n:Int)
 | str (s:ByteArray)
 | agg (cs:List PV)
 | tup (vs:List PV)
 | H4 (tight:Bool) (xs:List PV)
 | sl (l:Nat)
 | mp (l:Nat)
 | mapc (es:List PV)
 | ptr (l i f:Nat)
 | rptr (cs:List PV)
 | fn (f:Fn) (cap:List PV)
 | nilfn
 | abs (R:World->(Nat->Nat->Prop)->Value->Prop)
 | junk
def PV.cells:PV->List PV
 | .agg cs=>cs
 | .mapc _=>[]
 | d=>[d]
def PV.sc:PV->Bool
 | .agg _ | .tup _ | .junk | .mapc _=>false
 | _=>true
def PV.el:PV->Bool
 | .agg cs=>cs.all PV.sc
 | .mapc _=>true
 | d=>d.sc
theorem PV.uO{d:PV}(h:d.el=true):∀y∈d.cells,y.sc=true:=by
 cases d <;> simp[PV.el,PV.cells,PV.sc] at * <;> exact h
structure L7 where
 A:Option Addr
 n:Nat
 C:Nat
 z:Nat
def cZ:Obj->Bool
 | .map .. | .stringIter .. => true
 | _=>false
theorem O6{o:Obj}(h:cZ o=true):o.isCells=false:=by cases o <;> first | rfl | cases h
structure Ext (w:World) (imm:Nat->Nat->Prop) (w':World) (imm':Nat->Nat->Prop):Prop where
 im:∀b o,imm b o->imm' b o
 cl:∀b o,imm b o->w'.cell? ⟨b,o,none⟩=w.cell? ⟨b,o,none⟩
 ob:∀b o x,imm b o->w.heap[b]? = some x->cZ x=true->w'.heap[b]? = some x
theorem Ext.refl(w:World)(imm:Nat->Nat->Prop):Ext w imm w imm:=⟨λ_ _ h=>h,λ_ _ _=>rfl,λ_ _ _ _ h _=>h⟩
theorem Ext.trans{w w' w'':World}{i c i'':Nat->Nat->Prop}(h:Ext w i w' c)(k:Ext w' c w'' i''):Ext w i w'' i'':=
 ⟨λb o q=>k.im b o (h.im b o q),λb o q=>(k.cl b o (h.im b o q)).trans (h.cl b o q),
  λb o x q hx hc=>k.ob b o x (h.im b o q) (h.ob b o x q hx hc) hc⟩
def one:Value->Bool
 | .agg _ | .tuple _=>false
 | _=>true
inductive Rd0 (w:World) (imm:Nat->Nat->Prop):Value->PV->Prop
 | bool (b:Bool):Rd0 w imm (.bool b) (.bool b)
 | int (k:IntKind) (n:Int):Rd0 w imm (.int k n) (.int k n)
 | str (s:ByteArray):Rd0 w imm (.string s) (.str s)
 | agg (vs:Array Value) (cs:List PV) (hsc:cs.all PV.sc=true) (hn:vs.size=cs.length)
   (h:∀(i:Nat) v c,vs[i]? = some v->cs[i]? = some c->Rd0 w imm v c):Rd0 w imm (.agg vs) (.agg cs)
 | tup (vs:Array Value) (cs:List PV) (hn:vs.size=cs.length)
   (h:∀(i:Nat) v c,vs[i]? = some v->cs[i]? = some c->Rd0 w imm v c):Rd0 w imm (.tuple vs) (.tup cs)
 | H4 (A:Option Addr) (c z:Nat) (t:Bool) (xs:List PV) (u:Nat->Nat->Value) (hc:xs.length<=c) (ht:t=true->c=xs.length)
   (hnil:A=none->c=0) (hel:∀x∈xs,x.el=true/\x.cells.length=z)
   (hA:0<xs.length->∃b s,A=some ⟨b,s,none⟩/\∀(i:Nat) x (j:Nat) y,xs[i]? = some x->x.cells[j]? = some y ->
    imm b (s+i*z+j)/\w.cell? ⟨b,s+i*z+j,none⟩=some (u i j))
   (h:∀(i:Nat) x (j:Nat) y,xs[i]? = some x->x.cells[j]? = some y->Rd0 w imm (u i j) y):Rd0 w imm (.slice A xs.length c) (.H4 t xs)
 | rptr (b o:Nat) (cs:List PV) (u:Nat->Value) (hsc:cs.all PV.sc=true)
   (hA:∀(j:Nat) y,cs[j]? = some y->imm b (o+j)/\w.cell? ⟨b,o+j,none⟩=some (u j))
   (h:∀(j:Nat) y,cs[j]? = some y->Rd0 w imm (u j) y):Rd0 w imm (.pointer (some ⟨b,o,none⟩)) (.rptr cs)
 | fn (f:Fn) (vs:Array Value) (cap:List PV) (hn:vs.size=cap.length)
   (h:∀(i:Nat) v c,vs[i]? = some v->cap[i]? = some c->Rd0 w imm v c):Rd0 w imm (.func f #[] vs) (.fn f cap)
 | nilfn:Rd0 w imm .nilFunc .nilfn
 | abs (R:World->(Nat->Nat->Prop)->Value->Prop) (v:Value) (ho:one v=true) (h:∀w' imm',Ext w imm w' imm'->R w' imm' v):Rd0 w imm v (.abs R)
 | junk (v:Value):Rd0 w imm v .junk
def kL(w:World)(imm:Nat->Nat->Prop)(b:Nat)(es:List PV):Prop:=
 (∃ents clock,w.heap[b]? = some (.map ents clock)/\ents.size=es.length/\∀(i:Nat) e,ents[i]? = some e->∃k v,es[i]? = some (.tup [k,v])/\Rd0 w imm e.key k/\Rd0 w imm e.val v) \/
 ∃s pos,w.heap[b]? = some (.stringIter s pos)/\es = [.str s,.int .i64 (pos:Nat)]
variable {w:World}{imm:Nat->Nat->Prop}{v:Value}{w':World}{α:Type}{B:Nat}{a:World}
theorem kL.obj{b:Nat}{es:List PV}(h:kL w imm b es):∃o,w.heap[b]? = some o/\cZ o=true:=by
 rcases h with ⟨ents,clock,c,_⟩ | ⟨s,pos,c,_⟩;·exact⟨_,c,rfl⟩
 .exact⟨_,c,rfl⟩
abbrev MB:Nat:=5000000
theorem Rd0.mono{w:World}{imm:Nat->Nat->Prop}{w':World}{imm':Nat->Nat->Prop}
  (he:Ext w imm w' imm'){v:Value}{d:PV}(h:Rd0 w imm v d):Rd0 w' imm' v d:=by
 induction h with
 | bool b=>exact .bool b
 | int k n=>exact .int k n
 | str s=>exact .str s
 | agg vs cs hsc hn _ ih=>exact .agg vs cs hsc hn ih
 | tup vs cs hn _ ih=>exact .tup vs cs hn ih
 | H4 A c z t xs u hc ht hnil hel hA _ ih=>
  refine .H4 A c z t xs u hc ht hnil hel (λh0=>?_) ih;obtain⟨b,s,rfl,hcell⟩:=hA h0;exact⟨b,s,rfl,λi x j y hx hy=>⟨he.im _ _ (hcell i x j y hx hy).1,(he.cl _ _ (hcell i x j y hx hy).1).trans (hcell i x j y hx hy).2⟩⟩
 | rptr b o cs u hsc hA _ ih=>
  exact .rptr b o cs u hsc (λj y hy=>⟨he.im _ _ (hA j y hy).1,(he.cl _ _ (hA j y hy).1).trans (hA j y hy).2⟩) ih
 | fn f vs cap hn _ ih=>exact .fn f vs cap hn ih
 | nilfn=>exact .nilfn
 | abs R v ho h=>exact .abs R v ho λw'' imm'' h'=>h w'' imm'' (he.trans h')
 | junk v=>exact .junk v
theorem Rd0.one{d:PV}(h:Rd0 w imm v d)(hs:d.sc=true):one v=true:=by
 cases h <;> first | rfl | assumption | (simp[PV.sc] at hs)
theorem kL.mono{imm':Nat->Nat->Prop}(he:Ext w imm w' imm'){b:Nat}{es:List PV}(h:kL w imm b es)(hb:∀o,w.heap[b]? = some o->cZ o=true->w'.heap[b]? = some o):kL w' imm' b es:=by
 rcases h with ⟨ents,clock,c,p,q⟩ | ⟨s,pos,c,p⟩
 .refine .inl ⟨ents,clock,hb _ c rfl,p,λi e hi=>?_⟩;obtain⟨k,v,k1,k2,u⟩:=q i e hi;exact⟨k,v,k1,k2.mono he,u.mono he⟩
 .exact .inr ⟨s,pos,hb _ c rfl,p⟩
def aa(es:List PV)(w:World)(imm:Nat->Nat->Prop)(v:Value):Prop:=∃b,v = .map (some b)/\imm b 0/\kL w imm b es
theorem JV{es:List PV}(h:aa es w imm v):Rd0 w imm v (.abs (aa es)):=by
 obtain⟨b,rfl,c,e⟩:=h;refine .abs _ _ rfl λw' imm' he=>⟨b,rfl,he.im _ _ c,e.mono he λo p q=>he.ob _ _ _ c p q⟩
inductive Rd (w:World) (imm:Nat->Nat->Prop) (μ:Nat->L7) (u3:Nat->Prop):Value->PV->Prop
 | cl {v:Value} {d:PV} (h:Rd0 w imm v d):Rd w imm μ u3 v d
 | agg (vs:Array Value) (cs:List PV) (hsc:cs.all PV.sc=true) (hn:vs.size=cs.length)
   (h:∀(i:Nat) v c,vs[i]? = some v->cs[i]? = some c->Rd w imm μ u3 v c):Rd w imm μ u3 (.agg vs) (.agg cs)
 | tup (vs:Array Value) (cs:List PV) (hn:vs.size=cs.length)
   (h:∀(i:Nat) v c,vs[i]? = some v->cs[i]? = some c->Rd w imm μ u3 v c):Rd w imm μ u3 (.tuple vs) (.tup cs)
 | fn (f:Fn) (vs:Array Value) (cap:List PV) (hn:vs.size=cap.length)
   (h:∀(i:Nat) v c,vs[i]? = some v->cap[i]? = some c->Rd w imm μ u3 v c):Rd w imm μ u3 (.func f #[] vs) (.fn f cap)
 | sl (l:Nat) (hp:u3 l):Rd w imm μ u3 (.slice (μ l).A (μ l).n (μ l).C) (.sl l)
 | mp (l b:Nat) (hp:u3 l) (hl:MB<=l) (hA:(μ l).A=some ⟨b,0,none⟩):Rd w imm μ u3 (.map (some b)) (.mp l)
 | ptr (l i f b s:Nat) (hp:u3 l) (hA:(μ l).A=some ⟨b,s,none⟩):Rd w imm μ u3 (.pointer (some ⟨b,s+i*(μ l).z+f,none⟩)) (.ptr l i f)
theorem Rd.mono{w:World}{imm:Nat->Nat->Prop}{μ:Nat->L7}{u3:Nat->Prop}{w':World}{imm':Nat->Nat->Prop}{μ':Nat->L7}{pres':Nat->Prop}
  (he:Ext w imm w' imm')(hp:∀l,u3 l->pres' l/\μ' l=μ l){v:Value}{d:PV}(h:Rd w imm μ u3 v d):Rd w' imm' μ' pres' v d:=by
 induction h with
 | cl h=>exact .cl (h.mono he)
 | agg vs cs hsc hn _ ih=>exact .agg vs cs hsc hn ih
 | tup vs cs hn _ ih=>exact .tup vs cs hn ih
 | fn f vs cap hn _ ih=>exact .fn f vs cap hn ih
 | sl l hl=>rw[<-(hp l hl).2];exact .sl l (hp l hl).1
 | mp l b hl c hA=>exact .mp l b (hp l hl).1 c (by rw[(hp l hl).2];exact hA)
 | ptr l i f b s hl hA=>rw[<-(hp l hl).2] at hA |-;exact .ptr l i f b s (hp l hl).1 hA
theorem Rd.one{μ:Nat->L7}{u3:Nat->Prop}{d:PV}(h:Rd w imm μ u3 v d)(hs:d.sc=true):one v=true:=by
 cases h <;> first | rfl | (rename_i h;exact h.one hs) | (simp[PV.sc] at hs)
theorem uH(h:one v=true):v.cells = #[v]:=by
 cases v <;> first | rfl | (simp[one] at h)
theorem PV.gY{d:PV}(h:d.sc=true):d.cells = [d]:=by cases d <;> first | rfl | (simp[PV.sc] at h)
theorem Rd.jd{w:World}{imm:Nat->Nat->Prop}{μ:Nat->L7}{u3:Nat->Prop}{v:Value}{cs:List PV}(h:Rd w imm μ u3 v (.agg cs)) :
  ∃vs:Array Value,v = .agg vs/\vs.size=cs.length/\∀(i:Nat) v c,vs[i]? = some v->cs[i]? = some c->Rd w imm μ u3 v c:=by
 cases h with
 | cl h=>cases h with | agg vs _ hsc hn h=>exact⟨vs,rfl,hn,λi v c hv hc=>.cl (h i v c hv hc)⟩
 | agg vs _ hsc hn h=>exact⟨vs,rfl,hn,h⟩
theorem Rd.Ba{w:World}{imm:Nat->Nat->Prop}{μ:Nat->L7}{u3:Nat->Prop}{v:Value}{cs:List PV}(h:Rd w imm μ u3 v (.tup cs)) :
  ∃vs:Array Value,v = .tuple vs/\vs.size=cs.length/\∀(i:Nat) v c,vs[i]? = some v->cs[i]? = some c->Rd w imm μ u3 v c:=by
 cases h with
 | cl h=>cases h with | tup vs _ hn h=>exact⟨vs,rfl,hn,λi v c hv hc=>.cl (h i v c hv hc)⟩
 | tup vs _ hn h=>exact⟨vs,rfl,hn,h⟩
theorem Rd.Xv{w:World}{imm:Nat->Nat->Prop}{μ:Nat->L7}{u3:Nat->Prop}{v:Value}{es:List PV}(h:Rd w imm μ u3 v (.mapc es)):False:=by
 cases h with
 | cl h=>cases h
theorem Rd.cells{w:World}{imm:Nat->Nat->Prop}{μ:Nat->L7}{u3:Nat->Prop}{v:Value}{d:PV}(h:Rd w imm μ u3 v d)(hs:d.el=true) :
  v.cells.size=d.cells.length/\∀(j:Nat) u y,v.cells[j]? = some u->d.cells[j]? = some y->Rd w imm μ u3 u y:=by
 by_cases hd:d.sc=true
 .rw[uH (h.one hd),PV.gY hd];refine⟨rfl,λj u y hu hy=>?_⟩;cases j with
  | zero=>simp at hu hy;subst hu hy;exact h
  | succ j=>simp at hy
 .cases d <;> first | (exact absurd rfl hd) | (exact absurd hs hd) | (exact h.Xv.elim) | skip
  obtain⟨vs,rfl,hn,hc⟩:=h.jd;exact⟨hn,hc⟩
def PV.aP:PV->Bool
 | .sl _ | .ptr .. | .agg _ | .tup _ | .mp _=>false
 | .fn _ cap=>cap.isEmpty
 | _=>true
def PV.iD:PV->Bool
 | .agg cs | .tup cs | .fn _ cs=>cs.all PV.aP
 | d=>d.aP
theorem Rd.aP{w:World}{imm:Nat->Nat->Prop}{μ:Nat->L7}{u3:Nat->Prop}{v:Value}{d:PV}(h:Rd w imm μ u3 v d)(hs:d.aP=true):Rd0 w imm v d:=by
 cases h with
 | cl h=>exact h
 | fn f vs cap hn h=>
  have:cap = []:=by simpa[PV.aP] using hs
  subst this;exact .fn f vs [] hn λi v c _ hc=>by simp at hc
 | _=>simp[PV.aP] at hs
theorem Rd.iD{w:World}{imm:Nat->Nat->Prop}{μ:Nat->L7}{u3:Nat->Prop}{v:Value}{d:PV}(h:Rd w imm μ u3 v d)(hs:d.iD=true):Rd0 w imm v d:=by
 cases h with
 | cl h=>exact h
 | agg vs cs hsc hn h=>exact .agg vs cs hsc hn λi v c hv hc=>(h i v c hv hc).aP Δi
 | tup vs cs hn h=>exact .tup vs cs hn λi v c hv hc=>(h i v c hv hc).aP Δi
 | fn f vs cs hn h=>exact .fn f vs cs hn λi v c hv hc=>(h i v c hv hc).aP Δi
 | sl l hp=>simp[PV.iD,PV.aP] at hs
 | mp l b hp=>simp[PV.iD,PV.aP] at hs
 | ptr l i f b s hp hA=>simp[PV.iD,PV.aP] at hs
structure Row where
 els:List PV
 lo:Nat
 opn:Bool
 z:Nat
 cl:Bool
def L2(m:L7)(r:Row)(b o:Nat):Prop:=
 ∃s,m.A=some ⟨b,s,none⟩/\s+r.lo*m.z<=o/\o<s+(if r.opn then m.C else m.n)*m.z
structure qh (base:Nat) (w:World) (imm:Nat->Nat->Prop) (μ:Nat->L7) (u3:Nat->Prop) (m:L7) (r:Row):Prop where
 n:m.n=r.els.length
 z:m.z=r.z
 C:m.n<=m.C
 lo:r.lo<=m.n
 el:∀x∈r.els,x.el=true/\x.cells.length=r.z
 nil:m.A=none->m.C=0
 spot:0<m.C->∃b s,m.A=some ⟨b,s,none⟩
 cell:∀(i:Nat) x (j:Nat) y,r.els[i]? = some x->x.cells[j]? = some y->∃b s u,m.A=some ⟨b,s,none⟩/\w.cell? ⟨b,s+i*m.z+j,none⟩=some u /\
  Rd w imm μ u3 u y/\(i<r.lo->imm b (s+i*m.z+j))/\(r.cl=true->Rd0 w imm u y)
 own:∀b o,L2 m r b o->base<=b/\(w.cell? ⟨b,o,none⟩).isSome=true/\w.frozen? ⟨b,o,none⟩=false
structure lH (base:Nat) (w:World) (imm:Nat->Nat->Prop) (μ:Nat->L7) (σ:Nat->Option Row):Prop where
 at_:∀l r,MB<=l->σ l=some r->∃b es,r.els = [.mapc es]/\(μ l).A=some ⟨b,0,none⟩/\base<=b/\kL w imm b es/\(r.cl=false->∀o,¬imm b o)/\(r.cl=true->imm b 0)
 apart:∀l l' r r',MB<=l->MB<=l'->l≠l'->σ l=some r->σ l'=some r'->r.cl=false->(μ l).A≠(μ l').A
structure St where
 env:Nat->PV
 σ:Nat->Option Row
def z7(f:Nat->α)(k:Nat)(x:α):Nat->α:=λi=>if i=k then x else f i
theorem s7(f:Nat->α)(k:Nat)(x:α):z7 f k x k=x:=zc rfl
theorem r8(f:Nat->α){k i:Nat}(x:α)(h:i≠k):z7 f k x i=f i:=za h
theorem fQ(f:Nat->α){k l:Nat}(x y:α)(h:k≠l):z7 (z7 f k x) l y=z7 (z7 f l y) k x:=by
 funext i
 unfold z7;by_cases c:i=k <;> by_cases e:i=l <;> simp[c,e] <;> omega
def V1(env:Nat->PV)(dst:Option Tmp)(d:PV):Nat->PV:=
 match dst with
 | some t=>z7 env t d
 | none=>env
structure lG (B:Nat) (w w':World):Prop extends Below B w w' where
 dr:w.drawn<=w'.drawn
theorem lG.refl(B:Nat)(w:World):lG B w w:=⟨Below.refl B w,zq _⟩
theorem lG.trans{B:Nat}{a b c:World}(h:lG B a b)(k:lG B b c):lG B a c:=⟨h.toBelow.trans k.toBelow,ul h.dr k.dr⟩
def a3v:Nat:=1
def Kr(P:Program):String:=((P.globals[a3v]?).map λg=>g.name).getD "none"
def a2T:Option Nat:=some 0
def GT(P:Program)(w:World):Prop:=(∀g,P.globalNamed (Kr P)=some g->Lib.TabIs P w (Kr P) .u64 Lib.pow10Tab)/\∀g,a2T=some g->∃m,w.cell? ⟨g,0,none⟩=some (.int .i64 m)
theorem GT.heap{P:Program}(h:GT P w)(hb:∀k,k<w.heap.size->w'.heap[k]? = w.heap[k]?):GT P w':=by
 refine⟨λg p=>?_,λg p=>?_⟩
 .have e:=h.1 g p;unfold Lib.TabIs World.var? at e |-;rw[p] at e |-;simp only[zbw] at e |-;have c:g<w.heap.size:=by
   rcases zE g w.heap.size with q | q
   .exact q
   .rw[zbs q] at e;cases e
  rw[hb g c];exact e
 .obtain⟨m,hm⟩:=h.2 g p;have c:g<w.heap.size:=World.block_lt_of_cell? _ _ hm;exact⟨m,by rw[World.cell?_of_block (hb g c)];exact hm⟩
theorem GT.bel{P:Program}(h:GT P w)(c:w.heap.size<=B)(hb:lG B w w'):GT P w':=h.heap λk hk=>hb.toBelow.block k Δ
abbrev WG(P:Program):={w:World // GT P w}
structure Ctx where
 P:Program
 N:Nat
 ρ:Option Nat
 w0:World
 imm0:Nat->Nat->Prop
 ext:Nat->Value:=λ_=>undef
 obs:List (Nat × Obj):=[]
 calm:Bool:=false
 tab:GT P w0
def Ctx.val(X:Ctx)(a:Act)(i:Nat):Value:=if i<1000000 then a.tmps.getD i undef else X.ext i
structure Gh where
 imm:Nat->Nat->Prop
 μ:Nat->L7
def St.u3(st:St)(l:Nat):Prop:=∃r,st.σ l=some r
def Marks(base:Nat)(ds:List Deferred)(w:World):Prop:=
 ∃rs:List Nat,rs.Nodup/\ds=rs.map (λr=>{ target:=.collected r,args:=#[] })/\∀r∈rs,w.heap[r]? = some (.deferred (some []))/\base<=r
theorem Marks.mono{base:Nat}{ds:List Deferred}(h:Marks base ds w)(hk:∀(k:Nat) (o:Obj),w.heap[k]? = some o->o.isCells=false->w'.heap[k]? = some o):Marks base ds w':=by
 obtain⟨rs,e,p,c⟩:=h;exact⟨rs,e,p,λr hr=>⟨hk r _ (c r hr).1 rfl,(c r hr).2⟩⟩
theorem lG.mono{B':Nat}(h:lG B w w')(c:B'<=B):lG B' w w':=⟨h.toBelow.mono c,h.dr⟩
theorem lG.drew(h:lG B a w):lG B a w.drew:=⟨h.toBelow.drew,Nat.le_succ_of_le h.dr⟩
theorem lG.alloc(h:lG B a w)(c:B<=w.heap.size)(o:Obj):lG B a (w.alloc o):=⟨h.toBelow.alloc c o,h.dr⟩
theorem lG.setCell(h:lG B a w){p:Addr}(hp:B<=p.block)(u:Value):lG B a (w.setCell p u):=⟨h.toBelow.setCell hp u,h.dr⟩
structure D1 (X:Ctx) (g:Gh) (st:St) (a:Act) (w:World):Prop where
 size:a.tmps.size=X.N
 env:∀i,Rd w g.imm g.μ st.u3 (X.val a i) (st.env i)
 rows:∀l r,st.σ l=some r->qh X.w0.heap.size w g.imm g.μ st.u3 (g.μ l) r
 disj:∀l l' r r',l≠l'->st.σ l=some r->st.σ l'=some r'->∀b o,L2 (g.μ l) r b o->¬L2 (g.μ l') r' b o
 ownimm:∀l r b o,st.σ l=some r->L2 (g.μ l) r b o->¬g.imm b o
 immlt:∀b o,g.imm b o->b<w.heap.size
 immsub:∀b o,g.imm b o->X.imm0 b o\/X.w0.heap.size<=b
 immsup:∀b o,X.imm0 b o->g.imm b o
 below:lG X.w0.heap.size X.w0 w
 marks:Marks X.w0.heap.size a.defers w
 obs:∀p∈X.obs,w.heap[p.1]? = some p.2/\p.2.isCells=false/\cZ p.2=false
 big:X.N<=1000000/\(X.calm=true->a.defers = [])
 maps:lH X.w0.heap.size w g.imm g.μ st.σ
theorem D1.gt{X:Ctx}{g:Gh}{st:St}{a:Act}(h:D1 X g st a w):GT X.P w:=X.tab.bel (zq _) h.below
end Go.Pw
namespace Go.Pw
open Go.RowKit
variable{X:Ctx}{g:Gh}{st:St}{a:Act}{w:World}
theorem PV.F1{d:PV}{y:PV}{j:Nat}(h:d.cells[j]? = some y):j<d.cells.length:=by
 rcases zE j d.cells.length with h' | h'
 .exact h'
 .rw[p0 h'] at h;cases h
variable {base:Nat}{w:World}{imm:Nat->Nat->Prop}{μ:Nat->L7}{m:L7}{r:Row}{b:Nat}{w':World}{imm':Nat->Nat->Prop}{σ:Nat->Option Row}
theorem qh.Xq{u3:Nat->Prop}(h:qh base w imm μ u3 m r)
  {i j:Nat}{x y:PV}(hx:r.els[i]? = some x)(hy:x.cells[j]? = some y){s:Nat}(hA:m.A=some ⟨b,s,none⟩)(hi:¬i<r.lo):L2 m r b (s+i*m.z+j):=by
 have hlen:i<r.els.length:=by
  rcases zE i r.els.length with h' | h'
  .exact h'
  .rw[p0 h'] at hx;cases hx
 have hz:x.cells.length=m.z:=by rw[h.z];exact (h.el x (zh hx)).2
 have hj:=PV.F1 hy;rw[hz] at hj;refine⟨s,hA,?_,?_⟩
 .have:r.lo*m.z<=i*m.z:=zp _ Δ;omega
 .have hn:=h.n;have p:=h.C;have c:(i+1)*m.z<=m.n*m.z:=zp _ Δ;have e:m.n*m.z<=(if r.opn then m.C else m.n)*m.z:=zp _ ΩV;rw[un,za7] at c;omega
theorem qh.mono{u3:Nat->Prop}(h:qh base w imm μ u3 m r)
  {μ':Nat->L7}{pres':Nat->Prop}(he:Ext w imm w' imm')(hp:∀l,u3 l->pres' l/\μ' l=μ l)
  (c:∀b o,L2 m r b o->w'.cell? ⟨b,o,none⟩=w.cell? ⟨b,o,none⟩/\w'.frozen? ⟨b,o,none⟩=w.frozen? ⟨b,o,none⟩):qh base w' imm' μ' pres' m r where
 n:=h.n
 z:=h.z
 C:=h.C
 lo:=h.lo
 el:=h.el
 nil:=h.nil
 spot:=h.spot
 cell i x j y hx hy:=by
  obtain⟨b,s,u,hA,hc,hr,hi,hcl⟩:=h.cell i x j y hx hy
  refine⟨b,s,u,hA,?_,hr.mono he hp,λq=>he.im _ _ (hi q),λq=>(hcl q).mono he⟩
  by_cases hlo:i<r.lo
  .rw[he.cl _ _ (hi hlo)];exact hc
  .rw[(c _ _ (h.Xq hx hy hA hlo)).1];exact hc
 own b o ho:=by
  obtain⟨e,p,A⟩:=h.own b o ho
  obtain⟨k1,k2⟩:=c b o ho
  exact⟨e,by rw[k1];exact p,by rw[k2];exact A⟩
theorem lH.move(h:lH base w imm μ σ)(he:Ext w imm w' imm')
  (c:∀b o x,imm' b o->w.heap[b]? = some x->cZ x=true->imm b o)(hk:∀(k:Nat) (o:Obj),w.heap[k]? = some o->cZ o=true->w'.heap[k]? = some o):lH base w' imm' μ σ where
 at_ l r hl hr:=by
  obtain⟨b,es,p,s,u,e,A,C⟩:=h.at_ l r hl hr
  refine⟨b,es,p,s,u,e.mono he λo F G=>hk b o F G,λq o k=>?_,λq=>he.im _ _ (C q)⟩
  obtain⟨x,k1,k2⟩:=e.obj
  exact A q o (c b o _ k k1 k2)
 apart:=h.apart
theorem oP{u3:Nat->Prop}(h:qh base w imm μ u3 m r){o:Nat}(ho:L2 m r b o){x:Obj}(hx:w.heap[b]? = some x):cZ x=false:=by
 obtain⟨_,c,_⟩:=h.own b o ho;obtain⟨u,hu⟩:=zap.1 c;obtain⟨e,k1,k2⟩:=cells_of_cell hu;simp only at k1;rw[hx] at k1;cases k1;cases x <;> first | rfl | cases k2
theorem lH.z7(h:lH base w imm μ σ){l:Nat}{r':Row}(hl:σ l=some r)(he:MB<=l->r'.els=r.els)(hc:MB<=l->r'.cl=r.cl):lH base w imm μ (z7 σ l (some r')) where
 at_ l' q c hr:=by
  by_cases e:l'=l
  .subst e
   rw[s7] at hr
   cases hr
   obtain⟨b,es,p,s⟩:=h.at_ l' r c hl
   exact⟨b,es,by rw[he c];exact p,by rw[hc c];exact s⟩
  .rw[r8 _ _ e] at hr
   exact h.at_ l' q c hr
 apart l1 A R S p s u G H N:=by
  have f:∀l' q,MB<=l'->Pw.z7 σ l (some r') l'=some q->∃C,σ l'=some C/\C.cl=q.cl:=λl' q c hr=>by
   by_cases e:l'=l
   .subst e
    rw[s7] at hr
    cases hr
    exact⟨r,hl,(hc c).symm⟩
   .rw[r8 _ _ e] at hr
    exact⟨q,hr,rfl⟩
  obtain⟨s1,k1,k2⟩:=f l1 R p G
  obtain⟨s2,F,_⟩:=f A S s H
  exact h.apart l1 A s1 s2 p s u k1 F (by rw[k2];exact N)
theorem lH.new(h:lH base w imm μ σ){l:Nat}{r:Option Row}(hl:l<MB):lH base w imm (Pw.z7 μ l m) (Pw.z7 σ l r) where
 at_ l' q c hr:=by
  have e:l'≠l:=λe=>by subst e;exact absurd hl (Nat.not_lt.2 c)
  rw[r8 _ _ e] at hr |-
  exact h.at_ l' q c hr
 apart l1 F R S A C p G H N:=by
  have s:l1≠l:=λe=>by subst e;exact absurd hl (Nat.not_lt.2 A)
  have u:F≠l:=λe=>by subst e;exact absurd hl (Nat.not_lt.2 C)
  rw[r8 _ _ s] at G
  rw[r8 _ _ u] at H
  rw[r8 _ _ s,r8 _ _ u]
  exact h.apart l1 F R S A C p G H N
theorem D1.move(h:D1 X g st a w)(he:Ext w g.imm w' imm')
  (c:∀l r b o,st.σ l=some r->L2 (g.μ l) r b o->w'.cell? ⟨b,o,none⟩=w.cell? ⟨b,o,none⟩/\w'.frozen? ⟨b,o,none⟩=w.frozen? ⟨b,o,none⟩/\¬imm' b o)
  (s:∀b o,imm' b o->b<w'.heap.size)(e:∀b o,imm' b o->X.imm0 b o\/X.w0.heap.size<=b)(hb:lG X.w0.heap.size X.w0 w')
  (hk:∀(k:Nat) (o:Obj),w.heap[k]? = some o->o.isCells=false->w'.heap[k]? = some o)
  (u:∀b o x,imm' b o->w.heap[b]? = some x->cZ x=true->g.imm b o):D1 X ⟨imm',g.μ⟩ st a w' where
 size:=h.size
 env i:=(h.env i).mono he λ_ hl=>⟨hl,rfl⟩
 rows l r hl:=(h.rows l r hl).mono he (λ_ hl=>⟨hl,rfl⟩) λb o ho=>⟨(c l r b o hl ho).1,(c l r b o hl ho).2.1⟩
 disj:=h.disj
 ownimm l r b o hl ho:=(c l r b o hl ho).2.2
 immlt:=s
 immsub:=e
 immsup b o q:=he.im _ _ (h.immsup b o q)
 below:=hb
 marks:=h.marks.mono hk
 obs p hp:=⟨hk _ _ (h.obs p hp).1 (h.obs p hp).2.1,(h.obs p hp).2⟩
 big:=h.big
 maps:=h.maps.move he u λk o A C=>hk k o A (O6 C)
theorem D1.da(h:D1 X g st a w){l:Nat}(hl:st.σ l=some r){o:Nat}(ho:L2 (g.μ l) r b o):X.w0.heap.size<=b/\b<w.heap.size:=by
 obtain⟨c,e,_⟩:=(h.rows l r hl).own b o ho;obtain⟨u,hu⟩:=zap.1 e;exact⟨c,World.block_lt_of_cell? _ _ hu⟩
theorem Ext.alloc(c:∀b o,imm b o->b<w.heap.size)(o:Obj):Ext w imm (w.alloc o) imm where
 im _ _ h:=h
 cl b i h:=World.cell?_alloc_lt _ _ _ (c b i h)
 ob b i x h hx _:=(Below.heap_alloc w o b (c b i h)).trans hx
theorem D1.alloc(h:D1 X g st a w)(o:Obj):D1 X g st a (w.alloc o):=
 h.move (Ext.alloc h.immlt o) (λl r b i hl ho=>⟨World.cell?_alloc_lt _ _ _ (h.da hl ho).2,World.frozen?_alloc_old _ _ _ (Nat.ne_of_lt (h.da hl ho).2),h.ownimm l r b i hl ho⟩)
  (λb i q=>by rw[World.size_alloc];exact Nat.lt_succ_of_lt (h.immlt b i q)) h.immsub (h.below.alloc h.below.size o) (KeepsOthers.alloc w o).same (λ_ _ _ q _ _=>q)
theorem D1.drew(h:D1 X g st a w):D1 X g st a w.drew:=
 h.move ⟨λ_ _ q=>q,λ_ _ _=>rfl,λ_ _ _ _ q _=>q⟩ (λl r b i hl ho=>⟨rfl,rfl,h.ownimm l r b i hl ho⟩) h.immlt h.immsub h.below.drew (λ_ _ q _=>q) (λ_ _ _ q _ _=>q)
theorem D1.put(h:D1 X g st a w){v:Value}{d:PV}{dst:Option Tmp}(hd:∀t,dst=some t->t<X.N)(hv:Rd w g.imm g.μ st.u3 v d) :
  D1 X g ⟨V1 st.env dst d,st.σ⟩ (a.put dst v) w:=by
 cases dst with
 | none=>exact⟨h.size,h.env,h.rows,h.disj,h.ownimm,h.immlt,h.immsub,h.immsup,h.below,h.marks,h.obs,h.big,h.maps⟩
 | some t=>
  have ht:=hd t rfl;rw[<-h.size] at ht;refine⟨by simpa[Act.put] using h.size,λi=>?_,h.rows,h.disj,h.ownimm,h.immlt,h.immsub,h.immsup,h.below,h.marks,h.obs,h.big,h.maps⟩;simp only[V1,z7];by_cases p:i<1000000
  .have c:=h.env i;simp only[Ctx.val,Act.put,zc p] at c |-;by_cases hi:i=t
   .subst hi;rw[zc rfl];simp only[zL,zah,wd,ht];exact hv
   .rw[za hi];simp only[zL,zah,za (zav hi)];rw[<-zL];exact c
  .have c:=h.env i;simp only[Ctx.val,za p] at c |-;have hi:i≠t:=λe=>absurd (zbm (hd t rfl) h.big.1) (by subst e;exact p);rw[za hi];exact c
theorem D1.row(h:D1 X g st a w){l:Nat}(s:l<MB)(hl:st.σ l=none)(hr:qh X.w0.heap.size w g.imm g.μ st.u3 m r)
  (hd:∀l' r' b o,st.σ l'=some r'->L2 (g.μ l') r' b o->¬L2 m r b o)(hi:∀b o,L2 m r b o->¬g.imm b o) :
  D1 X ⟨g.imm,z7 g.μ l m⟩ ⟨st.env,z7 st.σ l (some r)⟩ a w:=by
 have hp:∀l',st.u3 l'->St.u3 ⟨st.env,z7 st.σ l (some r)⟩ l'/\z7 g.μ l m l'=g.μ l':=by
  rintro l' ⟨r',p⟩;have c:l'≠l:=λe=>by subst e;rw[hl] at p;cases p
  exact⟨⟨r',by simpa[r8 _ _ c] using p⟩,r8 _ _ c⟩
 have hcase:∀l' r',z7 st.σ l (some r) l'=some r'->(l'=l/\r'=r)\/(l'≠l/\st.σ l'=some r'):=by
  intro l' r' q;by_cases e:l'=l
  .subst e;rw[s7] at q;cases q;exact .inl ⟨rfl,rfl⟩
  .rw[r8 _ _ e] at q;exact .inr ⟨e,q⟩
 refine⟨h.size,λi=>(h.env i).mono (Ext.refl _ _) hp,λl' r' q=>?_,λl1 F G H c N R b o ho=>?_,λl' r' b o q ho=>?_,h.immlt,h.immsub,h.immsup,h.below,h.marks,h.obs,h.big,h.maps.new s⟩
 .rcases hcase l' r' q with ⟨rfl,rfl⟩ | ⟨e,u⟩
  .simp only[s7];exact hr.mono (Ext.refl _ _) hp λ_ _ _=>⟨rfl,rfl⟩
  .simp only[r8 _ _ e];exact (h.rows l' r' u).mono (Ext.refl _ _) hp λ_ _ _=>⟨rfl,rfl⟩
 .rcases hcase l1 G N with ⟨rfl,rfl⟩ | ⟨A,q1'⟩ <;> rcases hcase F H R with ⟨rfl,rfl⟩ | ⟨C,q2'⟩
  .exact absurd rfl c
  .simp only[s7,r8 _ _ C] at ho |-;exact λk=>hd _ _ b o q2' k ho
  .simp only[s7,r8 _ _ A] at ho |-;exact hd _ _ b o q1' ho
  .simp only[r8 _ _ A,r8 _ _ C] at ho |-;exact h.disj l1 F G H c q1' q2' b o ho
 .rcases hcase l' r' q with ⟨rfl,rfl⟩ | ⟨e,u⟩
  .simp only[s7] at ho;exact hi b o ho
  .simp only[r8 _ _ e] at ho;exact h.ownimm l' r' b o u ho
theorem D1.xN(h:D1 X g st a w){l:Nat}{els:List PV}{T C z:Nat}{opn cl:Bool}(cs:Array Value)(F:l<MB)(hl:st.σ l=none)
  (S:els.length<=C)(p:cs.size=C*z)(hel:∀x∈els,x.el=true/\x.cells.length=z)
  (hcell:∀(i:Nat) x (j:Nat) y u,els[i]? = some x->x.cells[j]? = some y->cs[i*z+j]? = some u->Rd w g.imm g.μ st.u3 u y/\(cl=true->Rd0 w g.imm u y)) :
  D1 X ⟨g.imm,z7 g.μ l ⟨some ⟨w.heap.size,0,none⟩,els.length,C,z⟩⟩ ⟨st.env,z7 st.σ l (some ⟨els,0,opn,z,cl⟩)⟩ a (w.alloc (.cells cs T)):=by
 have N:=h.alloc (.cells cs T);have c:∀b o,L2 ⟨some ⟨w.heap.size,0,none⟩,els.length,C,z⟩ ⟨els,0,opn,z,cl⟩ b o->b=w.heap.size/\o<cs.size:=by
  rintro b o ⟨s,hA,V,R⟩;simp only[sm,Addr.mk.injEq] at hA;obtain⟨rfl,rfl,_⟩:=hA;refine⟨rfl,?_⟩;have:(if opn then C else els.length)*z<=C*z:=zp _ ΩV;rw[p];simp only at R;omega
 refine N.row F hl ?_ ?_ ?_
 .refine⟨rfl,rfl,S,rg _,hel,(λq=>Γ),λ_=>⟨_,_,rfl⟩,λi x j y hx hy=>?_,λb o ho=>?_⟩
  .have hi:i<els.length:=by
    rcases zE i els.length with q | q
    .exact q
    .rw[p0 q] at hx;cases hx
   have hj:j<z:=by rw[<-(hel x (zh hx)).2];exact PV.F1 hy
   have G:i*z+j<cs.size:=by
    have:(i+1)*z<=C*z:=zp _ Δ;rw[un,za7] at this;omega
   have hu:cs[i*z+j]? = some cs[i*z+j]:=zu G;have hr:=hcell i x j y _ hx hy hu;have e:Ext w g.imm (w.alloc (.cells cs T)) g.imm:=Ext.alloc h.immlt _;refine⟨w.heap.size,0,cs[i*z+j],rfl,?_,hr.1.mono e λ_ q=>⟨q,rfl⟩,λq=>absurd q (zco _),λq=>(hr.2 q).mono e⟩;rw[zci,m7];exact hu
  .obtain⟨rfl,H⟩:=c b o ho;refine⟨h.below.size,?_,?_⟩;·rw[zci];simp[H]
   .simp
 .intro l' r' b o A ho k;have:=(h.da A ho).2;have:=(c b o k).1;omega
 .intro b o ho q;have:=h.immlt b o q;have:=(c b o ho).1;omega
end Go.Pw
namespace Go.Pw
open Go.RowKit
variable{X:Ctx}{g:Gh}{st:St}{a:Act}{w:World}
theorem G7(b:Nat):∀(vs:List Value) (o:Nat) (w:World),KeepsOthers w (w.setCells b o vs)
 | [],_,w=>KeepsOthers.refl w
 | _::r,o,w=>(KeepsOthers.setCell w _ _).trans (G7 b r (o+1) _)
theorem size_setCells(b:Nat):∀(vs:List Value) (o:Nat) (w:World),(w.setCells b o vs).heap.size=w.heap.size
 | [],_,_=>rfl
 | _::r,o,w=>by rw[World.setCells,size_setCells b r,World.size_setCell]
theorem eZ{B:Nat}{w0:World}(b:Nat)(hb:B<=b):∀(vs:List Value) (o:Nat) (w:World),lG B w0 w->lG B w0 (w.setCells b o vs)
 | [],_,_,h=>h
 | _::r,o,_,h=>eZ b hb r (o+1) _ (h.setCell (p:=⟨b,o,none⟩) hb _)
theorem GG(v:Value):one v=v.oneCell':=by cases v <;> rfl
theorem D4{α:Type}{l:List α}{i:Nat}{x:α}(h:l[i]? = some x):i<l.length:=by
 rcases zE i l.length with q | q
 .exact q
 .rw[p0 q] at h;cases h
theorem D1.write(h:D1 X g st a w){l:Nat}{r:Row}{b o:Nat}{vs:List Value}{els:List PV}{cl:Bool}(hl:st.σ l=some r)
  (hmine:∀j,j<vs.length->L2 (g.μ l) r b (o+j))(hlen:els.length=r.els.length)(hel:∀x∈els,x.el=true/\x.cells.length=r.z)
  (hcell:∀(i:Nat) x (j:Nat) y,els[i]? = some x->x.cells[j]? = some y->∃c s u,(g.μ l).A=some ⟨c,s,none⟩ /\
   (w.setCells b o vs).cell? ⟨c,s+i*(g.μ l).z+j,none⟩=some u/\Rd w g.imm g.μ st.u3 u y/\(i<r.lo->g.imm c (s+i*(g.μ l).z+j))/\(cl=true->Rd0 w g.imm u y))
  (F:0<vs.length) :
  D1 X g ⟨st.env,z7 st.σ l (some { r with els:=els,cl:=cl })⟩ a (w.setCells b o vs):=by
 have hmine':∀x,o<=x->x<o+vs.length->L2 (g.μ l) r b x:=λx S V=>by
  have:=hmine (x-o) Δ;rwa [show o+(x-o)=x by omega] at this
 have hb:X.w0.heap.size<=b:=(h.da hl (hmine 0 F)).1;have H:∀c o',¬L2 (g.μ l) r c o'->(w.setCells b o vs).cell? ⟨c,o',none⟩=w.cell? ⟨c,o',none⟩:=λc o' hn=>
  me b vs o w ⟨c,o',none⟩ λe _=>by
   simp only at e |-;subst e;rcases zE o' o with q | q
   .exact .inl q
   .rcases zE o' (o+vs.length) with N | N
    .exact absurd (hmine' o' q N) hn
    .exact .inr N
 have hx:Ext w g.imm (w.setCells b o vs) g.imm:=⟨λ_ _ q=>q,λc o' q=>H c o' λk=>h.ownimm l r c o' hl k q,
  λk _ x _ hx hc=>(G7 b vs o w).same k x hx (O6 hc)⟩
 have hp:∀l',st.u3 l'->St.u3 ⟨st.env,z7 st.σ l (some { r with els:=els,cl:=cl })⟩ l'/\g.μ l'=g.μ l':=by
  rintro l' ⟨r',hr'⟩;refine⟨?_,rfl⟩;by_cases e:l'=l
  .exact⟨_,ΩU⟩
  .exact⟨r',by rw[show (St.mk st.env (z7 st.σ l (some { r with els:=els,cl:=cl }))).σ l'=st.σ l' from r8 _ _ e];exact hr'⟩
 have hcase:∀l' r',z7 st.σ l (some { r with els:=els,cl:=cl }) l'=some r'->(l'=l/\r'={ r with els:=els,cl:=cl })\/(l'≠l/\st.σ l'=some r'):=by
  intro l' r' q;by_cases e:l'=l
  .subst e;rw[s7] at q;cases q;exact .inl ⟨rfl,rfl⟩
  .rw[r8 _ _ e] at q;exact .inr ⟨e,q⟩
 have G:=h.rows l r hl;have nomap:MB<=l->False:=λq=>by
  obtain⟨c,es,S,_⟩:=h.maps.at_ l r q hl;have hz:r.z=0:=by
   have:=(G.el (.mapc es) (by rw[S];exact zm ..)).2;rw[<-this];rfl
  obtain⟨s,_,k1,k2⟩:=hmine 0 F;rw[G.z,hz] at k1 k2;simp only[Nat.mul_zero] at k1 k2;omega
 refine⟨h.size,λi=>(h.env i).mono hx hp,λl' r' q=>?_,λl1 l2 r1 r2 F q1 q2 c o' ho=>?_,λl' r' c o' q ho=>?_,
  λc o' q=>by rw[size_setCells];exact h.immlt c o' q,h.immsub,h.immsup,eZ b hb vs o w h.below,h.marks.mono (G7 b vs o w).same,λp R=>⟨(G7 b vs o w).same _ _ (h.obs p R).1 (h.obs p R).2.1,(h.obs p R).2⟩,h.big,
  (h.maps.move hx (λ_ _ _ q _ _=>q) λk o q1 q2=>(G7 b vs _ w).same k o q1 (O6 q2)).z7 hl (λq=>(nomap q).elim) λq=>(nomap q).elim⟩
 .rcases hcase l' r' q with ⟨rfl,rfl⟩ | ⟨e,N⟩
  .refine⟨by rw[G.n];exact hlen.symm,G.z,G.C,G.lo,hel,G.nil,G.spot,λi x j y hx' hy=>?_,λc o' ho=>?_⟩
   .obtain⟨c,s,u,S,V,h3,h4,h5⟩:=hcell i x j y hx' hy;exact⟨c,s,u,S,V,h3.mono hx hp,h4,λq=>(h5 q).mono hx⟩
   .obtain⟨S,V,h3⟩:=G.own c o' ho;refine⟨S,?_,by rw[zbe];exact h3⟩;by_cases q:c=b/\o<=o'/\o'<o+vs.length
    .obtain⟨rfl,q1,q2⟩:=q;have:=zad c vs o w (λj hj=>(G.own c (o+j) (hmine j hj)).2.1) (o'-o) Δ;rw[show o+(o'-o)=o' by omega] at this;rw[this];rfl
    .rw[me b vs o w ⟨c,o',none⟩ λe _=>by simp only at e |-;omega];exact V
  .refine (h.rows l' r' N).mono hx hp λc o' ho=>⟨H c o' λk=>h.disj l' l r' r e N hl c o' ho k,zbe b vs o w _⟩
 .rcases hcase l1 r1 q1 with ⟨rfl,rfl⟩ | ⟨e1,q1'⟩ <;> rcases hcase l2 r2 q2 with ⟨rfl,rfl⟩ | ⟨e2,q2'⟩
  .exact absurd rfl F
  .exact λk=>h.disj l1 l2 r r2 F hl q2' c o' ho k
  .exact λk=>h.disj l1 l2 r1 r F q1' hl c o' ho k
  .exact h.disj l1 l2 r1 r2 F q1' q2' c o' ho
 .rcases hcase l' r' q with ⟨rfl,rfl⟩ | ⟨e,N⟩;·exact h.ownimm l' r c o' hl ho
  .exact h.ownimm l' r' c o' N ho
def lQ(σ:Nat->Option Row)(l:Nat):Nat->Option Row:=
 match σ l with
 | some r=>z7 σ l (some { r with lo:=r.els.length })
 | none=>σ
def T0(σ:Nat->Option Row)(ls:List Nat):Nat->Option Row:=ls.foldl lQ σ
def qu(g:Gh)(σ:Nat->Option Row)(l lo:Nat):Nat->Nat->Prop:=
 λb o=>g.imm b o\/∃r s,σ l=some r/\L2 (g.μ l) r b o/\(g.μ l).A=some ⟨b,s,none⟩/\o<s+lo*(g.μ l).z
theorem D1.pM(h:D1 X g st a w){l:Nat}{r:Row}(hl:st.σ l=some r)(lo:Nat)(h1:r.lo<=lo)(h2:lo<=r.els.length)(opn:Bool)(hop:opn=true->r.opn=true) :
  D1 X ⟨qu g st.σ l lo,g.μ⟩ ⟨st.env,z7 st.σ l (some { r with lo:=lo,opn:=opn })⟩ a w:=by
 have F:=h.rows l r hl;have hx:Ext w g.imm w (qu g st.σ l lo):=⟨λ_ _ q=>.inl q,λ_ _ _=>rfl,λ_ _ _ _ q _=>q⟩;have hp:∀l',st.u3 l'->St.u3 ⟨st.env,z7 st.σ l (some { r with lo:=lo,opn:=opn })⟩ l'/\g.μ l'=g.μ l':=by
  rintro l' ⟨r',hr'⟩;refine⟨?_,rfl⟩;by_cases e:l'=l
  .exact⟨_,ΩU⟩
  .exact⟨r',by rw[show (St.mk st.env (z7 st.σ l (some { r with lo:=lo,opn:=opn }))).σ l'=st.σ l' from r8 _ _ e];exact hr'⟩
 have hcase:∀l' r',z7 st.σ l (some { r with lo:=lo,opn:=opn }) l'=some r'->(l'=l/\r'={ r with lo:=lo,opn:=opn })\/(l'≠l/\st.σ l'=some r'):=by
  intro l' r' q;by_cases e:l'=l
  .subst e;rw[s7] at q;cases q;exact .inl ⟨rfl,rfl⟩
  .rw[r8 _ _ e] at q;exact .inr ⟨e,q⟩
 have p:∀b o,L2 (g.μ l) { r with lo:=lo,opn:=opn } b o->L2 (g.μ l) r b o/\∀s,(g.μ l).A=some ⟨b,s,none⟩->s+lo*(g.μ l).z<=o:=by
  rintro b o ⟨s,hA,k1,k2⟩;have e1:r.lo*(g.μ l).z<=lo*(g.μ l).z:=zp _ h1;have e2:(if opn then (g.μ l).C else (g.μ l).n)*(g.μ l).z<=(if r.opn then (g.μ l).C else (g.μ l).n)*(g.μ l).z:=zp _ (by
   have:=F.C;cases opn;·simp only[zj,wf];split <;> omega
   .rw[hop rfl];exact zq _)
  simp only at k1 k2;refine⟨⟨s,hA,Δ,Δ⟩,λs' S=>?_⟩;rw[hA] at S;cases S;exact k1
 refine⟨h.size,λi=>(h.env i).mono hx hp,λl' r' q=>?_,λl1 l2 r1 N H q1 q2 R o' ho=>?_,λl' r' R o' q ho=>?_,
  λb o q=>?_,λb o q=>?_,λb o q=>.inl (h.immsup b o q),h.below,h.marks,h.obs,h.big,
  (h.maps.move hx (λb o x q G hm=>q.elim id λ⟨N,s,c,k,_,_⟩=>by rw[oP (h.rows l N c) k G] at hm;cases hm) (λ_ _ q _=>q)).z7 hl (λ_=>rfl) λ_=>rfl⟩
 .rcases hcase l' r' q with ⟨rfl,rfl⟩ | ⟨e,V⟩
  .refine⟨F.n,F.z,F.C,by rw[F.n];exact h2,F.el,F.nil,F.spot,λi x j y G hy=>?_,λb o ho=>F.own b o (p b o ho).1⟩;obtain⟨b,s,u,k1,k2,k3,k4,k5⟩:=F.cell i x j y G hy;refine⟨b,s,u,k1,k2,k3.mono hx hp,λhi'=>?_,λq=>(k5 q).mono hx⟩;by_cases hi:i<r.lo
   .exact .inl (k4 hi)
   .refine .inr ⟨r,s,hl,F.Xq G hy k1 hi,k1,?_⟩;have hz:x.cells.length=(g.μ l').z:=by rw[F.z];exact (F.el x (zh G)).2
    have hj:=PV.F1 hy;simp only at hi';have:(i+1)*(g.μ l').z<=lo*(g.μ l').z:=zp _ Δ;rw[un,za7] at this;show s+i*(g.μ l').z+j<s+lo*(g.μ l').z;omega
  .exact (h.rows l' r' V).mono hx hp λ_ _ _=>⟨rfl,rfl⟩
 .rcases hcase l1 r1 q1 with ⟨rfl,rfl⟩ | ⟨e1,q1'⟩ <;> rcases hcase l2 N q2 with ⟨rfl,rfl⟩ | ⟨e2,q2'⟩
  .exact absurd rfl H
  .exact λk=>h.disj l1 l2 r N H hl q2' R o' (p _ _ ho).1 k
  .exact λk=>h.disj l1 l2 r1 r H q1' hl R o' ho (p _ _ k).1
  .exact h.disj l1 l2 r1 N H q1' q2' R o' ho
 .rintro (k | ⟨N,s,c,k,kA,k'⟩)
  .rcases hcase l' r' q with ⟨rfl,rfl⟩ | ⟨e,V⟩;·exact h.ownimm l' r R o' hl (p _ _ ho).1 k
   .exact h.ownimm l' r' R o' V ho k
  .rw[hl] at c;cases c;rcases hcase l' r' q with ⟨rfl,rfl⟩ | ⟨e,V⟩
   .have:=(p _ _ ho).2 s kA;omega
   .exact h.disj l' l r' r e V hl R o' ho k
 .rcases q with q | ⟨N,s,c,k,_,_⟩
  .exact h.immlt b o q
  .rw[hl] at c;cases c;exact (h.da hl k).2
 .rcases q with q | ⟨N,s,c,k,_,_⟩
  .exact h.immsub b o q
  .rw[hl] at c;cases c;exact .inr (h.da hl k).1
def Shown(imm:Nat->Nat->Prop)(m:L7)(r:Row):Prop:=
 ∀(i:Nat) x (j:Nat) y b s,r.els[i]? = some x->x.cells[j]? = some y->m.A=some ⟨b,s,none⟩->imm b (s+i*m.z+j)
theorem D1.T0(h:D1 X g st a w):∀(ls:List Nat),∃imm',D1 X ⟨imm',g.μ⟩ ⟨st.env,Pw.T0 st.σ ls⟩ a w/\Ext w g.imm w imm' /\
  ∀l∈ls,∀r,st.σ l=some r->Shown imm' (g.μ l) r:=by
 intro ls;induction ls generalizing g st with
 | nil=>exact⟨g.imm,h,Ext.refl _ _,λ_ q=>by simp at q⟩
 | cons l ls ih=>
  cases hl:st.σ l with
  | none=>
   have e:Pw.T0 st.σ (l::ls)=Pw.T0 st.σ ls:=by simp[Pw.T0,lQ,hl]
   obtain⟨imm',h1,C,F⟩:=ih h;refine⟨imm',ΩO,C,λl' q r hr=>?_⟩;rcases zV.1 q with rfl | q
   .rw[hl] at hr;cases hr
   .exact F l' q r hr
  | some r=>
   have e:Pw.T0 st.σ (l::ls)=Pw.T0 (z7 st.σ l (some { r with lo:=r.els.length,opn:=r.opn })) ls:=by simp[Pw.T0,lQ,hl]
   have h0:=h.pM hl r.els.length (by have:=(h.rows l r hl).lo;have:=(h.rows l r hl).n;omega) (zq _) r.opn id;obtain⟨imm',h1,C,F⟩:=ih h0;have hx:Ext w g.imm w (qu g st.σ l r.els.length):=⟨λ_ _ q=>.inl q,λ_ _ _=>rfl,λ_ _ _ _ q _=>q⟩;refine⟨imm',ΩO,hx.trans C,λl' q r' hr=>?_⟩;have hself:∀G,st.σ l=some G->Shown imm' (g.μ l) G:=by
    intro G c i x j y b s A hy hA;rw[hl] at c;cases c;have p:=h0.rows l { r with lo:=r.els.length,opn:=r.opn } (s7 _ _ _);obtain⟨N,s',u,k1,_,_,H,_⟩:=p.cell i x j y A hy;rw[hA] at k1;cases k1;exact C.im _ _ (H (D4 A))
   by_cases el:l'=l
   .subst el;exact hself r' hr
   .rcases zV.1 q with q | q
    .exact absurd q el
    .exact F l' q r' (by rw[show (St.mk st.env (z7 st.σ l (some { r with lo:=r.els.length,opn:=r.opn }))).σ l'=st.σ l' from r8 _ _ el];exact hr)
def PV.v0(σ:Nat->Option Row):PV->PV
 | .sl l=>match σ l with
  | some r=>.H4 false r.els
  | none=>.junk
 | d=>d
def PV.eN(σ:Nat->Option Row):PV->Bool
 | .sl l=>match σ l with
  | some r=>r.cl
  | none=>false
 | d=>d.aP
def PV.dh:PV->List Nat
 | .sl l=>[l]
 | _=>[]
def PV.v2(σ:Nat->Option Row):PV->PV
 | .ptr l i f=>match σ l with
  | some r=>match r.els[i]? with
   | some x=>.rptr ((x.cells.drop f).map (PV.v0 σ))
   | none=>.junk
  | none=>.junk
 | d=>d.v0 σ
def PV.nF(σ:Nat->Option Row):PV->Bool
 | .ptr l i f=>match σ l with
  | some r=>match r.els[i]? with
   | some x=>(x.cells.drop f).all λy=>y.eN σ&&y.sc
   | none=>false
  | none=>false
 | d=>d.eN σ
def PV.T7(σ:Nat->Option Row):PV->List Nat
 | .ptr l i f=>l::(match σ l with
  | some r=>match r.els[i]? with
   | some x=>(x.cells.drop f).flatMap PV.dh
   | none=>[]
  | none=>[])
 | d=>d.dh
def PV.v3(σ:Nat->Option Row):PV->PV
 | .agg cs=>.agg (cs.map (PV.v0 σ))
 | .fn f cap=>.fn f (cap.map (PV.v2 σ))
 | d=>d.v2 σ
def PV.pF(σ:Nat->Option Row):PV->Bool
 | .agg cs=>cs.all λy=>y.eN σ&&y.sc
 | .fn _ cap=>cap.all (PV.nF σ)
 | d=>d.nF σ
def PV.aO(σ:Nat->Option Row):PV->List Nat
 | .agg cs=>cs.flatMap PV.dh
 | .fn _ cap=>cap.flatMap (PV.T7 σ)
 | d=>d.T7 σ
def PV.view(σ:Nat->Option Row):PV->PV
 | .tup cs=>.tup (cs.map (PV.v3 σ))
 | d=>d.v3 σ
def PV.nI(σ:Nat->Option Row):PV->Bool
 | .tup cs=>cs.all (PV.pF σ)
 | d=>d.pF σ
def PV.P1(σ:Nat->Option Row):PV->List Nat
 | .tup cs=>cs.flatMap (PV.aO σ)
 | d=>d.aO σ
theorem PV.Zx{σ:Nat->Option Row}{d:PV}(h:d.eN σ=true)(hs:d.sc=true):(d.v0 σ).sc=true:=by
 cases d <;> first | (exact hs) | skip
 rename_i l;simp only[PV.v0,PV.eN] at *;cases hl:σ l with
 | none=>rw[hl] at h;cases h
 | some r=>rfl
section
variable{imm2:Nat->Nat->Prop}{v:Value}{d:PV}
theorem D1.v0(h:D1 X g st a w)(hx:Ext w g.imm w imm2)(hr:Rd w g.imm g.μ st.u3 v d)(hok:d.eN st.σ=true)
  (hs:∀l∈d.dh,∀r,st.σ l=some r->Shown imm2 (g.μ l) r):Rd0 w imm2 v (d.v0 st.σ):=by
 by_cases hd:∃l,d = .sl l
 .obtain⟨l,rfl⟩:=hd;cases hr with
  | cl h=>cases h
  | sl _ hp=>
   obtain⟨r,hl⟩:=hp;have c:=h.rows l r hl;simp only[PV.v0,hl];simp only[PV.eN,hl] at hok;rw[c.n];refine .H4 (g.μ l).A (g.μ l).C (g.μ l).z false r.els (λi j=>match (g.μ l).A with | some ⟨b,s,_⟩=>(w.cell? ⟨b,s+i*(g.μ l).z+j,none⟩).getD undef | none=>undef)
    (by rw[<-c.n];exact c.C) (λq=>Γ) c.nil (λx q=>by rw[c.z];exact c.el x q) (λh0=>?_) (λi x j y p hy=>?_)
   .obtain⟨b,s,hA⟩:=c.spot (by have:=c.C;have:=c.n;omega);refine⟨b,s,hA,λi x j y p hy=>⟨hs l (by simp[PV.dh]) r hl i x j y b s p hy hA,?_⟩⟩;obtain⟨F,s',u,k1,k2,_⟩:=c.cell i x j y p hy;rw[hA] at k1;cases k1;rw[hA];simp only[k2,wp]
   .obtain⟨F,s',u,k1,k2,_,_,H⟩:=c.cell i x j y p hy;rw[k1];simp only[k2,wp];exact (H hok).mono hx
 .have e:d.v0 st.σ=d:=by cases d <;> first | rfl | exact absurd ⟨_,rfl⟩ hd
  have G:d.eN st.σ=d.aP:=by cases d <;> first | rfl | exact absurd ⟨_,rfl⟩ hd
  rw[e];rw[G] at hok;exact (hr.aP hok).mono hx
theorem D1.v2(h:D1 X g st a w)(hx:Ext w g.imm w imm2)(hr:Rd w g.imm g.μ st.u3 v d)(hok:d.nF st.σ=true)
  (hs:∀l∈d.T7 st.σ,∀r,st.σ l=some r->Shown imm2 (g.μ l) r):Rd0 w imm2 v (d.v2 st.σ):=by
 by_cases hd:∃l i f,d = .ptr l i f
 .obtain⟨l,i,f,rfl⟩:=hd;cases hr with
  | cl h=>cases h
  | ptr _ _ _ b s hp hA=>
   obtain⟨r,hl⟩:=hp;have V:=h.rows l r hl;simp only[PV.nF,hl] at hok;simp only[PV.T7,hl] at hs;simp only[PV.v2,hl];cases c:r.els[i]? with
   | none=>rw[c] at hok;cases hok
   | some x=>
    rw[c] at hok;simp only[c] at hs;simp only;have p:∀(j:Nat) y,((x.cells.drop f).map (PV.v0 st.σ))[j]? = some y->∃y0,x.cells[f+j]? = some y0/\y=y0.v0 st.σ/\y0.eN st.σ=true/\y0.sc=true/\(∀l'∈y0.dh,l'∈(x.cells.drop f).flatMap PV.dh):=by
     intro j y hy;rw[zW,pm] at hy;cases F:x.cells[f+j]? with
     | none=>rw[F] at hy;cases hy
     | some y0=>
      rw[F] at hy;have A:y0∈x.cells.drop f:=zh (by rw[pm];exact F:(x.cells.drop f)[j]? = some y0);have q:=zf.1 hok y0 A;simp only[zo] at q;exact⟨y0,rfl,Ω hy.symm,q.1,q.2,λl' C=>mt.2 ⟨y0,A,C⟩⟩
    refine .rptr b (s+i*(g.μ l).z+f) _ (λj=>(w.cell? ⟨b,s+i*(g.μ l).z+f+j,none⟩).getD undef) ?_ (λj y hy=>?_) (λj y hy=>?_)
    .rw[zf];intro y hy;obtain⟨j,hj⟩:=za8 hy;obtain⟨y0,_,rfl,k2,S,_⟩:=p j y hj;exact PV.Zx k2 S
    .obtain⟨y0,N,rfl,k2,S,_⟩:=p j y hy;obtain⟨b',s',u,G,H,_⟩:=V.cell i x (f+j) y0 c N;rw[hA] at G;cases G;have:=hs l Ψ r hl i x (f+j) y0 b s c N hA;rw[<-n8] at H this;exact⟨this,by rw[H];rfl⟩
    .obtain⟨y0,N,rfl,k2,S,k4⟩:=p j y hy;obtain⟨b',s',u,G,H,q3,_⟩:=V.cell i x (f+j) y0 c N;rw[hA] at G;cases G;rw[<-n8] at H;simp only[H,wp];exact h.v0 hx q3 k2 λl' C r' R=>hs l' (zx _ (k4 l' C)) r' R
 .have e:d.v2 st.σ=d.v0 st.σ:=by cases d <;> first | rfl | exact absurd ⟨_,_,_,rfl⟩ hd
  have e':d.nF st.σ=d.eN st.σ:=by cases d <;> first | rfl | exact absurd ⟨_,_,_,rfl⟩ hd
  have e'':d.T7 st.σ=d.dh:=by cases d <;> first | rfl | exact absurd ⟨_,_,_,rfl⟩ hd
  rw[e];rw[e'] at hok;rw[e''] at hs;exact h.v0 hx hr hok hs
theorem D1.v3(h:D1 X g st a w)(hx:Ext w g.imm w imm2)(hr:Rd w g.imm g.μ st.u3 v d)(hok:d.pF st.σ=true)
  (hs:∀l∈d.aO st.σ,∀r,st.σ l=some r->Shown imm2 (g.μ l) r):Rd0 w imm2 v (d.v3 st.σ):=by
 cases d;case agg cs=>
  obtain⟨vs,rfl,hn,hc⟩:=hr.jd;simp only[PV.pF,zf,zo] at hok;simp only[PV.aO] at hs;refine .agg vs _ ?_ (Ω hn) λi v c hv e=>?_
  .rw[zf];intro y hy;obtain⟨y0,h0,rfl⟩:=zP.1 hy;exact PV.Zx (hok y0 h0).1 (hok y0 h0).2
  .rw[zW] at e;cases p:cs[i]? with
   | none=>rw[p] at e;cases e
   | some c0=>
    rw[p] at e;cases e;have hm:=zh p;exact h.v0 hx (hc i v c0 hv p) (hok c0 hm).1 λl hl=>hs l (mt.2 ⟨c0,hm,hl⟩)
 case fn f cap=>
  have q:∃vs:Array Value,v = .func f #[] vs/\vs.size=cap.length/\∀(i:Nat) v c,vs[i]? = some v->cap[i]? = some c->Rd w g.imm g.μ st.u3 v c:=by
   cases hr with
   | cl h=>cases h with | fn _ vs _ hn h=>exact⟨vs,rfl,hn,λi v c hv hc=>.cl (h i v c hv hc)⟩
   | fn _ vs _ hn h=>exact⟨vs,rfl,hn,h⟩
  obtain⟨vs,rfl,hn,hc⟩:=q;simp only[PV.pF,zf] at hok;simp only[PV.aO] at hs;refine .fn f vs _ (Ω hn) λi v c hv e=>?_;rw[zW] at e;cases p:cap[i]? with
  | none=>rw[p] at e;cases e
  | some c0=>
   rw[p] at e;cases e;have hm:=zh p;exact h.v2 hx (hc i v c0 hv p) (hok c0 hm) λl hl=>hs l (mt.2 ⟨c0,hm,hl⟩)
 case tup cs=>exact h.v2 hx hr hok hs
 all_goals exact h.v2 hx hr hok hs
theorem D1.view(h:D1 X g st a w)(hx:Ext w g.imm w imm2)(hr:Rd w g.imm g.μ st.u3 v d)(hok:d.nI st.σ=true)
  (hs:∀l∈d.P1 st.σ,∀r,st.σ l=some r->Shown imm2 (g.μ l) r):Rd0 w imm2 v (d.view st.σ):=by
 cases d;case tup cs=>
  obtain⟨vs,rfl,hn,hc⟩:=hr.Ba;simp only[PV.nI,zf] at hok;simp only[PV.P1] at hs;refine .tup vs _ (Ω hn) λi v c hv e=>?_;rw[zW] at e;cases p:cs[i]? with
  | none=>rw[p] at e;cases e
  | some c0=>
   rw[p] at e;cases e;have hm:=zh p;exact h.v3 hx (hc i v c0 hv p) (hok c0 hm) λl hl=>hs l (mt.2 ⟨c0,hm,hl⟩)
 all_goals exact h.v3 hx hr hok hs
end
end Go.Pw
namespace Go.Pw
open Go.RowKit
def w9(P:Program)(t:TypeId):Option Nat:=(P.info? t).map (·.size)
def I1(P:Program)(t:TypeId):Option Nat:=(P.info? t).map (·.bytes)
def B1(P:Program)(t:TypeId):Option Value:=(P.info? t).bind (·.zero)
def I4(P:Program)(t:TypeId):Option Bool:=(P.underlying t).map λ| .struct _ | .array _ _=>true | _=>false
def C1(P:Program)(t:TypeId):Option TypeId:=match P.underlying t with | some (.slice e)=>some e | _=>none
def DI(P:Program)(t:TypeId):Option (Nat × TypeId):=match P.underlying t with | some (.array n e)=>some (n,e) | _=>none
def U5(P:Program)(t:TypeId)(f:Nat):Option (Nat × TypeId):=
 match P.underlying t with
 | some (.struct fs)=>match fs[f]? with
  | some fd=>match w9 P fd.type with
   | some (_+1)=>some (fd.offset,fd.type)
   | _=>none
  | none=>none
 | _=>none
def UZ(P:Program)(t:TypeId):Option IntKind:=match P.underlying t with | some (.int k)=>some k | _=>none
def PV.w0:PV->PV
 | .H4 _ xs=>.H4 false xs
 | d=>d
def PV.w1:PV->PV
 | .agg cs=>.agg (cs.map PV.w0)
 | .rptr cs=>.rptr (cs.map PV.w0)
 | d=>d.w0
def PV.w2:PV->PV
 | .fn f cap=>.fn f (cap.map PV.w1)
 | d=>d.w1
def PV.w3:PV->PV
 | .tup vs=>.tup (vs.map PV.w2)
 | d=>d.w2
theorem a3w{d:PV}(h:d.sc=true):d.w0.sc=true:=by cases d <;> first | exact h | rfl
theorem KZ{cs:List PV}(h:cs.all PV.sc=true):(cs.map PV.w0).all PV.sc=true:=by
 rw[zf] at h |-;intro y hy;obtain⟨y0,h0,rfl⟩:=zP.1 hy;exact a3w (h y0 h0)
theorem fA{α β:Type}{f:α->β}{l:List α}{i:Nat}{c:β}(h:(l.map f)[i]? = some c):∃c0,l[i]? = some c0/\f c0=c:=by
 rw[zW] at h;cases e:l[i]? with
 | none=>rw[e] at h;cases h
 | some c0=>rw[e] at h;exact⟨c0,rfl,Ω h⟩
theorem Rd0.w0{w:World}{imm:Nat->Nat->Prop}{v:Value}{d:PV}(h:Rd0 w imm v d):Rd0 w imm v d.w0:=by
 cases h with
 | H4 A c z t xs u e H p C F G=>exact .H4 A c z false xs u e (λq=>Γ) p C F G
 | bool b=>exact .bool b
 | int k n=>exact .int k n
 | str s=>exact .str s
 | agg vs cs a b c=>exact .agg vs cs a b c
 | tup vs cs a b=>exact .tup vs cs a b
 | rptr b o cs u a b c=>exact .rptr _ o cs u a b c
 | fn f vs cap a b=>exact .fn f vs cap a b
 | nilfn=>exact .nilfn
 | abs R v a b=>exact .abs R v a b
 | junk v=>exact .junk v
theorem Rd0.w1{w:World}{imm:Nat->Nat->Prop}{v:Value}{d:PV}(h:Rd0 w imm v d):Rd0 w imm v d.w1:=by
 cases h with
 | H4 A c z t xs u p N C F G H=>exact .H4 A c z false xs u p (λq=>Γ) C F G H
 | bool b=>exact .bool b
 | int k n=>exact .int k n
 | str s=>exact .str s
 | agg vs cs hsc hn hc=>
  refine .agg vs _ (KZ hsc) (Ω hn) λi v c hv e=>?_;obtain⟨c0,k1,rfl⟩:=fA e;exact (hc i v c0 hv k1).w0
 | tup vs cs a b=>exact .tup vs cs a b
 | rptr b o cs u hsc ha hc=>
  refine .rptr b o _ u (KZ hsc) (λj y hy=>?_) (λj y hy=>?_)
  .obtain⟨c0,k1,rfl⟩:=fA hy;exact ha j c0 k1
  .obtain⟨c0,k1,rfl⟩:=fA hy;exact (hc j c0 k1).w0
 | fn f vs cap a b=>exact .fn f vs cap a b
 | nilfn=>exact .nilfn
 | abs R v a b=>exact .abs R v a b
 | junk v=>exact .junk v
theorem Rd0.w2{w:World}{imm:Nat->Nat->Prop}{v:Value}{d:PV}(h:Rd0 w imm v d):Rd0 w imm v d.w2:=by
 by_cases e:∃f cs,d = .fn f cs
 .obtain⟨f,cs,rfl⟩:=e;cases h with
  | fn f vs _ hn hc=>
   refine .fn f vs _ (Ω hn) λi v c hv p=>?_;obtain⟨c0,k1,rfl⟩:=fA p;exact (hc i v c0 hv k1).w1
 .have:d.w2=d.w1:=by cases d <;> first | rfl | exact absurd ⟨_,_,rfl⟩ e
  rw[this];exact h.w1
theorem Rd0.w3{w:World}{imm:Nat->Nat->Prop}{v:Value}{d:PV}(h:Rd0 w imm v d):Rd0 w imm v d.w3:=by
 by_cases e:∃cs,d = .tup cs
 .obtain⟨cs,rfl⟩:=e;cases h with
  | tup vs _ hn hc=>
   refine .tup vs _ (Ω hn) λi v c hv p=>?_;obtain⟨c0,k1,rfl⟩:=fA p;exact (hc i v c0 hv k1).w2
 .have:d.w3=d.w2:=by cases d <;> first | rfl | exact absurd ⟨_,rfl⟩ e
  rw[this];exact h.w2
section
variable{w:World}{imm:Nat->Nat->Prop}{μ:Nat->L7}{u3:Nat->Prop}
theorem Rd.w0{v:Value}{d:PV}(h:Rd w imm μ u3 v d):Rd w imm μ u3 v d.w0:=by
 cases h with
 | cl h=>exact .cl h.w0
 | agg vs cs a b c=>exact .agg vs cs a b c
 | tup vs cs a b=>exact .tup vs cs a b
 | fn f vs cap a b=>exact .fn f vs cap a b
 | sl l a=>exact .sl l a
 | mp l b a c d=>exact .mp l b a c d
 | ptr l i f b s a c=>exact .ptr l i f b s a c
theorem Rd.w1{v:Value}{d:PV}(h:Rd w imm μ u3 v d):Rd w imm μ u3 v d.w1:=by
 cases h with
 | cl h=>exact .cl h.w1
 | agg vs cs hsc hn hc=>
  refine .agg vs _ (KZ hsc) (Ω hn) λi v c hv e=>?_;obtain⟨c0,k1,rfl⟩:=fA e;exact (hc i v c0 hv k1).w0
 | tup vs cs a b=>exact .tup vs cs a b
 | fn f vs cap a b=>exact .fn f vs cap a b
 | sl l a=>exact .sl l a
 | mp l b a c d=>exact .mp l b a c d
 | ptr l i f b s a c=>exact .ptr l i f b s a c
theorem Rd.w2{v:Value}{d:PV}(h:Rd w imm μ u3 v d):Rd w imm μ u3 v d.w2:=by
 by_cases e:∃f cs,d = .fn f cs
 .obtain⟨f,cs,rfl⟩:=e;cases h with
  | cl h=>exact .cl h.w2
  | fn f vs _ hn hc=>
   refine .fn f vs _ (Ω hn) λi v c hv p=>?_;obtain⟨c0,k1,rfl⟩:=fA p;exact (hc i v c0 hv k1).w1
 .have:d.w2=d.w1:=by cases d <;> first | rfl | exact absurd ⟨_,_,rfl⟩ e
  rw[this];exact h.w1
end
def PV.vw(σ:Nat->Option Row)(d:PV):PV:=(d.view σ).w2
def KO:World->(Nat->Nat->Prop)->Value->Prop:=λ_ _ v=>v = .map none
def PV.GF:Value->PV
 | .bool b=>.bool b
 | .int k n=>.int k n
 | .string s=>.str s
 | .slice none 0 0=>.H4 true []
 | .nilFunc=>.nilfn
 | .map none=>.abs KO
 | _=>.junk
def PV.kG:Value->PV
 | .agg vs=>if (vs.toList.map PV.GF).all PV.sc then .agg (vs.toList.map PV.GF) else .junk
 | .tuple vs=>if vs.toList.isEmpty then .tup [] else .junk
 | v=>PV.GF v
theorem Ox(w:World)(imm:Nat->Nat->Prop)(v:Value):Rd0 w imm v (PV.GF v):=by
 unfold PV.GF;split;·exact .bool _
 .exact .int _ _
 .exact .str _
 .exact .H4 none 0 1 true [] (λ_ _=>undef) (zq _) (λ_=>rfl) (λ_=>rfl) (λ_ q=>by simp at q) (λq=>absurd q (zb7 _)) (λi x j y q=>by simp at q)
 .exact .nilfn
 .exact .abs _ _ rfl λ_ _ _=>rfl
 .exact .junk _
theorem xI(w:World)(imm:Nat->Nat->Prop)(v:Value):Rd0 w imm v (PV.kG v):=by
 unfold PV.kG;split
 .rename_i vs;split
  .rename_i h;refine .agg vs _ h Ψ λi v c hv hc=>?_;rw[zW] at hc;have:vs.toList[i]? = some v:=by simpa using hv
   rw[this] at hc;cases hc;exact Ox w imm v
  .exact .junk _
 .rename_i vs;split
  .rename_i h;refine .tup vs [] (Ω h) λi v c hv hc=>by simp at hc
  .exact .junk _
 .exact Ox w imm _
def B6(env:Nat->PV):Operand->PV
 | .tmp t=>if t<1000000 then env t else .junk
 | .const v=>PV.kG v
 | .global _=>.junk
 | .func f=>.fn (.func f) []
section
variable{X:Ctx}{g:Gh}{st:St}{a:Act}{w:World}
theorem D1.eval(h:D1 X g st a w)(x:Operand):Rd w g.imm g.μ st.u3 (a.eval x) (B6 st.env x):=by
 cases x with
 | tmp t=>
  have:=h.env t;unfold Ctx.val at this;unfold B6;by_cases q:t<1000000
  .rw[zc q] at this;simp only[zc q];exact this
  .simp only[za q];exact .cl (.junk _)
 | const v=>exact .cl (xI _ _ _)
 | global g=>exact .cl (.junk _)
 | func f=>exact .cl (.fn _ #[] [] rfl λi v c _ hc=>Ωj)
theorem D1.RY(h:D1 X g st a w)(t:Nat):Rd w g.imm g.μ st.u3 (a.tmps.getD t undef) (B6 st.env (.tmp t)):=h.eval (.tmp t)
variable {w:World}{imm:Nat->Nat->Prop}{μ:Nat->L7}{v:Value}{P:Program}{t:TypeId}{b o:Nat}
theorem Rd.gX{u3:Nat->Prop}{b:Bool}(h:Rd w imm μ u3 v (.bool b)):v = .bool b:=by
 cases h with | cl h=>cases h;rfl
theorem Rd.L1{u3:Nat->Prop}{k:IntKind}{n:Int}(h:Rd w imm μ u3 v (.int k n)):v = .int k n:=by
 cases h with | cl h=>cases h;rfl
theorem Rd.gV{u3:Nat->Prop}{s:ByteArray}(h:Rd w imm μ u3 v (.str s)):v = .string s:=by
 cases h with | cl h=>cases h;rfl
theorem Rd.aK{w:World}{imm:Nat->Nat->Prop}{μ:Nat->L7}{u3:Nat->Prop}{v:Value}{l i f:Nat}(h:Rd w imm μ u3 v (.ptr l i f)) :
  u3 l/\∃b s,(μ l).A=some ⟨b,s,none⟩/\v = .pointer (some ⟨b,s+i*(μ l).z+f,none⟩):=by
 cases h with
 | cl h=>cases h
 | ptr _ _ _ b s hp hA=>exact⟨hp,b,s,hA,rfl⟩
theorem Rd.df{w:World}{imm:Nat->Nat->Prop}{μ:Nat->L7}{u3:Nat->Prop}{v:Value}{l:Nat}(h:Rd w imm μ u3 v (.sl l)) :
  u3 l/\v = .slice (μ l).A (μ l).n (μ l).C:=by
 cases h with
 | cl h=>cases h
 | sl _ hp=>exact⟨hp,rfl⟩
theorem Rd.BV{w:World}{imm:Nat->Nat->Prop}{μ:Nat->L7}{u3:Nat->Prop}{v:Value}{l:Nat}(h:Rd w imm μ u3 v (.mp l)) :
  u3 l/\MB<=l/\∃b,(μ l).A=some ⟨b,0,none⟩/\v = .map (some b):=by
 cases h with
 | cl h=>cases h
 | mp _ b hp hl hA=>exact⟨hp,hl,b,hA,rfl⟩
theorem Rd.dA{w:World}{imm:Nat->Nat->Prop}{μ:Nat->L7}{u3:Nat->Prop}{v:Value}{cs:List PV}(h:Rd w imm μ u3 v (.rptr cs)) :
  ∃b o,∃u:Nat->Value,v = .pointer (some ⟨b,o,none⟩)/\cs.all PV.sc=true/\∀(j:Nat) y,cs[j]? = some y->imm b (o+j)/\w.cell? ⟨b,o+j,none⟩=some (u j)/\Rd0 w imm (u j) y:=by
 cases h with
 | cl h=>cases h with | rptr b o _ u hsc hA h=>exact⟨b,o,u,rfl,hsc,λj y hy=>⟨(hA j y hy).1,(hA j y hy).2,h j y hy⟩⟩
theorem Rd.ji{w:World}{imm:Nat->Nat->Prop}{μ:Nat->L7}{u3:Nat->Prop}{v:Value}{t:Bool}{xs:List PV}(h:Rd w imm μ u3 v (.H4 t xs)) :
  ∃A c z,∃u:Nat->Nat->Value,v = .slice A xs.length c/\xs.length<=c/\(t=true->c=xs.length)/\(A=none->c=0)/\(∀x∈xs,x.el=true/\x.cells.length=z) /\
   (0<xs.length->∃b s,A=some ⟨b,s,none⟩/\∀(i:Nat) x (j:Nat) y,xs[i]? = some x->x.cells[j]? = some y ->
    imm b (s+i*z+j)/\w.cell? ⟨b,s+i*z+j,none⟩=some (u i j)) /\
   (∀(i:Nat) x (j:Nat) y,xs[i]? = some x->x.cells[j]? = some y->Rd0 w imm (u i j) y):=by
 cases h with
 | cl h=>cases h with | H4 A c z _ _ u e p q C F G=>exact⟨A,c,z,u,rfl,e,p,q,C,F,G⟩
theorem Rd.FD{w:World}{imm:Nat->Nat->Prop}{μ:Nat->L7}{u3:Nat->Prop}{v:Value}{cs:List PV}(h:Rd w imm μ u3 v (.agg cs)):cs.all PV.sc=true:=by
 cases h with
 | cl h=>cases h;assumption
 | agg _ _ hsc=>exact hsc
theorem F8{P:Program}{t:TypeId}{n:Nat}(h:w9 P t=some n)(w:World):(sizeOf t).run P w = .ok n w:=by
 unfold w9 at h;cases hi:P.info? t with
 | none=>rw[hi] at h;cases h
 | some i=>rw[hi] at h;simp at h;simp[sizeOf,typeInfo,hi,h]
theorem po{P:Program}{t:TypeId}{b:Bool}(h:I4 P t=some b)(w:World):(isAgg t).run P w = .ok b w:=by
 unfold I4 at h;cases hi:P.underlying t with
 | none=>rw[hi] at h;cases h
 | some i=>
  rw[hi] at h;simp only[ww,sm] at h;subst h;simp only[isAgg,zt,zZ hi,zi];cases i <;> rfl
theorem nx{P:Program}{t:TypeId}{v:Value}(h:B1 P t=some v)(w:World):(zeroValue t).run P w = .ok v w:=by
 unfold B1 at h;cases hi:P.info? t with
 | none=>rw[hi] at h;cases h
 | some i=>rw[hi] at h;simp at h;simp[zeroValue,typeInfo,hi,h]
theorem L8(b o n:Nat):(⟨b,o,none⟩:Addr).add n=⟨b,o+n,none⟩:=by
 unfold Addr.add;split;·simp_all
 .rfl
theorem dJ{n:Nat}(ha:I4 P t=some true)(hs:w9 P t=some n)(u:Nat->Value)
  (h:∀j,j<n->w.cell? ⟨b,o+j,none⟩=some (u j)):(loadVar t ⟨b,o,none⟩).run P w = .ok (.agg ((List.range n).map u).toArray) w:=by
 have:=run_loadCells (P:=P) w ⟨b,o,none⟩ n u (λj hj=>by rw[L8];exact h j hj);simp only[loadVar,zt,po ha,zi,wd,F8 hs,this];rfl
theorem dK{u:Value}(ha:I4 P t=some false)(h:w.cell? ⟨b,o,none⟩=some u) :
  (loadVar t ⟨b,o,none⟩).run P w = .ok u w:=by
 simp only[loadVar,zt,po ha,zi,zj,wf,load,Sem.run,h]
theorem Hx{n:Nat}(hs:w9 P t=some n)(hn:v.cells.size=n)
  (hc:∀j,j<n->(w.cell? ⟨b,o+j,none⟩).isSome=true/\w.frozen? ⟨b,o+j,none⟩=false)(c:∀u∈v.cells.toList,one u=true) :
  (storeVar t ⟨b,o,none⟩ v).run P w = .ok () (w.setCells b o v.cells.toList):=by
 have:=run_storeCells_cells (P:=P) b o v.cells.toList 0 w (λj hj=>Ω ((hc j (by simpa[hn] using hj)).1))
  (λj hj=>Ω ((hc j (by simpa[hn] using hj)).2)) (λu hu=>by rw[<-GG];exact c u hu)
 simp only[storeVar,zt,F8 hs,zi,hn,ne_eq,not_true_eq_false,wf];simpa using this
end
def Ig(w:World)(imm:Nat->Nat->Prop)(vs:Array Value)(ds:List PV):Prop:=
 vs.size=ds.length/\∀(i:Nat) v d,vs[i]? = some v->ds[i]? = some d->Rd0 w imm v d
def iO(imm:Nat->Nat->Prop)(w w':World):Nat->Nat->Prop:=λb o=>imm b o\/(w.heap.size<=b/\b<w'.heap.size)
def S0(P:Program)(f:FuncId)(ds:List PV)(d:PV):Prop:=
 ∀(w:World) (imm:Nat->Nat->Prop) (vs:Array Value),(∀b o,imm b o->b<w.heap.size)->GT P w->Ig w imm vs ds ->
  Calls P f vs w λe w'=>∃v,e = .returned v/\lG w.heap.size w w'/\Rd0 w' (iO imm w w') v d
def nN(P:Program)(f:FuncId)(ds:List PV)(r:Row):Prop:=
 ∀(w:World) (imm:Nat->Nat->Prop) (vs:Array Value),(∀b o,imm b o->b<w.heap.size)->GT P w->Ig w imm vs ds ->
  Calls P f vs w λe w'=>∃m:L7,e = .returned (.slice m.A m.n m.C)/\lG w.heap.size w w' /\
   qh w.heap.size w' (λb o=>iO imm w w' b o/\¬L2 m r b o) (λ_=>m) (λ_=>False) m r/\∀b o,L2 m r b o->w.heap.size<=b
def PV.Bw:PV->Bool
 | .bool _ | .int .. | .str _=>true
 | _=>false
def PV.YV:PV->Bool
 | .agg cs=>cs.all PV.Bw
 | d=>d.Bw
def PV.flat:PV->Bool
 | .agg cs=>cs.all PV.Bw
 | .tup cs=>cs.all PV.YV
 | d=>d.Bw
inductive Y5 where
 | none
 | new (l:Nat) (r:Row)
 | app (s l:Nat) (r:Row)
 | sto (l i f:Nat) (cs:List PV)
 | yT (l:Nat) (ys:List PV)
 | pM (ls:List Nat)
 | frzN (ls:List Nat) (l:Nat) (r:Row)
def Kh(x:PV):List PV->PV
 | [c]=>c
 | _=>x
def K7(x:PV)(f:Nat)(cs:List PV):PV:=
 match x with
 | .agg es=>.agg (es.take f++cs++es.drop (f+cs.length))
 | x=>Kh x cs
def Y5.apply(σ:Nat->Option Row):Y5->Nat->Option Row
 | .none=>σ
 | .new l r=>z7 σ l (some r)
 | .app s l r=>z7 (match σ s with | some q=>z7 σ s (some { q with lo:=q.els.length,opn:=false }) | Option.none=>σ) l (some r)
 | .sto l i f cs=>match σ l with
  | some q=>match q.els[i]? with
   | some x=>z7 σ l (some { q with els:=q.els.set i (K7 x f cs),cl:=q.cl&&cs.all PV.aP })
   | Option.none=>σ
  | Option.none=>σ
 | .yT l ys=>match σ l with
  | some q=>z7 σ l (some { q with els:=ys++q.els.drop ys.length })
  | Option.none=>σ
 | .pM ls=>T0 σ ls
 | .frzN ls l r=>z7 (T0 σ ls) l (some r)
def Y5.ok(σ:Nat->Option Row):Y5->Prop
 | .none=>True
 | .new l _=>σ l=Option.none
 | .app s l _=>σ l=Option.none/\∃q,σ s=some q/\q.opn=true
 | .sto l i f cs=>∃q x,σ l=some q/\q.els[i]? = some x/\q.lo<=i/\f+cs.length<=x.cells.length/\cs.all PV.sc=true
 | .yT l ys=>∃q,σ l=some q/\q.lo=0/\ys.length<=q.els.length
 | .pM _=>True
 | .frzN _ l _=>σ l=Option.none
def RM:BinOp->Int->Int->Option Bool
 | .eql,a,b=>some (a==b)
 | .neq,a,b=>some (a != b)
 | .lss,a,b=>some (decide (a<b))
 | .leq,a,b=>some (decide (a<=b))
 | .gtr,a,b=>some (decide (a > b))
 | .geq,a,b=>some (decide (a>=b))
 | _,_,_=>none
def Ru(k:IntKind):BinOp->Int->Int->Option Int
 | .add,a,b=>some (k.wrap (a+b))
 | .sub,a,b=>some (k.wrap (a-b))
 | .mul,a,b=>some (k.wrap (a*b))
 | .quo,a,b=>if b=0 then none else some (k.wrap (a.tdiv b))
 | .rem,a,b=>if b=0 then none else some (a.tmod b)
 | _,_,_=>none
def pL(place:Nat->Option (Nat × Nat))(cs:List PV):List (Nat × PV)->Option (List PV)
 | []=>some cs
 | (i,d)::rest=>
  match place i with
  | none=>none
  | some (off,size)=>if d.cells.length≠size\/cs.length<off+d.cells.length\/d.el=false then none
   else pL place (cs.take off++d.cells++cs.drop (off+d.cells.length)) rest
def C2(P:Program)(t:TypeId):Option (Nat->Option (Nat × Nat)):=
 match P.underlying t with
 | some (.array _ e)=>(P.info? e).map λie i=>some (i*ie.size,ie.size)
 | some (.struct fields)=>(fields.toList.mapM (λf=>(P.info? f.type).map λi=>(f.offset,i.size))).map λplaces i=>places.toArray[i]?
 | _=>none
def Src(σ:Nat->Option Row)(d:PV)(ys:List PV)(cl:Bool):Prop:=
 (∃t,d = .H4 t ys/\cl=true)\/(∃l r,d = .sl l/\σ l=some r/\ys=r.els/\cl=r.cl)
def ur(ρ:Operand->PV)(x:Option Operand)(dflt n:Nat):Prop:=
 match x with
 | some y=>∃k,ρ y = .int k n
 | none=>n=dflt
inductive E6 (P:Program) (σ:Nat->Option Row) (ρ:Operand->PV) (dst:Option Tmp):Op->PV->Y5->Prop
 | pureV (op d) (hnd:∀c,op ≠ .defer c) (hnl:∀T x,op ≠ .load T x) (h:∀(o:Oper) (w:World) (imm:Nat->Nat->Prop) (μ:Nat->L7) (u3:Nat->Prop) (ev:Operand->Value),o.op=op->(∀x,x∈op.operands->Rd w imm μ u3 (ev x) (ρ x)) ->
   ∃u,(execOp ev o).run P w = .ok (.value u) w/\Rd w imm μ u3 u d):E6 P σ ρ dst op d .none
 | move (x):E6 P σ ρ dst (.move x) (ρ x) .none
 | assign (x):E6 P σ ρ dst (.assign x) (ρ x) .none
 | pick (c a b t) (h:ρ c = .bool t):E6 P σ ρ dst (.pick c a b) (if t then ρ a else ρ b) .none
 | box (T x l) (hd:dst=some l) (hx:(ρ x).el=true):E6 P σ ρ dst (.box T x) (.ptr l 0 0) (.new l ⟨[ρ x],0,false,(ρ x).cells.length,(ρ x).iD⟩)
 | alloc (T l v) (hd:dst=some l) (hz:B1 P T=some v) (hx:(PV.kG v).el=true) :
   E6 P σ ρ dst (.alloc T) (.ptr l 0 0) (.new l ⟨[PV.kG v],0,false,(PV.kG v).cells.length,true⟩)
 | pQ (T x l i f r y n) (hx:ρ x = .ptr l i f) (hl:σ l=some r) (hy:r.els[i]? = some y) (ha:I4 P T=some true) (hs:w9 P T=some n) (hf:f+n<=y.cells.length) :
   E6 P σ ρ dst (.load T x) (.agg ((y.cells.drop f).take n)) .none
 | mG (T x l i f r y d) (hx:ρ x = .ptr l i f) (hl:σ l=some r) (hy:r.els[i]? = some y) (ha:I4 P T=some false) (hf:y.cells[f]? = some d) :
   E6 P σ ρ dst (.load T x) d .none
 | iK (T x cs n) (hx:ρ x = .rptr cs) (ha:I4 P T=some true) (hs:w9 P T=some n) (hf:n<=cs.length) :
   E6 P σ ρ dst (.load T x) (.agg (cs.take n)) .none
 | iM (T x cs d) (hx:ρ x = .rptr cs) (ha:I4 P T=some false) (hf:cs[0]? = some d) :
   E6 P σ ρ dst (.load T x) d .none
 | store (T x y l i f d) (hx:ρ x = .ptr l i f) (hd:ρ y=d\/(ρ y).w1=d) (hy:d.el=true) (hs:w9 P T=some d.cells.length) (hpos:0<d.cells.length) :
   E6 P σ ρ dst (.store T x y) (.tup []) (.sto l i f d.cells)
 | nilCheckP (x l i f) (hx:ρ x = .ptr l i f):E6 P σ ρ dst (.nilCheck x) (ρ x) .none
 | nilCheckR (x cs) (hx:ρ x = .rptr cs):E6 P σ ρ dst (.nilCheck x) (ρ x) .none
 | not (t x b) (hx:ρ x = .bool b):E6 P σ ρ dst (.unOp .not t x) (.bool (!b)) .none
 | neg (t x k n) (hx:ρ x = .int k n):E6 P σ ρ dst (.unOp .neg t x) (.int k (k.wrap (0-n))) .none
 | ari (op t u x y k a b r) (hx:ρ x = .int k a) (hy:ρ y = .int k b) (hr:Ru k op a b=some r):E6 P σ ρ dst (.binOp op t x y u) (.int k r) .none
 | cmp (op t u x y k a b r) (hx:ρ x = .int k a) (hy:ρ y = .int k b) (hr:RM op a b=some r):E6 P σ ρ dst (.binOp op t x y u) (.bool r) .none
 | eqB (t u x y a b) (hx:ρ x = .bool a) (hy:ρ y = .bool b) (ht:P.underlying t=some .bool):E6 P σ ρ dst (.binOp .eql t x y u) (.bool (a==b)) .none
 | neB (t u x y a b) (hx:ρ x = .bool a) (hy:ρ y = .bool b) (ht:P.underlying t=some .bool):E6 P σ ρ dst (.binOp .neq t x y u) (.bool (a != b)) .none
 | eqS (t u x y a b) (hx:ρ x = .str a) (hy:ρ y = .str b):E6 P σ ρ dst (.binOp .eql t x y u) (.bool (a.toList==b.toList)) .none
 | neS (t u x y a b) (hx:ρ x = .str a) (hy:ρ y = .str b):E6 P σ ρ dst (.binOp .neq t x y u) (.bool (!(a.toList==b.toList))) .none
 | conv (s t x k k' n) (hx:ρ x = .int k' n) (hs:(P.underlying s).isSome=true) (ht:UZ P t=some k):E6 P σ ρ dst (.convert s t x) (.int k (k.wrap n)) .none
 | fieldAddrP (T x f l i q off ft) (hx:ρ x = .ptr l i q) (ho:U5 P T f=some (off,ft)):E6 P σ ρ dst (.fieldAddr T x f) (.ptr l i (q+off)) .none
 | fieldAddrR (T x f cs off ft) (hx:ρ x = .rptr cs) (ho:U5 P T f=some (off,ft)):E6 P σ ρ dst (.fieldAddr T x f) (.rptr (cs.drop off)) .none
 | fieldA (T x f cs off ft n) (hx:ρ x = .agg cs) (ho:U5 P T f=some (off,ft)) (ha:I4 P ft=some true) (hs:w9 P ft=some n) (hn:off+n<=cs.length) :
   E6 P σ ρ dst (.field T x f) (.agg ((cs.drop off).take n)) .none
 | fieldS (T x f cs off ft d) (hx:ρ x = .agg cs) (ho:U5 P T f=some (off,ft)) (ha:I4 P ft=some false) (hd:cs[off]? = some d) :
   E6 P σ ρ dst (.field T x f) d .none
 | idxL (T x y t xs k n e E) (hx:ρ x = .H4 t xs) (hy:ρ y = .int k n) (h0:0<=n) (he:xs[n.toNat]? = some e) (hE:C1 P T=some E) (hz:w9 P E=some e.cells.length) :
   E6 P σ ρ dst (.indexAddr T x y) (.rptr e.cells) .none
 | idxR (T x y l r k n E) (hx:ρ x = .sl l) (hl:σ l=some r) (hy:ρ y = .int k n) (h0:0<=n) (hn:n.toNat<r.els.length) (hE:C1 P T=some E) (hz:w9 P E=some r.z) :
   E6 P σ ρ dst (.indexAddr T x y) (.ptr l n.toNat 0) .none
 | idxA (T x y l i f k n) (len:Nat) (E z) (hx:ρ x = .ptr l i f) (hy:ρ y = .int k n) (h0:0<=n) (hn:n<(len:Int)) (hE:DI P T=some (len,E)) (hz:w9 P E=some z) :
   E6 P σ ρ dst (.indexAddr T x y) (.ptr l i (f+n.toNat*z)) .none
 | idxRA (T x y cs k n) (len:Nat) (E z) (hx:ρ x = .rptr cs) (hy:ρ y = .int k n) (h0:0<=n) (hn:n<(len:Int)) (hE:DI P T=some (len,E)) (hz:w9 P E=some z) :
   E6 P σ ρ dst (.indexAddr T x y) (.rptr (cs.drop (n.toNat*z))) .none
 | extract (x i ds d) (hx:ρ x = .tup ds) (hd:ds[i]? = some d):E6 P σ ρ dst (.extract x i) d .none
 | build (T parts pl z zs cs) (O2:C2 P T=some pl) (hz:B1 P T=some z) (hzs:PV.kG z = .agg zs) (hsc:cs.all PV.sc=true) (hf:pL pl zs (parts.toList.map λp=>(p.1,(ρ p.2).w1))=some cs) :
   E6 P σ ρ dst (.build T parts) (.agg cs) .none
 | mkFunc (fn cap):E6 P σ ρ dst (.makeFunc fn #[] cap) (.fn fn (cap.toList.map ρ)) .none
 | mkSlice (T x y l k k' n E z v) (hd:dst=some l) (hx:ρ x = .int k n) (hy:ρ y = .int k' n) (h0:0<=n) (hE:C1 P T=some E) (hz:w9 P E=some z) (hv:B1 P E=some v)
   (hel:((PV.kG v).w1).el=true) (hvz:((PV.kG v).w1).cells.length=z) (b:Nat) (hb:I1 P E=some b) (hbm:b*n<=281474976710656) (hn:n<=9223372036854775807) :
   E6 P σ ρ dst (.makeSlice T x y) (.sl l) (.new l ⟨List.replicate n.toNat ((PV.kG v).w1),0,true,z,true⟩)
 | lenL (x t xs T) (hx:ρ x = .H4 t xs) (hT:(C1 P T).isSome=true) (ts) (hts:ts[0]? = some T) :
   E6 P σ ρ dst (.call { callee:=.builtin .len,args:=#[x],argTypes:=ts }) (.int .i64 xs.length) .none
 | lenR (x l r T) (hx:ρ x = .sl l) (hl:σ l=some r) (hT:(C1 P T).isSome=true) (ts) (hts:ts[0]? = some T) :
   E6 P σ ρ dst (.call { callee:=.builtin .len,args:=#[x],argTypes:=ts }) (.int .i64 r.els.length) .none
 | lenS (x s T) (hx:ρ x = .str s) (hT:P.underlying T=some .string) (ts) (hts:ts[0]? = some T) :
   E6 P σ ρ dst (.call { callee:=.builtin .len,args:=#[x],argTypes:=ts }) (.int .i64 s.size) .none
 | min2 (x y k a b ts) (hx:ρ x = .int k a) (hy:ρ y = .int k b):E6 P σ ρ dst (.call { callee:=.builtin .min,args:=#[x,y],argTypes:=ts }) (.int k (if b<a then b else a)) .none
 | max2 (x y k a b ts) (hx:ρ x = .int k a) (hy:ρ y = .int k b):E6 P σ ρ dst (.call { callee:=.builtin .max,args:=#[x,y],argTypes:=ts }) (.int k (if b > a then b else a)) .none
 | call (f args ts cap d) (x) (hf:ρ x = .fn (.func f) cap) (hb:∃fn c,P.funcs[f]? = some fn/\fn.body=some c/\fn.name ≠ "runtime.NumGoroutine")
   (hok:(args.toList.map ρ++cap).all (PV.nI σ)=true) (h:S0 P f ((args.toList.map ρ++cap).map (PV.vw σ)) d) (hfl:d.flat=true) :
   E6 P σ ρ dst (.call { callee:=.value x,args,argTypes:=ts }) d .none
 | callF (f args ts cap d) (x) (hf:ρ x = .fn (.func f) cap) (hb:∃fn c,P.funcs[f]? = some fn/\fn.body=some c/\fn.name ≠ "runtime.NumGoroutine")
   (hok:(args.toList.map ρ++cap).all (PV.nI σ)=true) (h:S0 P f ((args.toList.map ρ++cap).map (PV.vw σ)) d) :
   E6 P σ ρ dst (.call { callee:=.value x,args,argTypes:=ts }) d (.pM ((args.toList.map ρ++cap).flatMap (PV.P1 σ)))
 | callN (f args ts cap l r) (x) (hd:dst=some l) (hf:ρ x = .fn (.func f) cap) (hb:∃fn c,P.funcs[f]? = some fn/\fn.body=some c/\fn.name ≠ "runtime.NumGoroutine")
   (hok:(args.toList.map ρ++cap).all (PV.nI σ)=true) (h:nN P f ((args.toList.map ρ++cap).map (PV.vw σ)) r) (hcl:r.cl=true) :
   E6 P σ ρ dst (.call { callee:=.value x,args,argTypes:=ts }) (.sl l) (.frzN ((args.toList.map ρ++cap).flatMap (PV.P1 σ)) l r)
 | appT (x y T E xs ys cl z by_ l zv) (hd:dst=some l) (hx:ρ x = .H4 true xs) (hy:Src σ (ρ y) ys cl) (hE:C1 P T=some E) (hz:w9 P E=some z) (hb:I1 P E=some by_) (hzv:B1 P E=some zv)
   (hzz:zv.cells.size=z) (hel:∀e∈xs++ys,e.cells.length=z) (hfit:(xs.length+ys.length)*by_<=140737488355328) (h63:xs.length+ys.length<=9223372036854775807) :
   E6 P σ ρ dst (.call { callee:=.builtin .append,args:=#[x,y],argTypes:=#[T,T] }) (.sl l) (.new l ⟨xs++ys,xs.length,true,z,cl⟩)
 | appR (x y T E s r ys cl z by_ l zv) (hd:dst=some l) (hx:ρ x = .sl s) (hs:σ s=some r) (hy:Src σ (ρ y) ys cl) (hE:C1 P T=some E) (hz:w9 P E=some z) (hb:I1 P E=some by_) (hzv:B1 P E=some zv)
   (hzz:zv.cells.size=z) (hel:∀e∈r.els++ys,e.cells.length=z) (hrz:r.z=z) (hfit:(r.els.length+ys.length)*by_<=140737488355328) (h63:r.els.length+ys.length<=9223372036854775807) :
   E6 P σ ρ dst (.call { callee:=.builtin .append,args:=#[x,y],argTypes:=#[T,T] }) (.sl l) (.app s l ⟨r.els++ys,r.els.length,true,z,r.cl&&cl⟩)
 | buildSlice (T E parts len z l zv els cl) (hd:dst=some l) (hE:C1 P T=some E) (hz:w9 P E=some z) (hzv:B1 P E=some zv) (hlen:els.length=len) (hel:∀x∈els,x.el=true/\x.cells.length=z)
   (hbig:len*z<=2 ^ 24) (hf:pL (λi=>some (i*z,z)) (List.replicate (len*z) .junk) (parts.toList.map λp=>(p.1,(ρ p.2).w1))=some (els.flatMap PV.cells))
   (hcl:cl=true->els.all (λx=>x.cells.all PV.aP)=true):E6 P σ ρ dst (.buildSlice T len parts) (.sl l) (.new l ⟨els,0,true,z,cl⟩)
 | buildI (T E parts len z zv els) (hE:C1 P T=some E) (hz:w9 P E=some z) (hzv:B1 P E=some zv) (hlen:els.length=len) (hel:∀x∈els,x.el=true/\x.cells.length=z)
   (hbig:len*z<=2 ^ 24) (hf:pL (λi=>some (i*z,z)) (List.replicate (len*z) .junk) (parts.toList.map λp=>(p.1,(ρ p.2).w1))=some (els.flatMap PV.cells))
   (hcl:els.all (λx=>x.cells.all PV.aP)=true):E6 P σ ρ dst (.buildSlice T len parts) (.H4 true els) .none
 | nilSlice (T E parts l z) (hd:dst=some l) (hE:C1 P T=some E) (hz:w9 P E=some z) (hp:parts = #[]):E6 P σ ρ dst (.buildSlice T 0 parts) (.H4 true []) .none
 | sliceL (T E z x lo hi mx t xs i j k) (hx:ρ x = .H4 t xs) (hE:C1 P T=some E) (hz:w9 P E=some z) (hel:∀e∈xs,e.cells.length=z) (hlo:ur ρ lo 0 i) (hhi:ur ρ hi xs.length j) (hmx:ur ρ mx xs.length k)
   (hmh:mx.isSome=true->hi.isSome=true) (hij:i<=j) (hjk:j<=k) (hk:k<=xs.length) :
   E6 P σ ρ dst (.slice T x lo hi mx) (.H4 (if mx.isSome then decide (j=k) else t&&decide (j=xs.length)) ((xs.take j).drop i)) .none
 | sliceR (T E z x lo s r i l) (hd:dst=some l) (hx:ρ x = .sl s) (hs:σ s=some r) (hE:C1 P T=some E) (hz:w9 P E=some z) (hrz:r.z=z) (hlo:ur ρ lo 0 i) (hi:i<=r.els.length) :
   E6 P σ ρ dst (.slice T x lo none none) (.sl l) (.app s l ⟨r.els.drop i,r.els.length-i,true,z,r.cl⟩)
 | sliceF (T E z x lo hi s r i j) (hx:ρ x = .sl s) (hs:σ s=some r) (hcl:r.cl=true) (hE:C1 P T=some E) (hz:w9 P E=some z) (hrz:r.z=z) (hlo:ur ρ lo 0 i) (hhi:ur ρ hi r.els.length j) (hij:i<=j) (hj:j<=r.els.length) :
   E6 P σ ρ dst (.slice T x lo hi none) (.H4 false ((r.els.take j).drop i)) (.pM [s])
 | copy (x y T U E l r ys z) (hx:ρ x = .sl l) (hl:σ l=some r) (hcl:r.cl=true) (hy:Src σ (ρ y) ys true) (hE:C1 P T=some E) (hz:w9 P E=some z) (hrz:r.z=z) (hel:∀e∈ys,e.cells.length=z) (hn:ys.length<=r.els.length) (hzp:0<z) :
   E6 P σ ρ dst (.call { callee:=.builtin .copy,args:=#[x,y],argTypes:=#[T,U] }) (.int .i64 ys.length) (.yT l ys)
end Go.Pw
namespace Go.Pw
open Go.RowKit
def FX(ρ:Option Nat):Fence:={ fn:=λ_=>True,depth:=none,alive:=false,round:=ρ }
section
variable{X:Ctx}{g:Gh}{st:St}{a:Act}{w:World}{o:Oper}{n:Nat}{K:Act->World->Prop}{Q:Exit->Act->World->Prop}{ρ:Option Nat}{P:Program}
variable {w':World}
theorem G3{v:Value}(hd:∀c,o.op ≠ .defer c)(h:(execOp a.eval o).run P w = .ok (.value v) w')(hk:K (a.put o.dst v) w') :
  o.wpIn (FX ρ) n P a w K Q:=by
 refine⟨λ_ _=>trivial,?_⟩;rw[Oper.semAt_eq _ _ _ hd,h];exact hk
theorem xA(hd:∀c,o.op ≠ .defer c)(h:(execOp a.eval o).run P w = .ok .skip w')(hk:K (a.put o.dst undef) w') :
  o.wpIn (FX ρ) n P a w K Q:=by
 refine⟨λ_ _=>trivial,?_⟩;rw[Oper.semAt_eq _ _ _ hd,h];exact hk
theorem cu{f:FuncId}{args:Array Value}(hd:∀c,o.op ≠ .defer c)(h:(execOp a.eval o).run P w = .ok (.enter f args) w')
  (hc:Calls P f args w' λe w''=>∃v,e = .returned v/\K (a.put o.dst v) w''):o.wpIn (FX ρ) n P a w K Q:=by
 refine⟨λ_ _=>trivial,?_⟩;rw[Oper.semAt_eq _ _ _ hd,h];refine⟨λq=>by simp[FX] at q,?_⟩;have p:CallsIn Fence.wide (n-1) P f args w' λe w''=>∃v,e = .returned v/\K (a.put o.dst v) w'':=callsIn_wide.2 hc;have s:CallsIn (FX ρ) (n-1) P f args w' λe w''=>∃v,e = .returned v/\K (a.put o.dst v) w'':=p;refine s.mono λe w'' hr=>?_;obtain⟨v,rfl,hk⟩:=hr;exact hk
theorem I2{s:Sem Value}{v:Value}(h:s.run P w = .ok v w'):(do pure (.value (<-s)):Sem Next).run P w = .ok (.value v) w':=by
 simp only[zt,h,zi];rfl
theorem OH{s:Sem Unit}(h:s.run P w = .ok () w'):(do s;pure .skip:Sem Next).run P w = .ok .skip w':=by
 simp only[zt,h,zi];rfl
end
def H7(σ σF:Nat->Option Row):Prop:=∀l r,σ l=some r->∃r',σF l=some r'/\r'.els=r.els/\r'.z=r.z/\r'.cl=r.cl
theorem H7.refl(σ:Nat->Option Row):H7 σ σ:=λ_ r h=>⟨r,h,rfl,rfl,rfl⟩
section
variable{X:Ctx}{g:Gh}{st:St}{a:Act}{w:World}
variable {r:Row}{i:Nat}{y:PV}{cs:List PV}{f n:Nat}{T:TypeId}{v:Value}
theorem D1.cell_of(h:D1 X g st a w){l:Nat}(hl:st.σ l=some r){j:Nat}{x:PV}(hx:r.els[i]? = some x)(hy:x.cells[j]? = some y){b s:Nat}
  (hA:(g.μ l).A=some ⟨b,s,none⟩):∃u,w.cell? ⟨b,s+i*(g.μ l).z+j,none⟩=some u/\Rd w g.imm g.μ st.u3 u y/\(r.cl=true->Rd0 w g.imm u y):=by
 obtain⟨C,s',u,c,e,p,F,q⟩:=(h.rows l r hl).cell i x j y hx hy;rw[hA] at c;cases c;exact⟨u,e,p,q⟩
theorem Iy(hy:y.el=true)(h:cs=(y.cells.drop f).take n):cs.all PV.sc=true:=by
 rw[zf];intro c hc;rw[h] at hc;exact PV.uO hy c (zat (zak hc))
theorem D1.pQ(h:D1 X g st a w){l:Nat}(hv:Rd w g.imm g.μ st.u3 v (.ptr l i f))(hl:st.σ l=some r)(hy:r.els[i]? = some y)
  (ha:I4 X.P T=some true)(hs:w9 X.P T=some n)(hf:f+n<=y.cells.length) :
  ∃u,(Instr.loadAt T v).run X.P w = .ok u w/\Rd w g.imm g.μ st.u3 u (.agg ((y.cells.drop f).take n)):=by
 obtain⟨hp,b,s,hA,rfl⟩:=hv.aK;have hc:∀j,j<n->∃u,w.cell? ⟨b,s+i*(g.μ l).z+f+j,none⟩=some u/\∀q,((y.cells.drop f).take n)[j]? = some q->Rd w g.imm g.μ st.u3 u q:=by
  intro j hj;have A:f+j<y.cells.length:=Δ
  obtain⟨u,e,C,_⟩:=h.cell_of hl hy (zd A) hA;refine⟨u,by rw[n8 _ f j];exact e,λq F=>?_⟩;rw[zaq hj,pm,zd A] at F;cases F;exact C
 have hu:∀j,j<n->w.cell? ⟨b,s+i*(g.μ l).z+f+j,none⟩=some ((w.cell? ⟨b,s+i*(g.μ l).z+f+j,none⟩).getD undef):=λj hj=>by
  obtain⟨u,e,_⟩:=hc j hj;rw[e];rfl
 refine⟨_,dJ ha hs (λj=>(w.cell? ⟨b,s+i*(g.μ l).z+f+j,none⟩).getD undef) hu,?_⟩;refine .agg _ _ (Iy ((h.rows l r hl).el y (zh hy)).1 rfl) Ξ λj v c hv p=>?_;have hj:j<n:=by have:=D4 p;simp at this;omega
 obtain⟨u,e,C⟩:=hc j hj;have:v=u:=by
  clear hc hu;simp[hj] at hv;rw[<-hv,e];rfl
 rw[this];exact C c p
theorem D1.mG(h:D1 X g st a w){l:Nat}{d:PV}(hv:Rd w g.imm g.μ st.u3 v (.ptr l i f))(hl:st.σ l=some r)(hy:r.els[i]? = some y)
  (ha:I4 X.P T=some false)(hf:y.cells[f]? = some d) :
  ∃u,(Instr.loadAt T v).run X.P w = .ok u w/\Rd w g.imm g.μ st.u3 u d:=by
 obtain⟨hp,b,s,hA,rfl⟩:=hv.aK;obtain⟨u,c,e,_⟩:=h.cell_of hl hy hf hA;exact⟨u,dK ha c,e⟩
theorem D1.iK(h:D1 X g st a w)(hv:Rd w g.imm g.μ st.u3 v (.rptr cs))
  (ha:I4 X.P T=some true)(hs:w9 X.P T=some n)(hf:n<=cs.length) :
  ∃u,(Instr.loadAt T v).run X.P w = .ok u w/\Rd w g.imm g.μ st.u3 u (.agg (cs.take n)):=by
 obtain⟨b,o,u,rfl,hsc,hc⟩:=hv.dA;refine⟨_,dJ ha hs u (λj hj=>(hc j cs[j] (zd Δ)).2.1),?_⟩;refine .agg _ _ ?_ Ξ λj v c hv e=>?_
 .rw[zf] at hsc |-;exact λc hc=>hsc c (zak hc)
 .have hj:j<n:=by have:=D4 e;simp at this;omega
  rw[zaq hj] at e;simp[hj] at hv;rw[<-hv];exact .cl (hc j c e).2.2
theorem D1.iM(h:D1 X g st a w){d:PV}(hv:Rd w g.imm g.μ st.u3 v (.rptr cs))
  (ha:I4 X.P T=some false)(hf:cs[0]? = some d) :
  ∃u,(Instr.loadAt T v).run X.P w = .ok u w/\Rd w g.imm g.μ st.u3 u d:=by
 obtain⟨b,o,u,rfl,hsc,hc⟩:=hv.dA;obtain⟨_,c,e⟩:=hc 0 d hf;exact⟨u 0,dK ha (Ω c),.cl e⟩
theorem pw{x:PV}{f:Nat}{cs:List PV}(hx:x.el=true)(hf:f+cs.length<=x.cells.length)(hsc:cs.all PV.sc=true) :
  (K7 x f cs).cells=x.cells.take f++cs++x.cells.drop (f+cs.length)/\(K7 x f cs).el=true:=by
 rw[zf] at hsc;by_cases hd:x.sc=true
 .have hc:=PV.gY hd;rw[hc] at hf |-;have e:K7 x f cs=Kh x cs:=by cases x <;> first | rfl | (simp[PV.sc] at hd)
  rw[e];match cs,hf,hsc with
  | [],_,_=>
   refine⟨?_,hx⟩;simp[Kh,hc]
  | [c],hf,hsc=>
   simp at hf;subst hf;have:=hsc c Ψ;refine⟨by simp[Kh,PV.gY this],?_⟩;simp only[Kh];cases c <;> first | exact this | (simp[PV.sc] at this)
  | _::_::_,hf,_=>simp at hf;omega
 .cases x <;> first | (exact absurd rfl hd) | (exact absurd hx hd) | (simp only[PV.cells,zT,Nat.le_zero_eq,Nat.add_eq_zero_iff,List.length_eq_zero_iff] at hf;obtain⟨rfl,rfl⟩:=hf;exact⟨rfl,rfl⟩) | skip
  rename_i es;simp only[PV.el,zf] at hx;refine⟨rfl,?_⟩;simp only[K7,PV.el,zf,zC];rintro c ((q | q) | q);·exact hx c (zak q)
  .exact hsc c q
  .exact hx c (zat q)
theorem D1.store(h:D1 X g st a w){l:Nat}{u:Value}{d:PV}(hv:Rd w g.imm g.μ st.u3 v (.ptr l i f))(hu:Rd w g.imm g.μ st.u3 u d)(hd:d.el=true)
  (hs:w9 X.P T=some d.cells.length)(hpos:0<d.cells.length)(hok:(Y5.sto l i f d.cells).ok st.σ) :
  ∃w',(Instr.storeAt T v u).run X.P w = .ok () w'/\D1 X g ⟨st.env,(Y5.sto l i f d.cells).apply st.σ⟩ a w':=by
 obtain⟨hp,b,s,hA,rfl⟩:=hv.aK;obtain⟨q,x,hl,hx,hlo,hf,hsc⟩:=hok;have A:=h.rows l q hl;obtain⟨c,R⟩:=hu.cells hd;have hxz:x.cells.length=(g.μ l).z:=by rw[A.z];exact (A.el x (zh hx)).2
 have hmine:∀j,j<u.cells.toList.length->L2 (g.μ l) q b (s+i*(g.μ l).z+f+j):=λj hj=>by
  have F:f+j<x.cells.length:=by simp only[Array.length_toList,c] at hj;omega
  have:=A.Xq hx (zd F) hA Δ;rwa [<-n8] at this
 have S:∀z∈u.cells.toList,one z=true:=λz hz=>by
  obtain⟨j,hj⟩:=za8 hz;have F:j<d.cells.length:=by have:=D4 hj;simp only[Array.length_toList,c] at this;exact this
  exact (R j z _ (Ω hj) (zd F)).one (zf.1 hsc _ (zk F))
 refine⟨_,Hx hs c (λj hj=>(A.own b _ (hmine j (by simpa[c] using hj))).2) S,?_⟩;have he:(Y5.sto l i f d.cells).apply st.σ=z7 st.σ l (some { q with els:=q.els.set i (K7 x f d.cells),cl:=q.cl&&d.cells.all PV.aP }):=by
  simp only[Y5.apply,hl,hx]
 rw[he];obtain⟨N,hc2⟩:=pw ((A.el x (zh hx)).1) hf hsc;have hlen:(K7 x f d.cells).cells.length=x.cells.length:=by rw[N];simp;omega
 refine h.write hl hmine Ψ (λe he=>?_) (λH x' j y C hy=>?_) (by simpa[c] using hpos)
 .rcases zan he with p | rfl
  .exact A.el e p
  .exact⟨hc2,by rw[hlen];exact (A.el x (zh hx)).2⟩
 .by_cases e:H=i
  .subst e;have hi:=D4 hx;rw[zaa hi] at C;cases C;rw[N] at hy;have hj:=D4 hy;simp at hj;by_cases q1:f<=j/\j<f+d.cells.length
   .have hw:=zad b u.cells.toList (s+H*(g.μ l).z+f) w (λj hj=>(A.own b _ (hmine j hj)).2.1) (j-f) (by simp[c];omega);rw[show s+H*(g.μ l).z+f+(j-f)=s+H*(g.μ l).z+j by omega] at hw;have G:d.cells[j-f]? = some y:=by
     rw[pu,zK Ξ,zU Ξ] at hy;simpa[n9,zce (show f<=x.cells.length by omega)] using hy
    have hr:=R (j-f) _ y (by rw[<-Array.getElem?_toList];exact zd (by simp[c];omega)) G;refine⟨b,s,_,hA,hw,hr,λp=>Δ,λp=>?_⟩;simp only[zo] at p;exact hr.aP (zf.1 p.2 y (zh G))
   .have G:x.cells[j]? = some y:=by
     rcases zE j f with V | V
     .rw[pu,zU Ξ,zaq V] at hy;exact hy
     .rw[zK Ξ] at hy;simp only[zD,n9,pm,zce (show f<=x.cells.length by omega)] at hy;rwa [show f+d.cells.length+(j-(f+d.cells.length))=j by omega] at hy
    obtain⟨u',k1,k2,k3⟩:=h.cell_of hl hx G hA;refine⟨b,s,u',hA,?_,k2,λp=>Δ,λp=>?_⟩
    .rw[me b _ _ w _ λ_ _=>by simp[c];omega];exact k1
    .simp only[zo] at p;exact k3 p.1
  .rw[zb0 (zav e)] at C;obtain⟨b',s',u',k1,k2,k3,k4,k5⟩:=A.cell H x' j y C hy;rw[hA] at k1;cases k1;refine⟨b,s,u',hA,?_,k3,k4,λp=>?_⟩
   .rw[me b _ _ w _ λ_ _=>?_];·exact k2
    .simp only[Array.length_toList,c];have hj:=PV.F1 hy;have hz':x'.cells.length=(g.μ l).z:=by rw[A.z];exact (A.el x' (zh C)).2
     rcases Nat.lt_or_gt_of_ne e with V | V
     .left;have:(H+1)*(g.μ l).z<=i*(g.μ l).z:=zp _ Δ;rw[un,za7] at this;omega
     .right;have:(i+1)*(g.μ l).z<=H*(g.μ l).z:=zp _ Δ;rw[un,za7] at this;omega
   .simp only[zo] at p;exact k5 p.1
end
end Go.Pw
namespace Go.Pw
open Go.RowKit
section
variable{X:Ctx}{g:Gh}{st:St}{a:Act}{w:World}{n:Nat}{K:Act->World->Prop}{Q:Exit->Act->World->Prop}{ρ:Option Nat}
theorem H7.at{σ σF:Nat->Option Row}(hs:H7 σ σF){l:Nat}{r:Row}(hp:∃c,σ l=some c)(hl:σF l=some r) :
  ∃c,σ l=some c/\c.els=r.els/\c.z=r.z/\c.cl=r.cl:=by
 obtain⟨c,h0⟩:=hp;obtain⟨r',e,p,q,s⟩:=hs l c h0;rw[hl] at e;cases e;exact⟨c,h0,p.symm,q.symm,s.symm⟩
theorem fh{o:Oper}{d:PV}(h:D1 X g st a w)(hnd:∀c,o.op ≠ .defer c)(e:∀t,o.dst=some t->t<X.N)
  (hv:∃u,(execOp a.eval o).run X.P w = .ok (.value u) w/\Rd w g.imm g.μ st.u3 u d)
  (s:∀q p w',D1 X q ⟨V1 st.env o.dst d,Y5.none.apply st.σ⟩ p w'->K p w'):o.wpIn (FX ρ) n X.P a w K Q:=by
 obtain⟨u,hr,hu⟩:=hv;exact G3 hnd hr (s g _ w (h.put e hu))
theorem qX{P:Program}{T off:Nat}{f:Nat}{ft:TypeId}{b o:Nat}(ho:U5 P T f=some (off,ft)) :
  (Instr.fieldAt T (.pointer (some ⟨b,o,none⟩)) f).run P w = .ok (.pointer (some ⟨b,o+off,none⟩)) w:=by
 unfold U5 at ho;cases hu:P.underlying T with
 | none=>rw[hu] at ho;cases ho
 | some D=>
  rw[hu] at ho;cases D <;> first | (simp at ho;done) | skip
  rename_i fs;simp only at ho;cases hf:fs[f]? with
  | none=>rw[hf] at ho;cases ho
  | some fd=>
   rw[hf] at ho;simp only at ho;cases c:w9 P fd.type with
   | none=>rw[c] at ho;cases ho
   | some m=>
    rw[c] at ho;cases m with
    | zero=>cases ho
    | succ m=>
     simp only[sm,Prod.mk.injEq] at ho;obtain⟨rfl,rfl⟩:=ho;simp only[Instr.fieldAt,zt,zZ hu,zi,hf,Instr.sureAddr,fieldPlace,F8 c];simp[L8]
variable {P:Program}{v:Value}{T:TypeId}{k:IntKind}{t:TypeId}{op:BinOp}
theorem UA{ft:TypeId}{cs:Array Value}{off n:Nat}(ha:I4 P ft=some true)(hs:w9 P ft=some n) :
  (part ft cs off).run P w = .ok (.agg (cs.extract off (off+n))) w:=by
 simp only[part,zt,po ha,zi,wd,F8 hs];rfl
theorem QC{ft:TypeId}{cs:Array Value}{off:Nat}(ha:I4 P ft=some false)(hv:cs[off]? = some v) :
  (part ft cs off).run P w = .ok v w:=by
 simp only[part,zt,po ha,zi,zj,wf,hv];rfl
theorem IB{P:Program}{T off:Nat}{f:Nat}{ft:TypeId}(ho:U5 P T f=some (off,ft)) :
  ∃fs fd,P.underlying T=some (.struct fs)/\fs[f]? = some fd/\fd.offset=off/\fd.type=ft:=by
 unfold U5 at ho;cases hu:P.underlying T with
 | none=>rw[hu] at ho;cases ho
 | some D=>
  rw[hu] at ho;cases D <;> first | (simp at ho;done) | skip
  rename_i fs;simp only at ho;cases hf:fs[f]? with
  | none=>rw[hf] at ho;cases ho
  | some fd=>
   rw[hf] at ho;simp only at ho;cases c:w9 P fd.type with
   | none=>rw[c] at ho;cases ho
   | some m=>
    rw[c] at ho;cases m with
    | zero=>cases ho
    | succ m=>
     simp only[sm,Prod.mk.injEq] at ho;exact⟨fs,fd,rfl,hf,ho.1,ho.2⟩
theorem O9{E:TypeId}(h:C1 P T=some E):P.underlying T=some (.slice E):=by
 unfold C1 at h;split at h <;> first | (cases h;assumption) | cases h
theorem UX{E:TypeId}{m:Nat}(h:DI P T=some (m,E)):P.underlying T=some (.array m E):=by
 unfold DI at h;split at h <;> first | (cases h;assumption) | cases h
theorem Va(h:UZ P T=some k):P.underlying T=some (.int k):=by
 unfold UZ at h;split at h <;> first | (cases h;assumption) | cases h
theorem Yg{x y r:Int}(h:Ru k op x y=some r):(binOp op t (.int k x) (.int k y)).run P w = .ok (.int k r) w:=by
 cases op <;> simp only[Ru] at h <;> first | (cases h;done) | skip
 case add=>cases h;simp[binOp,Op.intArith]
 case sub=>cases h;simp[binOp,Op.intArith]
 case mul=>cases h;simp[binOp,Op.intArith]
 case quo=>
  split at h;·cases h
  .rename_i hy;cases h;simp[binOp,Op.intDiv,hy]
 case rem=>
  split at h;·cases h
  .rename_i hy;cases h;simp[binOp,Op.intDiv,hy]
theorem Yh{x y:Int}{r:Bool}(h:RM op x y=some r):(binOp op t (.int k x) (.int k y)).run P w = .ok (.bool r) w:=by
 cases op <;> simp only[RM] at h <;> first | (cases h;done) | skip
 all_goals (cases h;simp[binOp,Op.intCmp])
theorem EN{x y:Operand}{u:Value}(h:(∀cs,v ≠ .agg cs)/\v ≠ .nilIface):(eqGuard op t x y v u).run P w = .ok () w:=by
 unfold eqGuard;cases v <;> first | (exact absurd rfl (h.1 _)) | (exact absurd rfl h.2) | (cases op <;> rfl)
theorem pn{x y:Operand}{u r:Value}(h:(∀cs,v ≠ .agg cs)/\v ≠ .nilIface)(hb:(binOp op t v u).run P w = .ok r w) :
  (do pure (.value (<-(do eqGuard op t x y v u;binOp op t v u:Sem Value))):Sem Next).run P w = .ok (.value r) w:=
 I2 (by simp only[zt,EN h,zi,hb])
theorem run_equal_bool{p q:Bool}(ht:P.underlying t=some .bool):(Op.equal t (.bool p) (.bool q)).run P w = .ok (p==q) w:=by
 have e:Op.maxDepth=9999+1:=rfl;unfold Op.equal;rw[e];generalize 9999=d;rw[Op.equalIn,zt,zZ ht];rfl
end
end Go.Pw
namespace Go.Pw
open Go.RowKit
section
variable{X:Ctx}{g:Gh}{st:St}{a:Act}{w:World}
theorem Bq{α:Type}{l:List α}{k j:Nat}{y:α}(h:(l.drop k)[j]? = some y):l[k+j]? = some y:=by rwa [pm] at h
theorem Rd.EL{w:World}{imm:Nat->Nat->Prop}{b o k:Nat}{cs:List PV}{u:Nat->Value}(hsc:cs.all PV.sc=true)
  (hc:∀(j:Nat) y,cs[j]? = some y->imm b (o+j)/\w.cell? ⟨b,o+j,none⟩=some (u j)/\Rd0 w imm (u j) y) :
  Rd0 w imm (.pointer (some ⟨b,o+k,none⟩)) (.rptr (cs.drop k)):=by
 refine .rptr b (o+k) _ (λj=>u (k+j)) ?_ (λj y hy=>?_) (λj y hy=>(hc _ y (Bq hy)).2.2)
 .rw[zf] at hsc |-;exact λc hc=>hsc c (zat hc)
 .have:=hc _ y (Bq hy);rw[n8];exact⟨this.1,this.2.1⟩
theorem qY{P:Program}{T E:TypeId}{z b s len c:Nat}{k:IntKind}{m:Int}(hE:C1 P T=some E)(hz:w9 P E=some z)(h0:0<=m)(hm:m<len) :
  (Instr.indexAt T (.slice (some ⟨b,s,none⟩) len c) (.int k m)).run P w = .ok (.pointer (some ⟨b,s+m.toNat*z,none⟩)) w:=by
 have hu:=O9 hE;simp only[Instr.indexAt,asIntOf,zt,or,zi,zZ hu];rw[zc ⟨h0,hm⟩];simp only[zt,F8 hz,zi,L8];rfl
theorem pU{P:Program}{T E:TypeId}{z b s len:Nat}{k:IntKind}{m:Int}(hE:DI P T=some (len,E))(hz:w9 P E=some z)(h0:0<=m)(hm:m<len) :
  (Instr.indexAt T (.pointer (some ⟨b,s,none⟩)) (.int k m)).run P w = .ok (.pointer (some ⟨b,s+m.toNat*z,none⟩)) w:=by
 have hu:=UX hE;simp only[Instr.indexAt,asIntOf,zt,or,zi,zZ hu,Instr.sureAddr];rw[zc ⟨h0,hm⟩];simp only[zt,F8 hz,zi,L8];rfl
set_option maxHeartbeats 2000000 in
theorem XH {o:Oper} {σF:Nat->Option Row} {d:PV} {e:Y5} (h:D1 X g st a w) (hop:E6 X.P σF (B6 st.env) o.dst o.op d e) (hs:H7 st.σ σF)
  (hlook:match o.op with | .move _ | .assign _ | .pick .. | .load .. | .nilCheck _ | .unOp .. | .binOp .. | .convert .. | .fieldAddr .. | .field .. | .indexAddr .. | .extract .. | .makeFunc .. => True | _=>False) :
  e = .none/\∃u,(execOp a.eval o).run X.P w = .ok (.value u) w/\Rd w g.imm g.μ st.u3 u d:=by
 obtain⟨dst,op,ty,pos,after,guard⟩:=o;simp only at hop hlook;cases hop <;> first | (exact hlook.elim) | refine⟨rfl,?_⟩
 case pureV hnd hnl hc=>exact hc _ w g.imm g.μ st.u3 a.eval rfl λx _=>h.eval x
 case move x=>exact⟨_,rfl,h.eval x⟩
 case assign x=>exact⟨_,rfl,h.eval x⟩
 case pick c p q t hc=>
  have hv:=h.eval c;rw[hc] at hv;have hb:=hv.gX;refine⟨if t then a.eval p else a.eval q,?_,?_⟩
  .simp only[execOp,hb];cases t <;> rfl
  .cases t;·exact h.eval q
   .exact h.eval p
 case pQ T x l i f r y m hx hl hy ha G hf=>
  have hv:=h.eval x;rw[hx] at hv;obtain⟨r0,H,h2,h3,h4⟩:=hs.at hv.aK.1 hl;obtain⟨u,hr,hu⟩:=h.pQ hv H Δa ha G hf;exact⟨u,I2 hr,hu⟩
 case mG T x l i f r y hx hl hy ha hf=>
  have hv:=h.eval x;rw[hx] at hv;obtain⟨r0,H,h2,h3,h4⟩:=hs.at hv.aK.1 hl;obtain⟨u,hr,hu⟩:=h.mG hv H Δa ha hf;exact⟨u,I2 hr,hu⟩
 case iK T x cs m hx ha G hf=>
  have hv:=h.eval x;rw[hx] at hv;obtain⟨u,hr,hu⟩:=h.iK hv ha G hf;exact⟨u,I2 hr,hu⟩
 case iM T x cs hx ha hf=>
  have hv:=h.eval x;rw[hx] at hv;obtain⟨u,hr,hu⟩:=h.iM hv ha hf;exact⟨u,I2 hr,hu⟩
 case nilCheckP x l i f hx=>
  have hv:=h.eval x;refine⟨_,?_,hv⟩;rw[hx] at hv;obtain⟨_,b,s,_,e⟩:=hv.aK;simp only[execOp,e];rfl
 case nilCheckR x cs hx=>
  have hv:=h.eval x;refine⟨_,?_,hv⟩;rw[hx] at hv;obtain⟨b,s,_,e,_⟩:=hv.dA;simp only[execOp,e];rfl
 case not t x b hx=>
  have hv:=h.eval x;rw[hx] at hv;refine⟨.bool (!b),?_,.cl (.bool _)⟩;simp only[execOp,hv.gX,Op.unary];rfl
 case neg t x k m hx=>
  have hv:=h.eval x;rw[hx] at hv;refine⟨.int k (k.wrap (0-m)),?_,.cl (.int _ _)⟩;simp only[execOp,hv.L1,Op.unary,Op.intArith];rfl
 case ari bop t t2 x y k p q r hx hy hr=>
  have hv:=h.eval x;have hu:=h.eval y;rw[hx] at hv;rw[hy] at hu;refine⟨.int k r,?_,.cl (.int _ _)⟩;simp only[execOp,hv.L1,hu.L1];exact pn ⟨λ_ q=>Γ,λq=>Γ⟩ (Yg hr)
 case cmp bop t t2 x y k p q r hx hy hr=>
  have hv:=h.eval x;have hu:=h.eval y;rw[hx] at hv;rw[hy] at hu;refine⟨.bool r,?_,.cl (.bool _)⟩;simp only[execOp,hv.L1,hu.L1];exact pn ⟨λ_ q=>Γ,λq=>Γ⟩ (Yh hr)
 case eqB t t2 x y p q hx hy ht=>
  have hv:=h.eval x;have hu:=h.eval y;rw[hx] at hv;rw[hy] at hu;refine⟨.bool (p==q),?_,.cl (.bool _)⟩;simp only[execOp,hv.gX,hu.gX];refine pn ⟨λ_ q=>Γ,λq=>Γ⟩ ?_;have e:(binOp .eql t (.bool p) (.bool q):Sem Value)=(do pure (.bool (<-Op.equal t (.bool p) (.bool q)))):=rfl;rw[e,zt,run_equal_bool ht];rfl
 case neB t t2 x y p q hx hy ht=>
  have hv:=h.eval x;have hu:=h.eval y;rw[hx] at hv;rw[hy] at hu;refine⟨.bool (p != q),?_,.cl (.bool _)⟩;simp only[execOp,hv.gX,hu.gX];refine pn ⟨λ_ q=>Γ,λq=>Γ⟩ ?_;have e:(binOp .neq t (.bool p) (.bool q):Sem Value)=(do pure (.bool (!(<-Op.equal t (.bool p) (.bool q))))):=rfl;rw[e,zt,run_equal_bool ht];rfl
 case eqS t t2 x y p q hx hy=>
  have hv:=h.eval x;have hu:=h.eval y;rw[hx] at hv;rw[hy] at hu;refine⟨.bool (p.toList==q.toList),?_,.cl (.bool _)⟩;simp only[execOp,hv.gV,hu.gV];exact pn ⟨λ_ q=>Γ,λq=>Γ⟩ (by simp[binOp,Op.stringOp])
 case neS t t2 x y p q hx hy=>
  have hv:=h.eval x;have hu:=h.eval y;rw[hx] at hv;rw[hy] at hu;refine⟨.bool (!(p.toList==q.toList)),?_,.cl (.bool _)⟩;simp only[execOp,hv.gV,hu.gV];exact pn ⟨λ_ q=>Γ,λq=>Γ⟩ (by simp[binOp,Op.stringOp])
 case conv s t x k k' m hx H h2=>
  have hv:=h.eval x;rw[hx] at hv;refine⟨.int k (k.wrap m),?_,.cl (.int _ _)⟩;simp only[execOp,hv.L1];refine I2 ?_;obtain⟨D,hD⟩:=zap.1 H;simp only[convert,zt,zZ hD,zZ (Va h2),zi];simp[Conv.intToInt]
 case fieldAddrP T x f l i q off ft hx ho=>
  have hv:=h.eval x;rw[hx] at hv;obtain⟨hp,b,s,hA,e⟩:=hv.aK;refine⟨_,?_,.ptr l i (q+off) b s hp hA⟩;simp only[execOp,e];rw[I2 (qX ho)];rw[n8]
 case fieldAddrR T x f cs off ft hx ho=>
  have hv:=h.eval x;rw[hx] at hv;obtain⟨b,o,u,e,hsc,hc⟩:=hv.dA;refine⟨_,?_,.cl (Rd.EL (k:=off) hsc hc)⟩;simp only[execOp,e];exact I2 (qX ho)
 case fieldA T x f cs off ft m hx ho ha G hn=>
  have hv:=h.eval x;rw[hx] at hv;obtain⟨vs,e,hlen,hc⟩:=hv.jd;obtain⟨fs,fd,H,h2,rfl,rfl⟩:=IB ho;refine⟨.agg (vs.extract fd.offset (fd.offset+m)),?_,?_⟩
  .simp only[execOp,e];refine I2 ?_;simp only[Instr.field,zt,zZ H,zi,h2,asAgg,or,UA ha G]
  .refine .agg _ _ ?_ Ξ λj v c N R=>?_
   .skip
    have hsc:cs.all PV.sc=true:=hv.FD;rw[zf] at hsc |-;exact λc hc=>hsc c (zat (zak hc))
   .have hj:j<m:=by have:=D4 R;simp at this;omega
    rw[zaq hj,pm] at R;have:vs[fd.offset+j]? = some v:=by
     rw[Array.getElem?_extract] at N;split at N;·exact N
     .cases N
    exact hc _ v c this R
 case fieldS T x f cs off ft hx ho ha hd=>
  have hv:=h.eval x;rw[hx] at hv;obtain⟨vs,e,hlen,hc⟩:=hv.jd;obtain⟨fs,fd,H,h2,rfl,rfl⟩:=IB ho;have F:fd.offset<vs.size:=by rw[hlen];exact D4 hd
  refine⟨vs[fd.offset],?_,hc _ _ d (zu F) hd⟩;simp only[execOp,e];refine I2 ?_;simp only[Instr.field,zt,zZ H,zi,h2,asAgg,or,QC ha (zu F)]
 case idxL T x y t xs k m e0 E hx hy h0 he hE hz=>
  have hv:=h.eval x;have hu:=h.eval y;rw[hx] at hv;rw[hy] at hu;obtain⟨A,c,z,u,e,H,h2,h3,h4,h5,h6⟩:=hv.ji;have F:=D4 he;obtain⟨b,s,rfl,h7⟩:=h5 Δ;have hz':=(h4 e0 (zh he)).2;rw[hz'] at hz;refine⟨.pointer (some ⟨b,s+m.toNat*z,none⟩),?_,.cl (.rptr b _ _ (λj=>u m.toNat j) ?_ (λj y S=>h7 m.toNat e0 j y he S) (λj y S=>h6 m.toNat e0 j y he S))⟩
  .simp only[execOp,e,hu.L1];exact I2 (qY hE hz h0 Δ)
  .rw[zf];exact PV.uO (h4 e0 (zh he)).1
 case idxR T x y l r k m E hx hl hy h0 hm hE hz=>
  have hv:=h.eval x;have hu:=h.eval y;rw[hx] at hv;rw[hy] at hu;obtain⟨hp,e⟩:=hv.df;obtain⟨r0,k1,k2,k3,k4⟩:=hs.at hp hl;have V:=h.rows l r0 k1;obtain⟨b,s,hA⟩:=V.spot (by have:=V.C;have:=V.n;rw[k2] at this;omega);refine⟨_,?_,.ptr l m.toNat 0 b s hp hA⟩;simp only[execOp,e,hu.L1,hA];refine I2 ?_;rw[qY hE hz h0 (by rw[V.n,k2];omega),V.z,k3];rfl
 case idxA T x y l i f k m len E z hx hy h0 hm hE hz=>
  have hv:=h.eval x;have hu:=h.eval y;rw[hx] at hv;rw[hy] at hu;obtain⟨hp,b,s,hA,e⟩:=hv.aK;refine⟨_,?_,.ptr l i (f+m.toNat*z) b s hp hA⟩;simp only[execOp,e,hu.L1];refine I2 ?_;rw[pU hE hz h0 hm,n8]
 case idxRA T x y cs k m len E z hx hy h0 hm hE hz=>
  have hv:=h.eval x;have hu:=h.eval y;rw[hx] at hv;rw[hy] at hu;obtain⟨b,o,u,e,hsc,hc⟩:=hv.dA;refine⟨_,?_,.cl (Rd.EL (k:=m.toNat*z) hsc hc)⟩;simp only[execOp,e,hu.L1];exact I2 (pU hE hz h0 hm)
 case extract x i ds hx hd=>
  have hv:=h.eval x;rw[hx] at hv;obtain⟨vs,e,hlen,hc⟩:=hv.Ba;have F:i<vs.size:=by rw[hlen];exact D4 hd
  refine⟨vs[i],?_,hc _ _ d (zu F) hd⟩;simp only[execOp,e];refine I2 ?_;simp only[Instr.extract,zu F];rfl
 case mkFunc fn cap=>
  refine⟨.func fn #[] (cap.map a.eval),by simp[execOp,Instr.makeFunc],.fn fn _ _ Ψ λi v c hv hc=>?_⟩;rw[Array.getElem?_map] at hv;rw[zW,Array.getElem?_toList] at hc;cases hq:cap[i]? with
  | none=>rw[hq] at hv;cases hv
  | some x=>
   rw[hq] at hv hc;cases hv;cases hc;exact h.eval x
end
end Go.Pw
namespace Go.Pw
open Go.RowKit
section
variable{X:Ctx}{g:Gh}{st:St}{a:Act}{w:World}{n:Nat}{K:Act->World->Prop}{Q:Exit->Act->World->Prop}{ρ:Option Nat}
variable {z:Nat}{o:Oper}{T:TypeId}{ys:List PV}
theorem XQ{w':World}{imm:Nat->Nat->Prop}{μ:Nat->L7}{u3:Nat->Prop}{l b n C:Nat}(hp:u3 l)(c:μ l=⟨some ⟨b,0,none⟩,n,C,z⟩) :
  Rd w' imm μ u3 (.pointer (some ⟨b,0,none⟩)) (.ptr l 0 0):=by
 have:=Rd.ptr (w:=w') (imm:=imm) (μ:=μ) (u3:=u3) l 0 0 b 0 hp (by rw[c]);simpa using this
theorem fL{w':World}{imm:Nat->Nat->Prop}{μ:Nat->L7}{u3:Nat->Prop}{l:Nat}{m:L7}(hp:u3 l)(c:μ l=m) :
  Rd w' imm μ u3 (.slice m.A m.n m.C) (.sl l):=by
 have:=Rd.sl (w:=w') (imm:=imm) (μ:=μ) (u3:=u3) l hp;rwa [c] at this
theorem D1.var(h:D1 X g st a w){l:Nat}{v:Value}{d:PV}{T:TypeId}{dst:Option Tmp}(e:∀t,dst=some t->t<X.N)(p:l<MB)(hl:st.σ l=none)(hv:Rd w g.imm g.μ st.u3 v d)(hd:d.el=true){cl:Bool}(hcl:cl=true->d.iD=true) :
  ∃F,D1 X F ⟨V1 st.env dst (.ptr l 0 0),z7 st.σ l (some ⟨[d],0,false,d.cells.length,cl⟩)⟩ (a.put dst (.pointer (some ⟨w.heap.size,0,none⟩))) (w.alloc (.cells v.cells T)):=by
 obtain⟨A,hc⟩:=hv.cells hd;have c:cl=true->∀(j:Nat) u y,v.cells[j]? = some u->d.cells[j]? = some y->Rd0 w g.imm u y:=by
  intro q j u y hu hy;have h0:=hv.iD (hcl q);exact ((Rd.cl h0:Rd w g.imm g.μ (λ_=>False) v d).cells hd).2 j u y hu hy |>.iD (by
   have hm:=zh hy;have s:=hcl q;by_cases hs:d.sc=true
   .rw[PV.gY hs] at hm;simp at hm;subst hm;exact s
   .cases d <;> first | (exact absurd rfl hs) | (exact absurd hd hs) | (exact absurd hm zb9) | skip
    rename_i cs;simp only[PV.iD,zf] at s;have:=s y hm;cases y <;> first | rfl | exact this | (simp[PV.aP] at this) | skip
    all_goals simp_all [PV.iD,PV.aP])
 have G:=h.xN (l:=l) (els:=[d]) (T:=T) (C:=1) (z:=d.cells.length) (opn:=false) (cl:=cl) v.cells p hl Ψ (by simp[A]) (by simp[hd])
  (λi x j y u hx hy hu=>by
   cases i with
   | zero=>
    simp at hx;subst hx;simp at hu;exact⟨hc j u y hu hy,λq=>c q j u y hu hy⟩
   | succ i=>simp at hx)
 exact⟨_,G.put e (XQ (n:=[d].length) (C:=1) (z:=d.cells.length) ⟨_,s7 _ _ _⟩ (s7 _ _ _))⟩
theorem a1e{x:Operand}(h:D1 X g st a w)(ho:o.op = .box T x){l:Nat}(e:∀t,o.dst=some t->t<X.N)(q:l<MB)(hl:st.σ l=none)(hx:(B6 st.env x).el=true)
  (u:∀p s w',D1 X p ⟨V1 st.env o.dst (.ptr l 0 0),(Y5.new l ⟨[B6 st.env x],0,false,(B6 st.env x).cells.length,(B6 st.env x).iD⟩).apply st.σ⟩ s w'->K s w'):o.wpIn (FX ρ) n X.P a w K Q:=by
 obtain⟨p,h'⟩:=h.var (T:=T) e q hl (h.eval x) hx (cl:=(B6 st.env x).iD) id;refine G3 (v:=.pointer (some ⟨w.heap.size,0,none⟩)) (w':=w.alloc (.cells (a.eval x).cells T)) (λc=>Ωi) ?_ (u p _ _ h');obtain⟨dst,op,ty,pos,after,guard⟩:=o;simp only at ho;subst ho;exact I2 rfl
theorem TG(h:D1 X g st a w)(ho:o.op = .alloc T){l:Nat}{v:Value}(e:∀t,o.dst=some t->t<X.N)(q:l<MB)(hl:st.σ l=none)(hz:B1 X.P T=some v)(hx:(PV.kG v).el=true)
  (hcl:(PV.kG v).iD=true)
  (u:∀p s w',D1 X p ⟨V1 st.env o.dst (.ptr l 0 0),(Y5.new l ⟨[PV.kG v],0,false,(PV.kG v).cells.length,true⟩).apply st.σ⟩ s w'->K s w'):o.wpIn (FX ρ) n X.P a w K Q:=by
 obtain⟨p,h'⟩:=h.var (T:=T) e q hl (.cl (xI w g.imm v)) hx (cl:=true) (λ_=>hcl);refine G3 (v:=.pointer (some ⟨w.heap.size,0,none⟩)) (w':=w.alloc (.cells v.cells T)) (λc=>Ωi) ?_ (u p _ _ h');obtain⟨dst,op,ty,pos,after,guard⟩:=o;simp only at ho;subst ho;refine I2 ?_;simp only[Instr.alloc,zt,nx hz,zi];rfl
theorem TF(v:Value):(PV.GF v).aP=true:=by
 unfold PV.GF;split <;> rfl
theorem Of(v:Value):(PV.kG v).iD=true:=by
 unfold PV.kG;split
 .split
  .simp only[PV.iD,zf];intro y hy;obtain⟨u,_,rfl⟩:=zP.1 hy;exact TF u
  .rfl
 .split <;> rfl
 .unfold PV.GF;split <;> rfl
theorem TO{x y:Operand}{l i f:Nat}(h:D1 X g st a w)(ho:o.op = .store T x y)(e:∀t,o.dst=some t->t<X.N)(hx:B6 st.env x = .ptr l i f){d:PV}(hd:B6 st.env y=d\/(B6 st.env y).w1=d)
  (hy:d.el=true)(hs:w9 X.P T=some d.cells.length)(hpos:0<d.cells.length)(hok:(Y5.sto l i f d.cells).ok st.σ)
  (s:∀q p w',D1 X q ⟨V1 st.env o.dst (.tup []),(Y5.sto l i f d.cells).apply st.σ⟩ p w'->K p w'):o.wpIn (FX ρ) n X.P a w K Q:=by
 have hv:=h.eval x;rw[hx] at hv;have hu:Rd w g.imm g.μ st.u3 (a.eval y) d:=by
  rcases hd with rfl | rfl
  .exact h.eval y
  .exact (h.eval y).w1
 obtain⟨w',hr,h'⟩:=h.store hv hu hy hs hpos hok;refine xA (w':=w') (λc=>Ωi) ?_ (s g _ _ (h'.put e (.cl (.tup #[] [] rfl λi v c _ hc=>Ωj))));obtain⟨dst,op,ty,pos,after,guard⟩:=o;simp only at ho;subst ho;exact OH hr
theorem a0o{i j:Nat}(h:j<z):(i*z+j) / z=i/\(i*z+j) % z=j:=by
 constructor;·rw[zbf,Nat.add_mul_div_right _ _ Δ,Nat.div_eq_of_lt h,m7]
 .rw[zbf,Nat.add_mul_mod_self_right,zca h]
theorem Src.same{σ σF:Nat->Option Row}{d:PV}{cl:Bool}(hs:H7 σ σF)(hp:∀l,d = .sl l->∃c,σ l=some c)(h:Src σF d ys cl):Src σ d ys cl:=by
 rcases h with h | ⟨l,r,e,p,q,s⟩
 .exact .inl h
 .obtain⟨c,k1,k2,A,u⟩:=hs.at (hp l e) p;exact .inr ⟨l,c,e,k1,by rw[q,k2],by rw[s,u]⟩
theorem Src.reads(h:D1 X g st a w){v:Value}{d:PV}{cl:Bool}(hv:Rd w g.imm g.μ st.u3 v d)(hd:Src st.σ d ys cl)(hz:∀y∈ys,y.cells.length=z) :
  ∃B c,∃vals:List Value,v = .slice B ys.length c/\(∀x∈ys,x.el=true)/\vals.length=ys.length*z /\
   (∀(i:Nat) x (j:Nat) y u,ys[i]? = some x->x.cells[j]? = some y->vals[i*z+j]? = some u->Rd w g.imm g.μ st.u3 u y/\(cl=true->Rd0 w g.imm u y)) /\
   (∀u∈vals,one u=true)/\(0<ys.length->∃b s,B=some ⟨b,s,none⟩/\∀(j:Nat) u,vals[j]? = some u->w.cell? ⟨b,s+j,none⟩=some u):=by
 have key:∃B c,v = .slice B ys.length c/\(∀x∈ys,x.el=true)/\(0<ys.length->∃b s,B=some ⟨b,s,none⟩ /\
   ∀(i:Nat) x (j:Nat) y,ys[i]? = some x->x.cells[j]? = some y->∃u,w.cell? ⟨b,s+(i*z+j),none⟩=some u/\Rd w g.imm g.μ st.u3 u y/\(cl=true->Rd0 w g.imm u y)):=by
  rcases hd with ⟨t,rfl,rfl⟩ | ⟨l,r,rfl,R,rfl,rfl⟩
  .obtain⟨A,c,z',u,rfl,h1,R,h3,S,h5,V⟩:=hv.ji;refine⟨A,c,rfl,λx hx=>(S x hx).1,λh0=>?_⟩;obtain⟨b,s,hA,h7⟩:=h5 h0;refine⟨b,s,hA,λi x j y hx hy=>?_⟩;have hm:=zh hx;have:z'=z:=by rw[<-(S x hm).2,hz x hm]
   subst this;have:=(h7 i x j y hx hy).2;rw[n8] at this;exact⟨_,this,.cl (V i x j y hx hy),λ_=>V i x j y hx hy⟩
  .obtain⟨hp,e⟩:=hv.df;have F:=h.rows l r R;refine⟨_,_,by rw[e,F.n],λx hx=>(F.el x hx).1,λh0=>?_⟩;obtain⟨b,s,hA⟩:=F.spot (by have:=F.C;have:=F.n;omega);refine⟨b,s,hA,λi x j y hx hy=>?_⟩;have hm:=zh hx;have:(g.μ l).z=z:=by rw[F.z,<-(F.el x hm).2,hz x hm]
   obtain⟨u,k1,k2,k3⟩:=h.cell_of R hx hy hA;rw[this,n8] at k1;exact⟨u,k1,k2,k3⟩
 obtain⟨B,c,e,hel,hk⟩:=key;by_cases h0:0<ys.length
 .obtain⟨b,s,hB,hc⟩:=hk h0;have H:∀k,k<ys.length*z->∃u,w.cell? ⟨b,s+k,none⟩=some u/\one u=true:=by
   intro k G;have N:0<z:=Nat.pos_of_ne_zero (λq=>by subst q;omega);have hi:k / z<ys.length:=(Nat.div_lt_iff_lt_mul N).2 G;have hx:=zd hi;have hj:k % z<(ys[k / z]).cells.length:=by rw[hz _ (zk hi)];exact Nat.mod_lt _ N
   obtain⟨u,k1,k2,_⟩:=hc _ _ _ _ hx (zd hj);have:k / z*z+k % z=k:=by rw[Nat.mul_comm];exact Nat.div_add_mod k z
   rw[this] at k1;exact⟨u,k1,k2.one (PV.uO (hel _ (zk hi)) _ (zk hj))⟩
  refine⟨B,c,(List.range (ys.length*z)).map λk=>(w.cell? ⟨b,s+k,none⟩).getD undef,e,hel,Ψ,λi x j y u hx hy hu=>?_,λu hu=>?_,λ_=>⟨b,s,hB,λj u hu=>?_⟩⟩
  .obtain⟨u',k1,k2⟩:=hc i x j y hx hy;have p:=D4 hu;simp at p;simp[p,k1] at hu;subst hu;exact k2
  .obtain⟨k,G,rfl⟩:=zP.1 hu;obtain⟨u',k1,k2⟩:=H k (Ω (G));rw[k1];exact k2
  .have p:=D4 hu;simp at p;obtain⟨u',k1,_⟩:=H j p;simp[p,k1] at hu;rw[k1,hu]
 .have:ys = []:=by cases ys <;> simp_all
  subst this;exact⟨B,c,[],e,hel,Ψ,λi x j y u hx=>by simp at hx,λu hu=>by simp at hu,λq=>absurd q h0⟩
theorem BL{xs:List PV}{A B:List Value}{R:Value->PV->Prop}(hA:A.length=xs.length*z)(hz:∀x∈xs++ys,x.cells.length=z)
  (ha:∀(i:Nat) x (j:Nat) y u,xs[i]? = some x->x.cells[j]? = some y->A[i*z+j]? = some u->R u y)
  (hb:∀(i:Nat) x (j:Nat) y u,ys[i]? = some x->x.cells[j]? = some y->B[i*z+j]? = some u->R u y)(C:List Value)(s:B.length=ys.length*z) :
  ∀(i:Nat) x (j:Nat) y u,(xs++ys)[i]? = some x->x.cells[j]? = some y->(A++B++C)[i*z+j]? = some u->R u y:=by
 intro i x j y u hx hy hu;have hj:j<z:=by rw[<-hz x (zh hx)];exact PV.F1 hy
 have hi:=D4 hx;simp at hi;rcases zE i xs.length with q | q
 .rw[zU q] at hx;have:(i+1)*z<=xs.length*z:=zp _ Δ;rw[un,za7] at this;rw[pu,zU Δ] at hu;exact ha i x j y u hx hy hu
 .rw[zK q] at hx;have c:(i-xs.length)*z=i*z-xs.length*z:=Nat.sub_mul _ _ _;have p:xs.length*z<=i*z:=zp _ q;have e:(i+1)*z<=(xs.length+ys.length)*z:=zp _ Δ;rw[un,za7,un] at e;rw[pu,zK Δ,zU Δ] at hu;refine hb (i-xs.length) x j y u hx hy ?_;rw[c,show i*z-xs.length*z+j=i*z+j-A.length by omega];exact hu
end
end Go.Pw
namespace Go.Pw
open Go.RowKit
section
variable{X:Ctx}{g:Gh}{st:St}{a:Act}{w:World}{n:Nat}{K:Act->World->Prop}{Q:Exit->Act->World->Prop}{ρ:Option Nat}{P:Program}
theorem Gq{T:TypeId}{z b:Nat}{v:Value}(c:w9 P T=some z)(e:I1 P T=some b)(p:B1 P T=some v) :
  ∃i,P.info? T=some i/\i.size=z/\i.bytes=b/\i.zero=some v:=by
 unfold w9 at c;unfold I1 at e;unfold B1 at p;cases hi:P.info? T with
 | none=>rw[hi] at c;cases c
 | some i=>rw[hi] at c e p;exact⟨i,rfl,Ω c,Ω e,Ω p⟩
theorem pk{T E:TypeId}{ty:TypeId}{z nS C c:Nat}{base B:Option Addr}(hE:C1 P T=some E)(hz:w9 P E=some z)(e:nS<=C) :
  (Builtin.append_ #[T,T] ty #[.slice base nS C,.slice B 0 c]).run P w = .ok (.slice base nS C) w:=by
 have hu:=O9 hE;unfold w9 at hz;cases hi:P.info? E with
 | none=>rw[hi] at hz;cases hz
 | some i=>
  cases B <;> cases base <;> simp[Builtin.append_,zZ hu,sizeOf,typeInfo,hi,Builtin.lenOf,e,Builtin.firstCells,loadCells,loadCellsFrom,storeCells]
theorem nw{T E:TypeId}{ty:TypeId}{z nS C m c b s:Nat}{B:Addr}{vals:List Value}(hE:C1 P T=some E)(hz:w9 P E=some z)(h:nS+m<=C)
  (hl:vals.length=m*z)(hv:∀(j:Nat) u,vals[j]? = some u->w.cell? (B.add j)=some u)(q:∀u∈vals,one u=true)
  (hc:∀j,j<vals.length->(w.cell? ⟨b,s+nS*z+j,none⟩).isSome=true/\w.frozen? ⟨b,s+nS*z+j,none⟩=false) :
  (Builtin.append_ #[T,T] ty #[.slice (some ⟨b,s,none⟩) nS C,.slice (some B) m c]).run P w = .ok (.slice (some ⟨b,s,none⟩) (nS+m) C) (w.setCells b (s+nS*z) vals):=by
 have hu:=O9 hE;unfold w9 at hz;cases hi:P.info? E with
 | none=>rw[hi] at hz;cases hz
 | some i=>
  rw[hi] at hz;have p:i.size=z:=Ω hz
  subst p;have hf:=run_firstCells_some (P:=P) w i.size m B m c vals hl hv;have e:=run_storeCells_cells (P:=P) b (s+nS*i.size) vals 0 w (λj hj=>Ω ((hc j hj).1)) (λj hj=>Ω ((hc j hj).2)) (λu hu=>by rw[<-GG];exact q u hu);simp only[zam] at e;simp[Builtin.append_,zZ hu,sizeOf,typeInfo,hi,Builtin.lenOf,h,hf,L8,e]
theorem Yx{α:Type}(f:Nat->α)(k:Nat)(x y:α):z7 (z7 f k x) k y=z7 f k y:=by
 funext i
 unfold z7;split <;> rfl
theorem lf(w:World)(need old:Nat)(e:TypeId):need<=grownCap w need old e:=by
 simp only[grownCap,Question.cut];omega
theorem kr{T E:TypeId}{ty:TypeId}{z nS C m c by_:Nat}{A:Option Addr}{B:Addr}{olds vals:List Value}{zv:Value}(hE:C1 P T=some E)(hz:w9 P E=some z)(hb:I1 P E=some by_)
  (hzv:B1 P E=some zv)(hzz:zv.cells.size=z)(p:C<nS+m)(H:nS<=C)(hnil:A=none->C=0)
  (hlo:olds.length=nS*z)(ho:0<nS->∃b s,A=some ⟨b,s,none⟩/\∀(j:Nat) u,olds[j]? = some u->w.cell? ⟨b,s+j,none⟩=some u)
  (hl:vals.length=m*z)(hv:∀(j:Nat) u,vals[j]? = some u->w.cell? (B.add j)=some u)(hfit:(nS+m)*by_<=140737488355328)(h63:nS+m<=9223372036854775807) :
  ∃C' cs,(Builtin.append_ #[T,T] ty #[.slice A nS C,.slice (some B) m c]).run P w = .ok (.slice (some ⟨w.heap.size,0,none⟩) (nS+m) C') (w.drew.alloc (.cells cs E)) /\
   nS+m<=C'/\cs.size=C'*z/\∃rest,cs.toList=olds++vals++rest:=by
 have hu:=O9 hE;obtain⟨i,hi,rfl,rfl,e⟩:=Gq hz hb hzv;have hm:0<m:=Δ
 cases A with
 | none=>
  have h0:=hnil rfl;subst h0;obtain rfl:nS=0:=Δ
  have:olds = []:=by cases olds <;> simp_all
  subst this;simp only[m7] at hfit h63 p |-;have:=run_append_nil (P:=P) w T ty E i zv hu hi e B m c vals hl hv hm Δ Δ;refine⟨_,_,this,lf _ _ _ _,?_,?_⟩
  .simp only[zb1,size_zeroCells,List.size_toArray,hl,hzz];rw[<-un];congr 1;have:=lf w m 0 E;omega
  .exact⟨(Builtin.zeroCells zv.cells (grownCap w m 0 E-m)).toList,by rw[Array.toList_append];simp⟩
 | some F=>
  have h:∀(j:Nat) u,olds[j]? = some u->w.cell? (F.add j)=some u:=by
   intro j u hj;have h0:0<nS:=by
    rcases m8 nS with q | q
    .subst q;have:=D4 hj;omega
    .exact q
   obtain⟨b,s,hA,G⟩:=ho h0;cases hA;rw[L8];exact G j u hj
  have:=run_append_grow (P:=P) w T ty E i zv hu hi e F nS C olds hlo h B m c vals hl hv p Δ (growslice_fits p hfit);refine⟨_,_,this,lf _ _ _ _,?_,?_⟩
  .simp only[zb1,size_zeroCells,List.size_toArray,hl,hlo,hzz];rw[<-un,<-un];congr 1;have:=lf w (nS+m) C E;omega
  .exact⟨(Builtin.zeroCells zv.cells (grownCap w (nS+m) C E-(nS+m))).toList,by rw[Array.toList_append,Array.toList_append]⟩
theorem D1.grown(h:D1 X g st a w){l:Nat}{xs ys:List PV}{C z:Nat}{cl:Bool}{E:TypeId}{cs:Array Value}{olds vals rest:List Value}(p:l<MB)(hl:st.σ l=none)
  (N:(xs++ys).length<=C)(e:cs.size=C*z)(hrest:cs.toList=olds++vals++rest)(hel:∀x∈xs++ys,x.el=true/\x.cells.length=z)
  (hA:olds.length=xs.length*z)(H:vals.length=ys.length*z)
  (ha:∀(i:Nat) x (j:Nat) y u,xs[i]? = some x->x.cells[j]? = some y->olds[i*z+j]? = some u->Rd w g.imm g.μ st.u3 u y/\(cl=true->Rd0 w g.imm u y))
  (hb:∀(i:Nat) x (j:Nat) y u,ys[i]? = some x->x.cells[j]? = some y->vals[i*z+j]? = some u->Rd w g.imm g.μ st.u3 u y/\(cl=true->Rd0 w g.imm u y)) :
  ∃A,D1 X A ⟨st.env,z7 st.σ l (some ⟨xs++ys,xs.length,true,z,cl⟩)⟩ a (w.drew.alloc (.cells cs E))/\A.μ l=⟨some ⟨w.heap.size,0,none⟩,(xs++ys).length,C,z⟩:=by
 have G:=h.drew.xN (l:=l) (els:=xs++ys) (T:=E) (C:=C) (z:=z) (opn:=true) (cl:=cl) cs p hl N e hel (λi x j y u hx hy hu=>by
  have s:(olds++vals++rest)[i*z+j]? = some u:=by rw[<-hrest];simpa using hu
  have:=BL (R:=λu y=>Rd w g.imm g.μ st.u3 u y/\(cl=true->Rd0 w g.imm u y)) hA (λx hx=>(hel x hx).2) ha hb rest H i x j y u hx hy s;have c:Ext w g.imm w.drew g.imm:=⟨λ_ _ q=>q,λ_ _ _=>rfl,λ_ _ _ _ q _=>q⟩;exact⟨this.1.mono c λ_ q=>⟨q,rfl⟩,λq=>(this.2 q).mono c⟩)
 have F:=G.pM (l:=l) (s7 _ _ _) xs.length (rg _) Ψ true (λ_=>rfl);simp only[Yx] at F;exact⟨_,F,s7 _ _ _⟩
end
end Go.Pw
namespace Go.Pw
open Go.RowKit
section
variable{X:Ctx}{g:Gh}{st:St}{a:Act}{w:World}{n:Nat}{K:Act->World->Prop}{Q:Exit->Act->World->Prop}{ρ:Option Nat}{P:Program}
variable {o:Oper}{x y:Operand}{z:Nat}
theorem eh{ts:Array TypeId}(ho:o.op = .call { callee:=.builtin .append,args:=#[x,y],argTypes:=ts }){v:Value}{w':World}
  (h:(Builtin.append_ ts o.type #[a.eval x,a.eval y]).run P w = .ok v w'):(execOp a.eval o).run P w = .ok (.value v) w':=by
 obtain⟨dst,op,ty,pos,after,guard⟩:=o;simp only at ho;subst ho;have e:Array.map a.eval #[x,y] = #[a.eval x,a.eval y]:=Ψ
 rw[<-e] at h;exact I2 h
theorem D1.AV(h:D1 X g st a w){l:Nat}{A:Option Addr}{xs:List PV}(p:l<MB)(hl:st.σ l=none)(hA:A=none->xs.length=0)
  (hel:∀x∈xs,x.el=true/\x.cells.length=z)
  (hc:0<xs.length->∃b s,A=some ⟨b,s,none⟩/\∀(i:Nat) x (j:Nat) y,xs[i]? = some x->x.cells[j]? = some y->∃u,g.imm b (s+i*z+j)/\w.cell? ⟨b,s+i*z+j,none⟩=some u/\Rd0 w g.imm u y)(cl:Bool) :
  D1 X ⟨g.imm,z7 g.μ l ⟨A,xs.length,xs.length,z⟩⟩ ⟨st.env,z7 st.σ l (some ⟨xs,xs.length,true,z,cl⟩)⟩ a w:=by
 have c:∀b o,¬L2 ⟨A,xs.length,xs.length,z⟩ ⟨xs,xs.length,true,z,cl⟩ b o:=by
  rintro b o ⟨s,_,F,G⟩;simp only[wd] at F G;omega
 refine h.row p hl ⟨rfl,rfl,zq _,zq _,hel,hA,λq=>?_,λi x j y hx hy=>?_,λb o q=>absurd q (c b o)⟩ (λ_ _ b o _ _=>c b o) (λb o q=>absurd q (c b o))
 .obtain⟨b,s,e,_⟩:=hc q;exact⟨b,s,e⟩
 .obtain⟨b,s,e,k⟩:=hc (by have:=D4 hx;simp only at this;omega);obtain⟨u,k1,k2,C⟩:=k i x j y hx hy;exact⟨b,s,u,e,k2,.cl C,λ_=>k1,λ_=>C⟩
theorem XB{T E:TypeId}{xs ys:List PV}{cl:Bool}{by_ l:Nat}{zv:Value}(h:D1 X g st a w)
  (ho:o.op = .call { callee:=.builtin .append,args:=#[x,y],argTypes:=#[T,T] })(p:∀t,o.dst=some t->t<X.N)(G:l<MB)(hl:st.σ l=none)
  (hx:B6 st.env x = .H4 true xs)(hy:Src st.σ (B6 st.env y) ys cl)(hE:C1 X.P T=some E)(hz:w9 X.P E=some z)(hb:I1 X.P E=some by_)(hzv:B1 X.P E=some zv)(hzz:zv.cells.size=z)
  (hel:∀e∈xs++ys,e.cells.length=z)(hfit:(xs.length+ys.length)*by_<=140737488355328)(h63:xs.length+ys.length<=9223372036854775807)
  (hK:∀F a' w',D1 X F ⟨V1 st.env o.dst (.sl l),(Y5.new l ⟨xs++ys,xs.length,true,z,cl⟩).apply st.σ⟩ a' w'->K a' w'):o.wpIn (FX ρ) n X.P a w K Q:=by
 have hnd:∀c,o.op ≠ .defer c:=λc=>by rw[ho];simp
 have hv:=h.eval x;have hu:=h.eval y;rw[hx] at hv;obtain⟨A,c,z',u,e,h1,h2,h3,h4,h5,h6⟩:=hv.ji;have hc:=h2 rfl;subst hc;obtain⟨B,cB,vals,eB,V,H,hvr,hone,hvc⟩:=Src.reads h hu hy (z:=z) (λy hy=>hel y (za0 _ hy));rcases m8 ys.length with hm | hm
 .have:ys = []:=by cases ys <;> simp_all
  subst this;simp only[t6] at hel hK;have hr:(execOp a.eval o).run X.P w = .ok (.value (.slice A xs.length xs.length)) w:=
   eh ho (by rw[e,eB];exact pk hE hz (zq _))
  have hs:=h.AV (l:=l) (A:=A) (xs:=xs) (z:=z) G hl h3 (λx hx=>⟨(h4 x hx).1,hel x hx⟩) (λh0=>by
   obtain⟨b,s,hA,h7⟩:=h5 h0;refine⟨b,s,hA,λi x j y hx hy=>?_⟩;have hmx:=zh hx;have:z'=z:=by rw[<-(h4 x hmx).2,hel x hmx]
   subst this;exact⟨_,(h7 i x j y hx hy).1,(h7 i x j y hx hy).2,h6 i x j y hx hy⟩) cl
  exact G3 hnd hr (hK _ _ _ (hs.put p (fL ⟨_,s7 _ _ _⟩ (s7 _ _ _))))
 .obtain⟨bB,sB,rfl,hBc⟩:=hvc hm;obtain⟨A',cA,olds,eA,S,hlo,R,_,hoc⟩:=Src.reads h hv (.inl ⟨true,rfl,rfl⟩:Src st.σ (.H4 true xs) xs true) (z:=z) (λy hy=>hel y (zac _ hy));rw[e] at eA;cases eA;obtain⟨C',cs,hr,hC',hcs,rest,hrest⟩:=kr (P:=X.P) (w:=w) (ty:=o.type) (c:=cB) (B:=⟨bB,sB,none⟩) (m:=ys.length) hE hz hb hzv hzz Δ (zq _) h3 hlo (λq=>hoc q) H
   (λj u hj=>ΩC) hfit h63
  obtain⟨F,hs,hμ⟩:=h.grown (l:=l) (xs:=xs) (ys:=ys) (C:=C') (z:=z) (cl:=cl) (E:=E) G hl (Ω (hC')) hcs hrest
   (λe he=>⟨(zC.1 he).elim (S e) (V e),hel e he⟩) hlo H (λi x j y u hx hy hu=>⟨(R i x j y u hx hy hu).1,λ_=>(R i x j y u hx hy hu).2 rfl⟩) hvr
  refine G3 hnd (eh ho (by rw[e,eB];exact hr)) (hK F _ _ (hs.put p ?_));have:=fL (w':=w.drew.alloc (.cells cs E)) (imm:=F.imm) (μ:=F.μ) (u3:=St.u3 ⟨st.env,z7 st.σ l (some ⟨xs++ys,xs.length,true,z,cl⟩)⟩) ⟨_,s7 _ _ _⟩ hμ;simpa using this
theorem XA{T E:TypeId}{ys:List PV}{cl:Bool}{by_ l s:Nat}{r:Row}{zv:Value}(h:D1 X g st a w)
  (ho:o.op = .call { callee:=.builtin .append,args:=#[x,y],argTypes:=#[T,T] })(hdst:∀t,o.dst=some t->t<X.N)(hlm:l<MB)(hl:st.σ l=none)
  (hx:B6 st.env x = .sl s)(p:st.σ s=some r)(hop:r.opn=true)(hy:Src st.σ (B6 st.env y) ys cl)(hE:C1 X.P T=some E)(hz:w9 X.P E=some z)(hb:I1 X.P E=some by_)(hzv:B1 X.P E=some zv)
  (hzz:zv.cells.size=z)(hel:∀e∈r.els++ys,e.cells.length=z)(hrz:r.z=z)(hfit:(r.els.length+ys.length)*by_<=140737488355328)(h63:r.els.length+ys.length<=9223372036854775807)
  (hK:∀g' a' w',D1 X g' ⟨V1 st.env o.dst (.sl l),(Y5.app s l ⟨r.els++ys,r.els.length,true,z,r.cl&&cl⟩).apply st.σ⟩ a' w'->K a' w'):o.wpIn (FX ρ) n X.P a w K Q:=by
 have hnd:∀c,o.op ≠ .defer c:=λc=>by rw[ho];simp
 have hsl:s≠l:=λq=>by rw[q,hl] at p;cases p
 simp only[Y5.apply,p] at hK;have hv:=h.eval x;have hu:=h.eval y;rw[hx] at hv;obtain⟨hp,e⟩:=hv.df;have G:=h.rows s r p;obtain⟨B,cB,vals,eB,hyel,hlv,hvr,hone,hvc⟩:=Src.reads h hu hy (z:=z) (λy hy=>hel y (za0 _ hy));have hF:=h.pM p r.els.length (by have:=G.lo;have:=G.n;omega) (zq _) false (λq=>Γ);have hFl:z7 st.σ s (some { r with lo:=r.els.length,opn:=false }) l=none:=by rw[r8 _ _ (zav hsl)];exact hl
 have V:Ext w g.imm w (qu g st.σ s r.els.length):=⟨λ_ _ q=>.inl q,λ_ _ _=>rfl,λ_ _ _ _ q _=>q⟩;have hpF:∀l',st.u3 l'->St.u3 ⟨st.env,z7 st.σ s (some { r with lo:=r.els.length,opn:=false })⟩ l'/\g.μ l'=g.μ l':=by
  rintro l' ⟨r',hr'⟩;refine⟨?_,rfl⟩;by_cases q:l'=s
  .exact⟨_,by rw[q];exact s7 _ _ _⟩
  .exact⟨r',by rw[show (St.mk st.env (z7 st.σ s (some { r with lo:=r.els.length,opn:=false }))).σ l'=st.σ l' from r8 _ _ q];exact hr'⟩
 have hRF:=hF.rows s { r with lo:=r.els.length,opn:=false } (s7 _ _ _);have hmz:(g.μ s).z=z:=by rw[G.z,hrz]
 rcases zE (g.μ s).C ((g.μ s).n+ys.length) with hbig | hroom
 .-- a new block
  have hm:0<ys.length:=by have:=G.C;omega
  obtain⟨bB,sB,rfl,hBc⟩:=hvc hm;obtain⟨A',cA,olds,eA,hxel,hlo,hor,_,hoc⟩:=Src.reads h hv (.inr ⟨s,r,rfl,p,rfl,rfl⟩:Src st.σ (.sl s) r.els r.cl) (z:=z) (λy hy=>hel y (zac _ hy));rw[e] at eA;simp only[Value.slice.injEq] at eA;obtain⟨rfl,hn',rfl⟩:=eA;rw[hn'] at e hbig;obtain⟨C',cs,hr,hC',hcs,rest,hrest⟩:=kr (P:=X.P) (w:=w) (ty:=o.type) (c:=cB) (B:=⟨bB,sB,none⟩) (m:=ys.length) hE hz hb hzv hzz hbig (by rw[<-hn'];exact G.C) G.nil hlo (λq=>hoc q) hlv
   (λj u hj=>ΩC) hfit h63
  obtain⟨g',hs,hμ⟩:=hF.grown (l:=l) (xs:=r.els) (ys:=ys) (C:=C') (z:=z) (cl:=r.cl&&cl) (E:=E) hlm hFl (Ω (hC')) hcs hrest
   (λe he=>⟨(zC.1 he).elim (hxel e) (hyel e),hel e he⟩) hlo hlv
   (λi x j y u hx hy hu=>⟨(hor i x j y u hx hy hu).1.mono V hpF,λq=>((hor i x j y u hx hy hu).2 (by simp at q;exact q.1)).mono V⟩)
   (λi x j y u hx hy hu=>⟨(hvr i x j y u hx hy hu).1.mono V hpF,λq=>((hvr i x j y u hx hy hu).2 (by simp at q;exact q.2)).mono V⟩)
  refine G3 hnd (eh ho (by rw[e,eB];exact hr)) (hK g' _ _ (hs.put hdst ?_));have:=fL (w':=w.drew.alloc (.cells cs E)) (imm:=g'.imm) (μ:=g'.μ)
   (u3:=St.u3 ⟨st.env,z7 (z7 st.σ s (some { r with lo:=r.els.length,opn:=false })) l (some ⟨r.els++ys,r.els.length,true,z,r.cl&&cl⟩)⟩) ⟨_,s7 _ _ _⟩ hμ
  simpa using this
 .-- in place
  have hn:=G.n;have hT:∀b s',(g.μ s).A=some ⟨b,s',none⟩->∀o',s'+(g.μ s).n*z<=o'->o'<s'+(g.μ s).C*z->L2 (g.μ s) r b o':=λb s' hA o' q1 q2=>
   ⟨s',hA,by have:r.lo*(g.μ s).z<=(g.μ s).n*(g.μ s).z:=zp _ G.lo;rw[hmz] at *;omega,Δw⟩
  have hTi:∀b o',(∃s',(g.μ s).A=some ⟨b,s',none⟩/\s'+(g.μ s).n*z<=o'/\o'<s'+(g.μ s).C*z)->¬qu g st.σ s r.els.length b o':=by
   rintro b o' ⟨s',hA,q1,q2⟩ (q | ⟨r2,s2,hr2,_,S,q3⟩);·exact h.ownimm s r b o' p (hT b s' hA o' q1 q2) q
   .rw[hA] at S;cases S;rw[hmz,<-hn] at q3;omega
  have hnew:∀(w':World) (v':Value),(Builtin.append_ #[T,T] o.type #[.slice (g.μ s).A (g.μ s).n (g.μ s).C,a.eval y]).run X.P w = .ok (.slice (g.μ s).A ((g.μ s).n+ys.length) (g.μ s).C) w' ->
    (w'=w/\ys.length=0\/∃b s',(g.μ s).A=some ⟨b,s',none⟩/\w'=w.setCells b (s'+(g.μ s).n*z) vals)->o.wpIn (FX ρ) n X.P a w K Q:=by
   intro w' v' hrun R;have hcell:∀b o',¬(∃s',(g.μ s).A=some ⟨b,s',none⟩/\s'+(g.μ s).n*z<=o'/\o'<s'+(g.μ s).C*z)->w'.cell? ⟨b,o',none⟩=w.cell? ⟨b,o',none⟩/\w'.frozen? ⟨b,o',none⟩=w.frozen? ⟨b,o',none⟩:=by
    intro b o' q;rcases R with ⟨rfl,_⟩ | ⟨F,s',hA,rfl⟩;·exact⟨rfl,rfl⟩
    .refine⟨me F vals _ w ⟨b,o',none⟩ λq1 _=>?_,zbe F vals _ w _⟩;simp only at q1 |-;subst q1;rcases zE o' (s'+(g.μ s).n*z) with q2 | q2
     .exact .inl q2
     .right;rcases zE o' (s'+(g.μ s).n*z+vals.length) with q3 | q3
      .exfalso;refine q ⟨s',hA,q2,?_⟩;have:((g.μ s).n+ys.length)*z<=(g.μ s).C*z:=zp _ hroom;rw[un] at this;omega
      .exact q3
   have hxw:Ext w (qu g st.σ s r.els.length) w' (qu g st.σ s r.els.length):=⟨λ_ _ q=>q,λb o' q=>(hcell b o' λq'=>hTi b o' q' q).1,λk _ x _ hx hc=>by
    rcases R with ⟨rfl,_⟩ | ⟨F,s',hA,rfl⟩;·exact hx
    .exact (G7 F vals _ w).same k x hx (O6 hc)⟩
   have hlw:w'.heap.size=w.heap.size:=by
    rcases R with ⟨rfl,_⟩ | ⟨F,s',hA,rfl⟩;·rfl
    .exact size_setCells _ _ _ _
   have hbw:lG X.w0.heap.size X.w0 w':=by
    rcases R with ⟨rfl,_⟩ | ⟨F,s',hA,rfl⟩;·exact h.below
    .rcases m8 vals.length with q | q
     .have:vals = []:=zN q;subst this;exact h.below
     .refine eZ F ?_ vals _ w h.below;refine (h.da p (hT F s' hA (s'+(g.μ s).n*z) (zq _) ?_)).1;have:((g.μ s).n+ys.length)*z<=(g.μ s).C*z:=zp _ hroom;rw[un] at this;omega
   have hother:∀l' r' b o',z7 st.σ s (some { r with lo:=r.els.length,opn:=false }) l'=some r'->L2 (g.μ l') r' b o'->¬∃s',(g.μ s).A=some ⟨b,s',none⟩/\s'+(g.μ s).n*z<=o'/\o'<s'+(g.μ s).C*z:=by
    rintro l' r' b o' q H ⟨s',hA,q1,q2⟩;by_cases el:l'=s
    .subst el;rw[s7] at q;cases q;obtain⟨s2,S,k1,k2⟩:=H;simp only[zj,wf] at k1 k2;rw[hn] at k2;omega
    .rw[r8 _ _ el] at q;exact h.disj l' s r' r el q p b o' H (hT b s' hA o' q1 q2)
   have hM:=hF.move (w':=w') (imm':=qu g st.σ s r.els.length) hxw (λl' r' b o' q H=>⟨(hcell b o' (hother l' r' b o' q H)).1,(hcell b o' (hother l' r' b o' q H)).2,hF.ownimm l' r' b o' q H⟩)
    (λb o' q=>by rw[hlw];exact hF.immlt b o' q) hF.immsub hbw (λk x hx hc=>by
     rcases R with ⟨rfl,_⟩ | ⟨F,s',hA,rfl⟩;·exact hx
     .exact (G7 F vals _ w).same k x hx hc) (λ_ _ _ q _ _=>q)
   have hown:∀b o',L2 ⟨(g.μ s).A,(g.μ s).n+ys.length,(g.μ s).C,z⟩ ⟨r.els++ys,r.els.length,true,z,r.cl&&cl⟩ b o'->∃s',(g.μ s).A=some ⟨b,s',none⟩/\s'+(g.μ s).n*z<=o'/\o'<s'+(g.μ s).C*z:=by
    rintro b o' ⟨s',hA,q1,q2⟩;simp only[wd] at q1 q2;exact⟨s',hA,by rw[hn];exact q1,q2⟩
   have hN:=hM.row (l:=l) (m:=⟨(g.μ s).A,(g.μ s).n+ys.length,(g.μ s).C,z⟩) (r:=⟨r.els++ys,r.els.length,true,z,r.cl&&cl⟩) hlm hFl
    ⟨ΩA,rfl,hroom,Ωg,λe he=>⟨(zC.1 he).elim (λq=>(G.el e q).1) (hyel e),hel e he⟩,G.nil,G.spot,λi x j y hx hy=>?_,λb o' q=>?_⟩
    (λl' r' b o' q H k=>hother l' r' b o' q H (hown b o' k)) (λb o' q=>hTi b o' (hown b o' q))
   .refine G3 hnd (eh ho (by rw[e];exact hrun)) (hK _ _ _ (hN.put hdst ?_));exact fL (l:=l) (m:=⟨(g.μ s).A,(g.μ s).n+ys.length,(g.μ s).C,z⟩) ⟨_,s7 _ _ _⟩ (s7 _ _ _)
   .simp only at hx |-;have hi:=D4 hx;simp at hi;have hxz:x.cells.length=z:=hel x (zh hx);have hj:=PV.F1 hy;rcases zE i r.els.length with q | q
    .rw[zU q] at hx;obtain⟨b,s',u,k1,k2,k3,k4,k5⟩:=hRF.cell i x j y hx hy;simp only at k1 k2 k4 k5;rw[hmz] at k2 k4;have hi':=k4 q;exact⟨b,s',u,k1,by rw[hxw.cl b _ hi'];exact k2,k3.mono hxw λ_ q=>⟨q,rfl⟩,λ_=>hi',λq'=>(k5 (by simp at q';exact q'.1)).mono hxw⟩
    .rw[zK q] at hx;have hm:0<ys.length:=by omega
     rcases R with ⟨_,q0⟩ | ⟨F,s',hA,rfl⟩;·omega
     .have e1:(i-r.els.length)*z=i*z-r.els.length*z:=Nat.sub_mul _ _ _;have e2:r.els.length*z<=i*z:=zp _ q;have e3:(i-r.els.length+1)*z<=ys.length*z:=zp _ Δ;rw[un,za7] at e3;have hlt:(i-r.els.length)*z+j<vals.length:=by omega
      have hu':=zd hlt;have hrd:=hvr _ x j y _ hx hy hu';have hin:=zad F vals (s'+(g.μ s).n*z) w (λj' hj'=>(G.own F _ (hT F s' hA _ Δ (by
       have:((g.μ s).n+ys.length)*z<=(g.μ s).C*z:=zp _ hroom;rw[un] at this;omega))).2.1) _ hlt
      rw[show s'+(g.μ s).n*z+((i-r.els.length)*z+j)=s'+i*z+j by rw[hn];omega] at hin;exact⟨F,s',_,hA,hin,(hrd.1.mono V hpF).mono hxw λ_ q=>⟨q,rfl⟩,λq'=>Δ,λq'=>((hrd.2 (by simp at q';exact q'.2)).mono V).mono hxw⟩
   .obtain⟨s',hA,q1,q2⟩:=hown b o' q;obtain⟨k1,k2,k3⟩:=G.own b o' (hT b s' hA o' q1 q2);refine⟨k1,?_,?_⟩
    .rcases R with ⟨rfl,_⟩ | ⟨F,s2,S,rfl⟩;·exact k2
     .rw[hA] at S;cases S;by_cases q3:o'<s'+(g.μ s).n*z+vals.length
      .have:=zad b vals (s'+(g.μ s).n*z) w (λj' hj'=>(G.own b _ (hT b s' hA _ Δ (by
        have:((g.μ s).n+ys.length)*z<=(g.μ s).C*z:=zp _ hroom;rw[un] at this;omega))).2.1) (o'-(s'+(g.μ s).n*z)) Δ
       rw[show s'+(g.μ s).n*z+(o'-(s'+(g.μ s).n*z))=o' by omega] at this;rw[this];rfl
      .rw[me b vals _ w ⟨b,o',none⟩ λ_ _=>Ωg];exact k2
    .rcases R with ⟨rfl,_⟩ | ⟨F,s2,S,rfl⟩;·exact k3
     .rw[zbe];exact k3
  rcases m8 ys.length with hm | hm
  .refine hnew w undef ?_ (.inl ⟨rfl,hm⟩);rw[eB,hm];exact pk hE hz G.C
  .obtain⟨bB,sB,rfl,hBc⟩:=hvc hm;obtain⟨b,s',hA⟩:=G.spot Δ;refine hnew _ undef ?_ (.inr ⟨b,s',hA,rfl⟩);rw[eB,hA];refine nw hE hz hroom hlv (λj u hj=>ΩC) hone λj hj=>(G.own b _ (hT b s' hA _ Δ (by
    have:((g.μ s).n+ys.length)*z<=(g.μ s).C*z:=zp _ hroom;rw[un] at this;omega))).2
end
end Go.Pw
namespace Go.Pw
open Go.RowKit
section
variable{X:Ctx}{g:Gh}{st:St}{a:Act}{w:World}{n:Nat}{K:Act->World->Prop}{Q:Exit->Act->World->Prop}{ρ:Option Nat}{P:Program}
def El(off:Nat)(cells:Array Value)(l:List (Value × Nat)):Array Value:=l.foldl (λcs (c,j)=>cs.setIfInBounds (off+j) c) cells
theorem BN(off:Nat):∀(l:List (Value × Nat)) (cells:Array Value),(El off cells l).size=cells.size
 | [],_=>rfl
 | _::l,cells=>by
  show (El off (cells.setIfInBounds _ _) l).size=_;rw[BN off l];simp
theorem Em(off:Nat):∀(vs:List Value) (c:Nat) (cells:Array Value),off+c+vs.length<=cells.size->∀k,
  (El off cells (vs.zipIdx c))[k]? = if off+c<=k/\k<off+c+vs.length then vs[k-(off+c)]? else cells[k]?
 | [],c,cells,_,k=>by
  rw[za ΩD];rfl
 | v::vs,c,cells,h,k=>by
  simp only[zl] at h;have ih:=Em off vs (c+1) (cells.setIfInBounds (off+c) v) Ξ k;rw[List.zipIdx_cons];show (El off (cells.setIfInBounds (off+c) v) (vs.zipIdx (c+1)))[k]? = _;rw[ih];by_cases e:k=off+c
  .subst e;rw[za Δ,zc ⟨Δ,ΩE⟩,Nat.sub_self];simp only[zae,zah,wd];rw[zc Δ]
  .by_cases q:off+(c+1)<=k/\k<off+(c+1)+vs.length
   .rw[zc q,zc ΩE];rw[show k-(off+c)=(k-(off+(c+1)))+1 by omega,zaf]
   .rw[za q,za ΩE];simp only[zah];rw[za (zav e)]
def a8(R:Value->PV->Prop)(cs:Array Value)(ps:List PV):Prop:=cs.size=ps.length/\∀(k:Nat) v p,cs[k]? = some v->ps[k]? = some p->R v p
theorem ow{w:World}{imm:Nat->Nat->Prop}{μ:Nat->L7}{u3:Nat->Prop}(place:Nat->Option (Nat × Nat)):∀(parts:List (Nat × Value)) (pp:List (Nat × PV)) (cs:Array Value) (ps h:List PV),
  parts.length=pp.length->(∀(k:Nat) i v j d,parts[k]? = some (i,v)->pp[k]? = some (j,d)->i=j/\Rd w imm μ u3 v d)->a8 (Rd w imm μ u3) cs ps->pL place ps pp=some h ->
  ∃A,Instr.fill place cs parts=some A/\a8 (Rd w imm μ u3) A h
 | [],[],cs,ps,h,_,_,hc,hf=>by
  simp only[pL,sm] at hf;subst hf;exact⟨cs,rfl,hc⟩
 | (i,v)::parts,(j,d)::pp,cs,ps,h,hl,hp,hc,hf=>by
  obtain⟨rfl,hv⟩:=hp 0 i v j d rfl rfl;simp only[pL] at hf;simp only[Instr.fill];cases O2:place i with
  | none=>rw[O2] at hf;cases hf
  | some q=>
   obtain⟨off,size⟩:=q;rw[O2] at hf;simp only at hf |-;split at hf;·cases hf
   .rename_i hn;have R:d.cells.length=size:=by
     rcases Nat.decEq d.cells.length size with q | q
     .exact absurd (.inl q) hn
     .exact q
    have S:off+d.cells.length<=ps.length:=by
     rcases zE ps.length (off+d.cells.length) with q | q
     .exact absurd (.inr (.inl q)) hn
     .exact q
    have G:d.el=true:=by
     cases q:d.el;·exact absurd (.inr (.inr q)) hn
     .rfl
    obtain⟨hs,C⟩:=hv.cells G;have e:¬(v.cells.size≠size\/off+v.cells.size > cs.size):=by rw[hs,hc.1];omega
    have N:(decide (v.cells.size≠size)||decide (off+v.cells.size > cs.size))=false:=by
     simp only[zb2,decide_eq_false_iff_not];omega
    rw[za (Ω (N))];refine ow place parts pp _ _ h (Ω hl) (λk=>hp (k+1)) ?_ hf;have hz:v.cells.zipIdx.foldl (λcs (x:Value × Nat)=>cs.setIfInBounds (off+x.2) x.1) cs=El off cs (v.cells.toList.zipIdx 0):=by
     rw[<-Array.foldl_toList,Array.toList_zipIdx];rfl
    refine⟨?_,λk u p hu c=>?_⟩
    .have:(v.cells.zipIdx.foldl (λcs (x:Value × Nat)=>cs.setIfInBounds (off+x.2) x.1) cs).size=cs.size:=by rw[hz];exact BN off _ _
     rw[show (v.cells.zipIdx.foldl _ cs).size=cs.size from this,hc.1];simp;omega
    .have s:(El off cs (v.cells.toList.zipIdx 0))[k]? = some u:=by rw[<-hz];exact hu
     rw[Em off v.cells.toList 0 cs Ξ] at s;simp only[zam,Array.length_toList,hs] at s;split at s
     .rename_i q;rw[pu,zK Ξ,zU Ξ] at c;simp only[n9,zce (show off<=ps.length by omega)] at c;exact C _ u p (Ω (s)) c
     .rename_i q;refine hc.2 k u p s ?_;rcases zE k off with H | H
      .rw[pu,zU Ξ,zaq H] at c;exact c
      .have F:=D4 c;simp at F;rw[zK Ξ] at c;simp only[zD,n9,pm,zce (show off<=ps.length by omega)] at c;rwa [show off+d.cells.length+(k-(off+d.cells.length))=k by omega] at c
theorem Mz{T:TypeId}{pl:Nat->Option (Nat × Nat)}{z:Value}{parts:Array (Nat × Value)}{cells:Array Value}(O2:C2 P T=some pl)(hz:B1 P T=some z)
  (hf:Instr.fill pl z.cells parts.toList=some cells):(Instr.build T parts).run P w = .ok (.agg cells) w:=by
 refine run_build w T parts cells ?_;unfold Program.built;unfold C2 at O2;unfold B1 at hz;cases p:P.info? T with
 | none=>rw[p] at hz;cases hz
 | some it=>
  rw[p] at hz;have q:it.zero=some z:=Ω hz
  cases hu:P.underlying T with
  | none=>rw[hu] at O2;cases O2
  | some D=>
   rw[hu] at O2;cases D <;> first | (cases O2;done) | skip
   case array m e=>
    simp only at O2 |-;cases c:P.info? e with
    | none=>rw[c] at O2;cases O2
    | some ie=>
     rw[c] at O2;simp only[ww,sm] at O2;simp only[q];rw[show (λi=>some (i*ie.size,ie.size))=pl from O2];exact hf
   case struct fs=>
    simp only at O2 |-;cases hm:fs.toList.mapM (λf=>(P.info? f.type).map λi=>(f.offset,i.size)) with
    | none=>rw[hm] at O2;cases O2
    | some places=>
     rw[hm] at O2;simp only[ww,sm] at O2;simp only[q];rw[show (places.toArray[·]?)=pl from O2];exact hf
theorem xB(h:D1 X g st a w)(parts:Array (Nat × Operand)):∀(k:Nat) i v j d,((parts.map λ(i,x)=>(i,a.eval x)).toList)[k]? = some (i,v)->(parts.toList.map λp=>(p.1,(B6 st.env p.2).w1))[k]? = some (j,d) ->
  i=j/\Rd w g.imm g.μ st.u3 v d:=by
 intro k i v j d c e;rw[Array.toList_map,zW] at c;rw[zW] at e;cases hk:parts.toList[k]? with
 | none=>rw[hk] at c;cases c
 | some p=>
  rw[hk] at c e;simp only[ww,sm,Prod.mk.injEq] at c e;obtain⟨rfl,rfl⟩:=c;obtain⟨rfl,rfl⟩:=e;exact⟨rfl,(h.eval _).w1⟩
variable {o:Oper}{T:TypeId}{parts:Array (Nat × Operand)}{E:TypeId}{z:Nat}
theorem TH{pl:Nat->Option (Nat × Nat)}{z:Value}{zs cs:List PV}(h:D1 X g st a w)(ho:o.op = .build T parts)(O2:C2 X.P T=some pl)(hz:B1 X.P T=some z)
  (hzs:PV.kG z = .agg zs)(hf:pL pl zs (parts.toList.map λp=>(p.1,(B6 st.env p.2).w1))=some cs)(hsc:cs.all PV.sc=true) :
  ∃u,(execOp a.eval o).run X.P w = .ok (.value u) w/\Rd w g.imm g.μ st.u3 u (.agg cs):=by
 have hr:=xI w g.imm z;rw[hzs] at hr;have hcells:a8 (Rd w g.imm g.μ st.u3) z.cells zs:=by
  obtain⟨vs,e,hn,hc⟩:=(Rd.cl hr:Rd w g.imm g.μ st.u3 z (.agg zs)).jd;subst e;exact⟨hn,hc⟩
 obtain⟨c,q,s,A⟩:=ow pl ((parts.map λ(i,x)=>(i,a.eval x)).toList) (parts.toList.map λp=>(p.1,(B6 st.env p.2).w1)) z.cells zs cs Ψ (xB h parts) hcells hf;refine⟨.agg c,?_,.agg _ _ hsc s A⟩;obtain⟨dst,op,ty,pos,after,guard⟩:=o;simp only at ho;subst ho;exact I2 (Mz O2 hz q)
theorem Bz{R:Value->PV->Prop}{z:Nat}:∀ {els:List PV} {cs:Array Value},(∀x∈els,x.cells.length=z)->a8 R cs (els.flatMap PV.cells) ->
  ∀(i:Nat) x (j:Nat) y u,els[i]? = some x->x.cells[j]? = some y->cs[i*z+j]? = some u->R u y:=by
 intro els cs hz hc i x j y u hx hy hu;refine hc.2 _ _ _ hu ?_;clear hc hu;induction els generalizing i with
 | nil=>simp at hx
 | cons e els ih=>
  cases i with
  | zero=>
   simp at hx;subst hx;simp only[zb3,m7,zba];rw[zU (PV.F1 hy)];exact hy
  | succ i=>
   have he:=hz e Ψ;simp only[zba];rw[un,za7,zK Δ,show i*z+z+j-e.cells.length=i*z+j by omega];exact ih (λx hx=>hz x (by simp[hx])) i (Ω hx)
theorem Bx{z:Nat}:∀ {els:List PV},(∀x∈els,x.cells.length=z)->(els.flatMap PV.cells).length=els.length*z
 | [],_=>by simp
 | e::els,h=>by
  rw[zba,zD,Bx (λx hx=>h x (by simp[hx])),h e Ψ,zl,un];omega
theorem Dz{len l:Nat}{zv:Value}{els:List PV}{cl:Bool}(h:D1 X g st a w)(ho:o.op = .buildSlice T len parts)(F:∀t,o.dst=some t->t<X.N)(R:l<MB)(hl:st.σ l=none)
  (hE:C1 X.P T=some E)(hz:w9 X.P E=some z)(hzv:B1 X.P E=some zv)(hlen:els.length=len)(hel:∀x∈els,x.el=true/\x.cells.length=z)(hbig:len*z<=2 ^ 24)
  (hf:pL (λi=>some (i*z,z)) (List.replicate (len*z) .junk) (parts.toList.map λp=>(p.1,(B6 st.env p.2).w1))=some (els.flatMap PV.cells))(hcl:cl=true->els.all (λx=>x.cells.all PV.aP)=true)
  (hK:∀V S w',D1 X V ⟨V1 st.env o.dst (.sl l),(Y5.new l ⟨els,0,true,z,cl⟩).apply st.σ⟩ S w'->K S w'):o.wpIn (FX ρ) n X.P a w K Q:=by
 subst hlen;have hcells:∀e:Array Value,e.size=els.length*z->a8 (Rd w g.imm g.μ st.u3) e (List.replicate (els.length*z) .junk):=λe hs=>⟨by simp[hs],λk v p _ hp=>by
  have:=zh hp;rw[zbn] at this;rw[this.2];exact .cl (.junk v)⟩
 have key:∀e:Array Value,e.size=els.length*z->∃cs,Instr.fill (λi=>some (i*z,z)) e (parts.map λ(i,x)=>(i,a.eval x)).toList=some cs/\a8 (Rd w g.imm g.μ st.u3) cs (els.flatMap PV.cells):=λe hs=>
  ow (λi=>some (i*z,z)) ((parts.map λ(i,x)=>(i,a.eval x)).toList) (parts.toList.map λp=>(p.1,(B6 st.env p.2).w1)) e _ _ Ψ (xB h parts) (hcells e hs) hf
 have G:∃cs,(Instr.buildSlice T els.length (parts.map λ(i,x)=>(i,a.eval x))).run X.P w = .ok (.slice (some ⟨w.heap.size,0,none⟩) els.length els.length) (w.alloc (.cells cs E))/\a8 (Rd w g.imm g.μ st.u3) cs (els.flatMap PV.cells):=by
  have hu:=O9 hE;have s:¬els.length*z > 2 ^ 24:=Δ
  by_cases h0:els.length*z=0
  .obtain⟨cs,A,H⟩:=key ((Array.range (els.length*z)).map (λx=>(#[]:Array Value)[x % (#[]:Array Value).size]!)) Ψ;refine⟨cs,?_,H⟩;simp only[Instr.buildSlice,zt,zZ hu,zi,F8 hz,za s,zc h0,or,A];rfl
  .obtain⟨cs,A,H⟩:=key ((Array.range (els.length*z)).map (λx=>zv.cells[x % zv.cells.size]!)) Ψ;refine⟨cs,?_,H⟩;simp only[Instr.buildSlice,zt,zZ hu,zi,F8 hz,za s,za h0,or,nx hzv,A];rfl
 obtain⟨cs,hr,hc⟩:=G;have hfl:=Bx (els:=els) (λx hx=>(hel x hx).2);have A:=h.xN (l:=l) (els:=els) (T:=E) (C:=els.length) (z:=z) (opn:=true) (cl:=cl) cs R hl (zq _) (by rw[hc.1,hfl]) hel (λi x j y u hx hy hu=>by
  have:=Bz (λx hx=>(hel x hx).2) hc i x j y u hx hy hu;refine⟨this,λq=>this.aP ?_⟩;have:=zf.1 (hcl q) x (zh hx);exact zf.1 this y (zh hy))
 refine G3 (λc=>Ωi) ?_ (hK _ _ _ (A.put F (fL ⟨_,s7 _ _ _⟩ (s7 _ _ _))));obtain⟨dst,op,ty,pos,after,guard⟩:=o;simp only at ho;subst ho;exact I2 hr
theorem D1.a0c(h:D1 X g st a w)(cs:Array Value)(T:TypeId):D1 X ⟨λb o=>g.imm b o\/b=w.heap.size,g.μ⟩ st a (w.alloc (.cells cs T)):=by
 have c:=h.alloc (.cells cs T);refine c.move (imm':=λb o=>g.imm b o\/b=w.heap.size) ⟨λ_ _ q=>.inl q,λ_ _ _=>rfl,λ_ _ _ _ q _=>q⟩ (λl r b o hl ho=>⟨rfl,rfl,?_⟩) (λb o q=>?_) (λb o q=>?_) c.below (λk x hx _=>hx) (λb o x q hx hm=>q.elim id λq=>by
  subst q;rw[World.alloc_heap_new] at hx;cases hx;cases hm)
 .rintro (q | q);·exact h.ownimm l r b o hl ho q
  .have:=(h.da hl ho).2;omega
 .rcases q with q | q
  .exact c.immlt b o q
  .subst q;simp
 .rcases q with q | q
  .exact h.immsub b o q
  .right;have:=h.below.size;omega
theorem Qg{len:Nat}{zv:Value}{els:List PV}(h:D1 X g st a w)(ho:o.op = .buildSlice T len parts)(C:∀t,o.dst=some t->t<X.N)
  (hE:C1 X.P T=some E)(hz:w9 X.P E=some z)(hzv:B1 X.P E=some zv)(hlen:els.length=len)(hel:∀x∈els,x.el=true/\x.cells.length=z)(hbig:len*z<=2 ^ 24)
  (hf:pL (λi=>some (i*z,z)) (List.replicate (len*z) .junk) (parts.toList.map λp=>(p.1,(B6 st.env p.2).w1))=some (els.flatMap PV.cells))(hcl:els.all (λx=>x.cells.all PV.aP)=true)
  (hK:∀g' V w',D1 X g' ⟨V1 st.env o.dst (.H4 true els),st.σ⟩ V w'->K V w'):o.wpIn (FX ρ) n X.P a w K Q:=by
 subst hlen;have hcells:∀e:Array Value,e.size=els.length*z->a8 (Rd w g.imm g.μ st.u3) e (List.replicate (els.length*z) .junk):=λe hs=>⟨by simp[hs],λk v p _ hp=>by
  have:=zh hp;rw[zbn] at this;rw[this.2];exact .cl (.junk v)⟩
 have key:∀e:Array Value,e.size=els.length*z->∃cs,Instr.fill (λi=>some (i*z,z)) e (parts.map λ(i,x)=>(i,a.eval x)).toList=some cs/\a8 (Rd w g.imm g.μ st.u3) cs (els.flatMap PV.cells):=λe hs=>
  ow (λi=>some (i*z,z)) ((parts.map λ(i,x)=>(i,a.eval x)).toList) (parts.toList.map λp=>(p.1,(B6 st.env p.2).w1)) e _ _ Ψ (xB h parts) (hcells e hs) hf
 have G:∃cs,(Instr.buildSlice T els.length (parts.map λ(i,x)=>(i,a.eval x))).run X.P w = .ok (.slice (some ⟨w.heap.size,0,none⟩) els.length els.length) (w.alloc (.cells cs E))/\a8 (Rd w g.imm g.μ st.u3) cs (els.flatMap PV.cells):=by
  have hu:=O9 hE;have s:¬els.length*z > 2 ^ 24:=Δ
  by_cases h0:els.length*z=0
  .obtain⟨cs,R,S⟩:=key ((Array.range (els.length*z)).map (λx=>(#[]:Array Value)[x % (#[]:Array Value).size]!)) Ψ;refine⟨cs,?_,S⟩;simp only[Instr.buildSlice,zt,zZ hu,zi,F8 hz,za s,zc h0,or,R];rfl
  .obtain⟨cs,R,S⟩:=key ((Array.range (els.length*z)).map (λx=>zv.cells[x % zv.cells.size]!)) Ψ;refine⟨cs,?_,S⟩;simp only[Instr.buildSlice,zt,zZ hu,zi,F8 hz,za s,za h0,or,nx hzv,R];rfl
 obtain⟨cs,hr,hc⟩:=G;have hfl:=Bx (els:=els) (λx hx=>(hel x hx).2);have hS:=h.a0c cs E;have A:∀(i:Nat) x (j:Nat) y,els[i]? = some x->x.cells[j]? = some y->∃u,cs[i*z+j]? = some u/\Rd0 w g.imm u y:=λi x j y hx hy=>by
  have H:=zh hx;have hj:=PV.F1 hy;rw[(hel x H).2] at hj;have hi:=D4 hx;have F:i*z+j<cs.size:=by
   rw[hc.1,hfl];have:(i+1)*z<=els.length*z:=zp _ Δ;rw[un,za7] at this;omega
  refine⟨_,zu F,?_⟩;have:=Bz (λx hx=>(hel x hx).2) hc i x j y _ hx hy (zu F);exact this.aP (zf.1 (zf.1 hcl x H) y (zh hy))
 have hX:Ext w g.imm (w.alloc (.cells cs E)) (λb o=>g.imm b o\/b=w.heap.size):=by
  have e1:=Ext.alloc (w:=w) (imm:=g.imm) h.immlt (.cells cs E);exact⟨λb o q=>.inl q,e1.cl,e1.ob⟩
 refine G3 (λc=>Ωi) ?_ (hK _ _ _ (hS.put C (v:=.slice (some ⟨w.heap.size,0,none⟩) els.length els.length) ?_))
 .obtain⟨dst,op,ty,pos,after,guard⟩:=o;simp only at ho;subst ho;exact I2 hr
 .refine .cl (.H4 (some ⟨w.heap.size,0,none⟩) els.length z true els (λi j=>(cs[i*z+j]?).getD undef) (zq _) (λ_=>rfl) (λq=>Γ) hel (λh0=>⟨w.heap.size,0,rfl,λi x j y hx hy=>⟨.inr rfl,?_⟩⟩) (λi x j y hx hy=>?_))
  .obtain⟨u,k1,_⟩:=A i x j y hx hy;rw[k1,m7];simp only[wp];rw[zci];exact k1
  .obtain⟨u,k1,k2⟩:=A i x j y hx hy;rw[k1];exact k2.mono hX
theorem LO{x y:Operand}{l b:Nat}{k k':IntKind}{m:Int}{v:Value}(h:D1 X g st a w)(ho:o.op = .makeSlice T x y)(F:∀t,o.dst=some t->t<X.N)(hlm:l<MB)(hl:st.σ l=none)
  (hx:B6 st.env x = .int k m)(hy:B6 st.env y = .int k' m)(h0:0<=m)(hE:C1 X.P T=some E)(hz:w9 X.P E=some z)(hv:B1 X.P E=some v)
  (hel:((PV.kG v).w1).el=true)(hvz:((PV.kG v).w1).cells.length=z)(hb:I1 X.P E=some b)(hbm:b*m<=281474976710656)(hm:m<=9223372036854775807)
  (hK:∀g' a' w',D1 X g' ⟨V1 st.env o.dst (.sl l),(Y5.new l ⟨List.replicate m.toNat ((PV.kG v).w1),0,true,z,true⟩).apply st.σ⟩ a' w'->K a' w'):o.wpIn (FX ρ) n X.P a w K Q:=by
 obtain⟨i,hi,rfl,rfl,V⟩:=Gq hz hb hv;have hr:=run_make w T E i v (O9 hE) hi V k k' m m h0 (md _) hbm hm;have hrd:Rd w g.imm g.μ st.u3 v (PV.kG v).w1:=.cl (xI w g.imm v).w1;obtain⟨hs,A⟩:=hrd.cells hel;have q:∀f cap,(PV.kG v).w1 ≠ .fn f cap:=λf cap e=>by
  have:PV.kG v = .fn f cap:=by cases hd:PV.kG v <;> rw[hd] at e <;> first | exact e | cases e
  unfold PV.kG at this;split at this;·split at this <;> cases this
  .split at this <;> cases this
  .unfold PV.GF at this;split at this <;> cases this
 have p:((PV.kG v).w1).iD=true:=by
  have S:=Of v;cases hd:PV.kG v <;> rw[hd] at S <;> first | exact S | skip
  simp only[PV.w1,PV.iD,zf,zP] at S |-;rintro y ⟨c,hc,rfl⟩;have:=S c hc;cases c <;> first | rfl | exact this
 have s:∀(j:Nat) u y,v.cells[j]? = some u->((PV.kG v).w1).cells[j]? = some y->Rd0 w g.imm u y:=λj u y hu hy=>(A j u y hu hy).aP (by
  have hm:=zh hy;revert q p hel hm
  generalize (PV.kG v).w1=d;intro hel q p hm;cases d;case agg cs=>exact zf.1 (show cs.all PV.aP=true from p) y hm
  case fn f cap=>exact absurd rfl (q _ _)
  case tup cs=>cases hel
  case junk=>cases hel
  all_goals first | (obtain rfl:=zR.1 hm;first | exact p | rfl) | exact absurd hm zb9)
 have h1:=h.xN (l:=l) (els:=List.replicate m.toNat ((PV.kG v).w1)) (T:=E) (C:=m.toNat) (z:=i.size) (opn:=true) (cl:=true) (madeCells v.cells (m.toNat*i.size)) hlm hl Ψ (by simp[madeCells])
  (λx hx=>by rw[zbn] at hx;rw[hx.2];exact⟨hel,hvz⟩) (λi' x j y u hx hy hu=>by
   have R:=zh hx;rw[zbn] at R;obtain⟨_,rfl⟩:=R;have hj:=PV.F1 hy;rw[hvz] at hj;have hlt:i'*i.size+j<m.toNat*i.size:=by
    have:=D4 hx;simp at this;have:(i'+1)*i.size<=m.toNat*i.size:=zp _ Δ;rw[un,za7] at this;omega
   have hsz:v.cells.size=i.size:=by rw[hs,hvz]
   have H:v.cells[j]? = some u:=by
    simp only[madeCells,Array.getElem?_map,Array.getElem?_range,hlt,wd,ww,sm,hsz,(a0o (i:=i') hj).2] at hu;rw[<-hu,zcq v.cells j Δ];exact zu Δ
   exact⟨A j u y H hy,λ_=>s j u y H hy⟩)
 have e1:a.eval x = .int k m:=by have:=h.eval x;rw[hx] at this;exact this.L1
 have e2:a.eval y = .int k' m:=by have:=h.eval y;rw[hy] at this;exact this.L1
 have G:=h1.put F (v:=.slice (some ⟨w.heap.size,0,none⟩) m.toNat m.toNat) (d:=.sl l) (by
  have:=fL (w':=w.alloc (.cells (madeCells v.cells (m.toNat*i.size)) E)) (imm:=g.imm) (μ:=z7 g.μ l ⟨some ⟨w.heap.size,0,none⟩,(List.replicate m.toNat ((PV.kG v).w1)).length,m.toNat,i.size⟩)
   (u3:=St.u3 ⟨st.env,z7 st.σ l (some ⟨List.replicate m.toNat ((PV.kG v).w1),0,true,i.size,true⟩)⟩) (l:=l) ⟨_,s7 _ _ _⟩ (s7 _ _ _)
  simpa using this)
 refine G3 (λc=>Ωi) ?_ (hK _ _ _ G);obtain⟨dst,op,ty,pos,after,guard⟩:=o;simp only at ho;subst ho;simp only[execOp,e1,e2];exact I2 hr
end
end Go.Pw
namespace Go.Pw
open Go.RowKit
section
variable{X:Ctx}{g:Gh}{st:St}{a:Act}{w:World}{n:Nat}{K:Act->World->Prop}{Q:Exit->Act->World->Prop}{ρ:Option Nat}{P:Program}
theorem ur.val(h:D1 X g st a w){x:Option Operand}{d m:Nat}(hb:ur (B6 st.env) x d m):(x.map a.eval=none/\m=d)\/∃k,x.map a.eval=some (.int k m):=by
 cases x with
 | none=>exact .inl ⟨rfl,hb⟩
 | some y=>
  obtain⟨k,hk⟩:=hb;have:=h.eval y;rw[hk] at this;exact .inr ⟨k,by simp[this.L1]⟩
variable {i:Nat}{T E:TypeId}{z:Nat}{lo:Option Operand}{j:Nat}
theorem run_sliceBound{k:IntKind}{y:Nat}{code:BoundsCode}(h:i<=y):(Instr.sliceBound (.int k i) y code).run P w = .ok i w:=by
 simp only[Instr.sliceBound,asIntOf,zt,or,zi];rw[zc ⟨Δ,Δ⟩];rfl
theorem Ab (h : D1 X g st a w) {lo hi mx : Option Operand} {len cap i j k : Nat} (hlo : ur (B6 st.env) lo 0 i) (hhi : ur (B6 st.env) hi len j) (hmx : ur (B6 st.env) mx cap k)
    (hmh : mx.isSome = true -> hi.isSome = true) (hij : i <= j) (hjk : j <= k) (hk : k <= cap) :
    (Instr.sliceBounds true len cap (lo.map a.eval) (hi.map a.eval) (mx.map a.eval)).run P w = .ok (i, j, k) w := by
  rcases ur.val h hlo with ⟨c, e1'⟩ | ⟨k1, c⟩ <;> rcases ur.val h hhi with ⟨e, e2'⟩ | ⟨k2, e⟩ <;> rcases ur.val h hmx with ⟨p, e3'⟩ | ⟨u, p⟩ <;> rw [c, e, p] <;>
    first
      | (exfalso
         have q : mx.isSome = true := by cases mx <;> simp_all
         have s := hmh q;cases hi <;> simp_all
         done)
      | (simp only [Instr.sliceBounds, zt, or, zi, run_sliceBound, hij, hjk, hk]
         try subst e1'
         try subst e2'
         try subst e3'
         try simp only [run_sliceBound, hij, hjk, zi]
         try rfl)
theorem pq(h:D1 X g st a w){A:Option Addr}{hi mx:Option Operand}{len cap k:Nat}(hE:C1 P T=some E)(hz:w9 P E=some z)
  (hlo:ur (B6 st.env) lo 0 i)(hhi:ur (B6 st.env) hi len j)(hmx:ur (B6 st.env) mx cap k)
  (hmh:mx.isSome=true->hi.isSome=true)(hij:i<=j)(hjk:j<=k)(hk:k<=cap) :
  (Instr.sliceAt T (.slice A len cap) (lo.map a.eval) (hi.map a.eval) (mx.map a.eval)).run P w = .ok (.slice (if k=i then A else A.map (·.add (i*z))) (j-i) (k-i)) w:=by
 have hu:=O9 hE;have hb:=Ab (P:=P) h hlo hhi hmx hmh hij hjk hk;simp only[Instr.sliceAt,Instr.slice,zt,zZ hu,zi,hb,F8 hz];rfl
theorem mb{α:Type}{xs:List α}{p:Nat}{x:α}(h:((xs.take j).drop i)[p]? = some x):i+p<j/\xs[i+p]? = some x:=by
 rw[pm] at h;have:=D4 h;simp at this;rw[zaq Δ] at h;exact⟨Δ,h⟩
theorem Qi{o:Oper}{T E:TypeId}{z:Nat}{x:Operand}{lo hi mx:Option Operand}{t:Bool}{xs:List PV}{i j k:Nat}(h:D1 X g st a w)(ho:o.op = .slice T x lo hi mx)
  (hx:B6 st.env x = .H4 t xs)(hE:C1 X.P T=some E)(hz:w9 X.P E=some z)(hel:∀e∈xs,e.cells.length=z)(hlo:ur (B6 st.env) lo 0 i)(hhi:ur (B6 st.env) hi xs.length j)
  (hmx:ur (B6 st.env) mx xs.length k)(hmh:mx.isSome=true->hi.isSome=true)(hij:i<=j)(hjk:j<=k)(hk:k<=xs.length) :
  ∃u,(execOp a.eval o).run X.P w = .ok (.value u) w/\Rd w g.imm g.μ st.u3 u (.H4 (if mx.isSome then decide (j=k) else t&&decide (j=xs.length)) ((xs.take j).drop i)):=by
 have hv:=h.eval x;rw[hx] at hv;obtain⟨A,c,z',u,e,h1,h2,h3,S,h5,h6⟩:=hv.ji;obtain⟨m,hm,G,H,N⟩:∃m,ur (B6 st.env) mx c m/\j<=m/\m<=c/\((if mx.isSome then decide (j=k) else t&&decide (j=xs.length))=true->m=j):=by
  cases mx with
  | none=>
   refine⟨c,rfl,Δ,zq _,λq=>?_⟩;simp at q;have:=h2 q.1;omega
  | some y=>exact⟨k,hmx,hjk,Δ,λq=>by simp at q;omega⟩
 have hr:=pq (P:=X.P) h (A:=A) hE hz hlo hhi hm hmh hij G H;have hlen:((xs.take j).drop i).length=j-i:=by simp;omega
 refine⟨.slice (if m=i then A else A.map (·.add (i*z))) (j-i) (m-i),?_,?_⟩
 .obtain⟨dst,op,ty,pos,after,guard⟩:=o;simp only at ho;subst ho;simp only[execOp,e];exact I2 hr
 .rw[<-hlen];refine .cl (.H4 _ _ z _ _ (λp q=>u (i+p) q) Δ (λq=>by have:=N q;omega) (λq=>?_) (λx' C=>?_) (λh0=>?_) (λp x' q y C hy=>?_))
  .have:A=none:=by
    split at q;·exact q
    .cases A;·rfl
     .cases q
   have:=h3 this;omega
  .have:=zak (zat C);exact⟨(S x' this).1,hel x' this⟩
  .have R:¬m=i:=by omega
   obtain⟨b,s,rfl,h7⟩:=h5 Δ;rw[za R];refine⟨b,s+i*z,by simp[L8],λp x' q y C hy=>?_⟩;obtain⟨_,V⟩:=mb C;have F:=zh V;have:z'=z:=by rw[<-(S x' F).2,hel x' F]
   subst this;have:=h7 (i+p) x' q y V hy;rw[un,<-n8 s] at this;exact this
  .exact h6 _ _ _ _ (mb C).2 hy
theorem Qj{o:Oper}{x:Operand}{s l:Nat}{r:Row}(h:D1 X g st a w)(ho:o.op = .slice T x lo none none)(hdst:∀t,o.dst=some t->t<X.N)(hlm:l<MB)(hl:st.σ l=none)
  (hx:B6 st.env x = .sl s)(hs:st.σ s=some r)(hop:r.opn=true)(hE:C1 X.P T=some E)(hz:w9 X.P E=some z)(hrz:r.z=z)(hlo:ur (B6 st.env) lo 0 i)(hi:i<=r.els.length)
  (hK:∀g' a' w',D1 X g' ⟨V1 st.env o.dst (.sl l),(Y5.app s l ⟨r.els.drop i,r.els.length-i,true,z,r.cl⟩).apply st.σ⟩ a' w'->K a' w'):o.wpIn (FX ρ) n X.P a w K Q:=by
 have hsl:s≠l:=λq=>by rw[q,hl] at hs;cases hs
 simp only[Y5.apply,hs] at hK;have hv:=h.eval x;rw[hx] at hv;obtain⟨hp,e⟩:=hv.df;have G:=h.rows s r hs;have hn:=G.n;have hC:=G.C;have S:(g.μ s).z=z:=by rw[G.z,hrz]
 have hr:=pq (P:=X.P) (mx:=none) (hi:=none) h (A:=(g.μ s).A) (len:=(g.μ s).n) (cap:=(g.μ s).C) (j:=(g.μ s).n) (k:=(g.μ s).C) hE hz hlo rfl rfl (λq=>Γ) Δ hC (zq _);have hF:=h.pM hs r.els.length (by have:=G.lo;omega) (zq _) false (λq=>Γ);have hFl:z7 st.σ s (some { r with lo:=r.els.length,opn:=false }) l=none:=by rw[r8 _ _ (zav hsl)];exact hl
 have hRF:=hF.rows s { r with lo:=r.els.length,opn:=false } (s7 _ _ _);generalize H:(if (g.μ s).C=i then (g.μ s).A else (g.μ s).A.map (·.add (i*z)))=A' at hr;have hAt:∀b s',A'=some ⟨b,s',none⟩->i<(g.μ s).C->∃s0,(g.μ s).A=some ⟨b,s0,none⟩/\s'=s0+i*z:=by
  intro b s' q R;obtain⟨b0,s0,hA⟩:=G.spot Δ;rw[<-H,za Δ,hA] at q;simp only[ww,sm,L8,Addr.mk.injEq] at q;exact⟨s0,by rw[hA,q.1],q.2.1.symm⟩
 have F:∀b o',L2 ⟨A',(g.μ s).n-i,(g.μ s).C-i,z⟩ ⟨r.els.drop i,r.els.length-i,true,z,r.cl⟩ b o'->L2 (g.μ s) r b o'/\∃s0,(g.μ s).A=some ⟨b,s0,none⟩/\s0+r.els.length*z<=o':=by
  rintro b o' ⟨s',hA,q1,q2⟩;simp only[wd] at q1 q2;have R:i<(g.μ s).C:=by
   rcases zE i (g.μ s).C with q | q
   .exact q
   .have:(g.μ s).C-i=0:=by omega
    rw[this] at q2;omega
  obtain⟨s0,h0,rfl⟩:=hAt b s' hA R;have e1:(r.els.length-i)*z=r.els.length*z-i*z:=Nat.sub_mul _ _ _;have e2:i*z<=r.els.length*z:=zp _ hi;have e3:((g.μ s).C-i)*z=(g.μ s).C*z-i*z:=Nat.sub_mul _ _ _;have e4:i*z<=(g.μ s).C*z:=zp _ Δ;have e5:r.lo*z<=r.els.length*z:=zp _ (by have:=G.lo;omega);refine⟨⟨s0,h0,?_,?_⟩,s0,h0,Δ⟩;·rw[S];omega
  .rw[hop,zc rfl,S];omega
 have hN:=hF.row (l:=l) (m:=⟨A',(g.μ s).n-i,(g.μ s).C-i,z⟩) (r:=⟨r.els.drop i,r.els.length-i,true,z,r.cl⟩) hlm hFl
  ⟨ΩA,rfl,Ωg,Ωg,λe he=>by rw[<-hrz];exact G.el e (zat he),λq=>?_,λq=>?_,λp x' q y V hy=>?_,λb o' q=>G.own b o' (F b o' q).1⟩
  (λl' r' b o' q ho' k=>?_) (λb o' q k=>?_)
 .refine G3 (λc=>Ωi) ?_ (hK _ _ _ (hN.put hdst (fL (l:=l) (m:=⟨A',(g.μ s).n-i,(g.μ s).C-i,z⟩) ⟨_,s7 _ _ _⟩ (s7 _ _ _))));obtain⟨dst,op,ty,pos,after,guard⟩:=o;simp only at ho;subst ho;simp only[execOp,e];exact I2 hr
 .simp only at q |-;have hAn:(g.μ s).A=none:=by
   rw[<-H] at q;split at q;·exact q
   .cases hA:(g.μ s).A;·rfl
    .rw[hA] at q;cases q
  have:=G.nil hAn;omega
 .simp only at q |-;obtain⟨b0,s0,hA⟩:=G.spot Δ;rw[<-H,za Δ,hA];exact⟨b0,s0+i*z,by simp[L8]⟩
 .simp only at V |-;rw[pm] at V;have R:=D4 V;obtain⟨b,s0,u,k1,k2,k3,k4,k5⟩:=hRF.cell (i+p) x' q y V hy;simp only at k1 k2 k4 k5;rw[S,un,<-n8 s0] at k2 k4;refine⟨b,s0+i*z,u,?_,k2,k3,λ_=>k4 R,k5⟩;rw[<-H,za Δ,k1];simp[L8]
 .obtain⟨k1,s0,h0,k2⟩:=F b o' k;by_cases el:l'=s
  .subst el;simp only[s7] at q;cases q;obtain⟨s2,hA2,m1,m2⟩:=ho';simp only[zj,wf] at m1 m2;rw[hn] at m2;omega
  .simp only[r8 _ _ el] at q;exact h.disj l' s r' r el q hs b o' ho' k1
 .obtain⟨k1,s0,h0,k2⟩:=F b o' q;rcases k with k | ⟨r2,s2,hr2,_,hA2,k3⟩
  .exact h.ownimm s r b o' hs k1 k
  .rw[h0] at hA2;cases hA2;rw[S] at k3;omega
theorem Qh{o:Oper}{x:Operand}{hi:Option Operand}{s:Nat}{r:Row}(h:D1 X g st a w)(ho:o.op = .slice T x lo hi none)(H:∀t,o.dst=some t->t<X.N)
  (hx:B6 st.env x = .sl s)(hs:st.σ s=some r)(hcl:r.cl=true)(hE:C1 X.P T=some E)(hz:w9 X.P E=some z)(hrz:r.z=z)(hlo:ur (B6 st.env) lo 0 i)(hhi:ur (B6 st.env) hi r.els.length j)(hij:i<=j)(hj:j<=r.els.length)
  (hK:∀g' a' w',D1 X g' ⟨V1 st.env o.dst (.H4 false ((r.els.take j).drop i)),(Y5.pM [s]).apply st.σ⟩ a' w'->K a' w'):o.wpIn (FX ρ) n X.P a w K Q:=by
 have hv:=h.eval x;rw[hx] at hv;obtain⟨hp,e⟩:=hv.df;have G:=h.rows s r hs;have hn:=G.n;have hC:=G.C;have V:(g.μ s).z=z:=by rw[G.z,hrz]
 have hr:=pq (P:=X.P) (mx:=none) h (A:=(g.μ s).A) (len:=(g.μ s).n) (cap:=(g.μ s).C) (k:=(g.μ s).C) hE hz hlo (by rw[hn];exact hhi) rfl (λq=>Γ) hij Δ (zq _);obtain⟨imm',hF,hX,S⟩:=h.T0 [s];have hsh:=S s Ψ r hs;have hlen:((r.els.take j).drop i).length=j-i:=by simp;omega
 refine G3 (λc=>Ωi) (v:=.slice (if (g.μ s).C=i then (g.μ s).A else (g.μ s).A.map (·.add (i*z))) (j-i) ((g.μ s).C-i)) (w':=w) ?_ (hK _ _ _ (hF.put H ?_))
 .obtain⟨dst,op,ty,pos,after,guard⟩:=o;simp only at ho;subst ho;simp only[execOp,e];exact I2 hr
 .rw[<-hlen];have hcell:∀(p:Nat) x' (q:Nat) y b s0,((r.els.take j).drop i)[p]? = some x'->x'.cells[q]? = some y->(g.μ s).A=some ⟨b,s0,none⟩ ->
    imm' b (s0+i*z+p*z+q)/\∃u,w.cell? ⟨b,s0+i*z+p*z+q,none⟩=some u/\Rd0 w imm' u y:=by
   intro p x' q y b s0 F hy hA;obtain⟨_,hg⟩:=mb F;obtain⟨u,k1,_,k3⟩:=h.cell_of hs hg hy hA;have k4:=hsh (i+p) x' q y b s0 hg hy hA;rw[V,un,<-n8 s0] at k1 k4;exact⟨k4,u,k1,(k3 hcl).mono hX⟩
  refine .cl (.H4 _ _ z _ _ (λp q=>match (g.μ s).A with | some ⟨b,s0,_⟩=>(w.cell? ⟨b,s0+i*z+p*z+q,none⟩).getD undef | none=>undef) Δ (λq=>Γ) (λq=>?_) (λx' F=>?_) (λh0=>?_) (λp x' q y F hy=>?_))
  .have R:(g.μ s).A=none:=by
    split at q;·exact q
    .cases hA:(g.μ s).A;·rfl
     .rw[hA] at q;cases q
   have:=G.nil R;omega
  .rw[<-hrz];exact G.el x' (zak (zat F))
  .obtain⟨b,s0,hA⟩:=G.spot Δ;refine⟨b,s0+i*z,by rw[za Δ,hA];simp[L8],λp x' q y F hy=>?_⟩;obtain⟨k1,u,k2,_⟩:=hcell p x' q y b s0 F hy hA;refine⟨k1,?_⟩;rw[hA];simp only[k2,wp]
  .have h0:=D4 F;obtain⟨b,s0,hA⟩:=G.spot Δ;obtain⟨k1,u,k2,k3⟩:=hcell p x' q y b s0 F hy hA;rw[hA];simp only[k2,wp];exact k3
end
end Go.Pw
