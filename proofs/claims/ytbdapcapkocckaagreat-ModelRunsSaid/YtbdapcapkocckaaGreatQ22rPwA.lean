/- A part. -/
import Derived.Test.YtbdapcapkocckaaGreatQ22rAl
set_option linter.unusedVariables false
set_option linter.unusedSimpArgs false
set_option linter.unusedSectionVars false
namespace Go.Pw
open Go.RowKit
inductive PV where
 | bool (b:Bool)
 | int (k:IntKind) (n:Int)
 | str (s:ByteArray)
 | agg (cs:List PV)
 | tup (vs:List PV)
 | lst (tight:Bool) (xs:List PV)
 | sl (l:Nat)
 | mp (l:Nat)
 | mapc (es:List PV)
 | ptr (l i f:Nat)
 | rptr (cs:List PV)
 | fn (f:Fn) (cap:List PV)
 | nilfn
 | abs (R:World->(Nat->Nat->Prop)->Value->Prop)
 | junk
def PV.cells:PV->List PV
 | .agg cs=>cs
 | .mapc _=>[]
 | d=>[d]
def PV.sc:PV->Bool
 | .agg _ | .tup _ | .junk | .mapc _=>false
 | _=>true
def PV.el:PV->Bool
 | .agg cs=>cs.all PV.sc
 | .mapc _=>true
 | d=>d.sc
theorem PV.qE{d:PV}(h:d.el=true):∀y∈d.cells,y.sc=true:=by
 cases d <;> simp[PV.el,PV.cells,PV.sc] at * <;> exact h
structure O0 where
 A:Option Addr
 n:Nat
 C:Nat
 z:Nat
def dS:Obj->Bool
 | .map .. | .stringIter .. => true
 | _=>false
theorem R1{o:Obj}(h:dS o=true):o.isCells=false:=by cases o <;> first | rfl | cases h
structure Ext (w:World) (imm:Nat->Nat->Prop) (w':World) (imm':Nat->Nat->Prop):Prop where
 im:∀b o,imm b o->imm' b o
 cl:∀b o,imm b o->w'.cell? ⟨b,o,none⟩=w.cell? ⟨b,o,none⟩
 ob:∀b o x,imm b o->w.heap[b]? = some x->dS x=true->w'.heap[b]? = some x
theorem Ext.refl(w:World)(imm:Nat->Nat->Prop):Ext w imm w imm:=⟨λ_ _ h=>h,λ_ _ _=>rfl,λ_ _ _ _ h _=>h⟩
variable {w w':World}{imm:Nat->Nat->Prop}{v:Value}{α:Type}{B:Nat}
theorem Ext.trans{w'':World}{i c i'':Nat->Nat->Prop}(h:Ext w i w' c)(k:Ext w' c w'' i''):Ext w i w'' i'':=
 ⟨λb o q=>k.im b o (h.im b o q),λb o q=>(k.cl b o (h.im b o q)).trans (h.cl b o q),
  λb o x q hx hc=>k.ob b o x (h.im b o q) (h.ob b o x q hx hc) hc⟩
def one:Value->Bool
 | .agg _ | .tuple _=>false
 | _=>true
inductive Rd0 (w:World) (imm:Nat->Nat->Prop):Value->PV->Prop
 | bool (b:Bool):Rd0 w imm (.bool b) (.bool b)
 | int (k:IntKind) (n:Int):Rd0 w imm (.int k n) (.int k n)
 | str (s:ByteArray):Rd0 w imm (.string s) (.str s)
 | agg (vs:Array Value) (cs:List PV) (hsc:cs.all PV.sc=true) (hn:vs.size=cs.length)
   (h:∀(i:Nat) v c,vs[i]? = some v->cs[i]? = some c->Rd0 w imm v c):Rd0 w imm (.agg vs) (.agg cs)
 | tup (vs:Array Value) (cs:List PV) (hn:vs.size=cs.length)
   (h:∀(i:Nat) v c,vs[i]? = some v->cs[i]? = some c->Rd0 w imm v c):Rd0 w imm (.tuple vs) (.tup cs)
 | lst (A:Option Addr) (c z:Nat) (t:Bool) (xs:List PV) (u:Nat->Nat->Value) (hc:xs.length<=c) (ht:t=true->c=xs.length)
   (hnil:A=none->c=0) (hel:∀x∈xs,x.el=true/\x.cells.length=z)
   (hA:0<xs.length->∃b s,A=some ⟨b,s,none⟩/\∀(i:Nat) x (j:Nat) y,xs[i]? = some x->x.cells[j]? = some y ->
    imm b (s+i*z+j)/\w.cell? ⟨b,s+i*z+j,none⟩=some (u i j))
   (h:∀(i:Nat) x (j:Nat) y,xs[i]? = some x->x.cells[j]? = some y->Rd0 w imm (u i j) y):Rd0 w imm (.slice A xs.length c) (.lst t xs)
 | rptr (b o:Nat) (cs:List PV) (u:Nat->Value) (hsc:cs.all PV.sc=true)
   (hA:∀(j:Nat) y,cs[j]? = some y->imm b (o+j)/\w.cell? ⟨b,o+j,none⟩=some (u j))
   (h:∀(j:Nat) y,cs[j]? = some y->Rd0 w imm (u j) y):Rd0 w imm (.pointer (some ⟨b,o,none⟩)) (.rptr cs)
 | fn (f:Fn) (vs:Array Value) (cap:List PV) (hn:vs.size=cap.length)
   (h:∀(i:Nat) v c,vs[i]? = some v->cap[i]? = some c->Rd0 w imm v c):Rd0 w imm (.func f #[] vs) (.fn f cap)
 | nilfn:Rd0 w imm .nilFunc .nilfn
 | abs (R:World->(Nat->Nat->Prop)->Value->Prop) (v:Value) (ho:one v=true) (h:∀w' imm',Ext w imm w' imm'->R w' imm' v):Rd0 w imm v (.abs R)
 | junk (v:Value):Rd0 w imm v .junk
def lT(w:World)(imm:Nat->Nat->Prop)(b:Nat)(es:List PV):Prop:=
 (∃ents clock,w.heap[b]? = some (.map ents clock)/\ents.size=es.length/\∀(i:Nat) e,ents[i]? = some e->∃k v,es[i]? = some (.tup [k,v])/\Rd0 w imm e.key k/\Rd0 w imm e.val v) \/
 ∃s pos,w.heap[b]? = some (.stringIter s pos)/\es = [.str s,.int .i64 (pos:Nat)]
theorem lT.obj{b:Nat}{es:List PV}(h:lT w imm b es):∃o,w.heap[b]? = some o/\dS o=true:=by
 rcases h with ⟨ents,clock,c,_⟩ | ⟨s,pos,c,_⟩;·exact⟨_,c,rfl⟩
 .exact⟨_,c,rfl⟩
abbrev MB:Nat:=5000000
theorem Rd0.mono{w:World}{imm:Nat->Nat->Prop}{w':World}{imm':Nat->Nat->Prop}
  (he:Ext w imm w' imm'){v:Value}{d:PV}(h:Rd0 w imm v d):Rd0 w' imm' v d:=by
 induction h with
 | bool b=>exact .bool b
 | int k n=>exact .int k n
 | str s=>exact .str s
 | agg vs cs hsc hn _ ih=>exact .agg vs cs hsc hn ih
 | tup vs cs hn _ ih=>exact .tup vs cs hn ih
 | lst A c z t xs u hc ht hnil hel hA _ ih=>
  refine .lst A c z t xs u hc ht hnil hel (λh0=>?_) ih;obtain⟨b,s,rfl,hcell⟩:=hA h0;exact⟨b,s,rfl,λi x j y hx hy=>⟨he.im _ _ (hcell i x j y hx hy).1,(he.cl _ _ (hcell i x j y hx hy).1).trans (hcell i x j y hx hy).2⟩⟩
 | rptr b o cs u hsc hA _ ih=>
  exact .rptr b o cs u hsc (λj y hy=>⟨he.im _ _ (hA j y hy).1,(he.cl _ _ (hA j y hy).1).trans (hA j y hy).2⟩) ih
 | fn f vs cap hn _ ih=>exact .fn f vs cap hn ih
 | nilfn=>exact .nilfn
 | abs R v ho h=>exact .abs R v ho λw'' imm'' h'=>h w'' imm'' (he.trans h')
 | junk v=>exact .junk v
theorem Rd0.one{d:PV}(h:Rd0 w imm v d)(hs:d.sc=true):one v=true:=by
 cases h <;> first | rfl | assumption | (simp[PV.sc] at hs)
theorem lT.mono{w:World}{imm:Nat->Nat->Prop}{w':World}{imm':Nat->Nat->Prop}(he:Ext w imm w' imm'){b:Nat}{es:List PV}(h:lT w imm b es)(hb:∀o,w.heap[b]? = some o->dS o=true->w'.heap[b]? = some o):lT w' imm' b es:=by
 rcases h with ⟨ents,clock,c,j,p⟩ | ⟨s,pos,c,j⟩
 .refine .inl ⟨ents,clock,hb _ c rfl,j,λi e hi=>?_⟩;obtain⟨k,v,k1,k2,q⟩:=p i e hi;exact⟨k,v,k1,k2.mono he,q.mono he⟩
 .exact .inr ⟨s,pos,hb _ c rfl,j⟩
def Y2(es:List PV)(w:World)(imm:Nat->Nat->Prop)(v:Value):Prop:=∃b,v = .map (some b)/\imm b 0/\lT w imm b es
theorem Jw{es:List PV}(h:Y2 es w imm v):Rd0 w imm v (.abs (Y2 es)):=by
 obtain⟨b,rfl,c,e⟩:=h;refine .abs _ _ rfl λw' imm' he=>⟨b,rfl,he.im _ _ c,e.mono he λo j p=>he.ob _ _ _ c j p⟩
inductive Rd (w:World) (imm:Nat->Nat->Prop) (μ:Nat->O0) (p6:Nat->Prop):Value->PV->Prop
 | cl {v:Value} {d:PV} (h:Rd0 w imm v d):Rd w imm μ p6 v d
 | agg (vs:Array Value) (cs:List PV) (hsc:cs.all PV.sc=true) (hn:vs.size=cs.length)
   (h:∀(i:Nat) v c,vs[i]? = some v->cs[i]? = some c->Rd w imm μ p6 v c):Rd w imm μ p6 (.agg vs) (.agg cs)
 | tup (vs:Array Value) (cs:List PV) (hn:vs.size=cs.length)
   (h:∀(i:Nat) v c,vs[i]? = some v->cs[i]? = some c->Rd w imm μ p6 v c):Rd w imm μ p6 (.tuple vs) (.tup cs)
 | fn (f:Fn) (vs:Array Value) (cap:List PV) (hn:vs.size=cap.length)
   (h:∀(i:Nat) v c,vs[i]? = some v->cap[i]? = some c->Rd w imm μ p6 v c):Rd w imm μ p6 (.func f #[] vs) (.fn f cap)
 | sl (l:Nat) (hp:p6 l):Rd w imm μ p6 (.slice (μ l).A (μ l).n (μ l).C) (.sl l)
 | mp (l b:Nat) (hp:p6 l) (hl:MB<=l) (hA:(μ l).A=some ⟨b,0,none⟩):Rd w imm μ p6 (.map (some b)) (.mp l)
 | ptr (l i f b s:Nat) (hp:p6 l) (hA:(μ l).A=some ⟨b,s,none⟩):Rd w imm μ p6 (.pointer (some ⟨b,s+i*(μ l).z+f,none⟩)) (.ptr l i f)
theorem Rd.mono{w:World}{imm:Nat->Nat->Prop}{μ:Nat->O0}{p6:Nat->Prop}{w':World}{imm':Nat->Nat->Prop}{μ':Nat->O0}{pres':Nat->Prop}
  (he:Ext w imm w' imm')(hp:∀l,p6 l->pres' l/\μ' l=μ l){v:Value}{d:PV}(h:Rd w imm μ p6 v d):Rd w' imm' μ' pres' v d:=by
 induction h with
 | cl h=>exact .cl (h.mono he)
 | agg vs cs hsc hn _ ih=>exact .agg vs cs hsc hn ih
 | tup vs cs hn _ ih=>exact .tup vs cs hn ih
 | fn f vs cap hn _ ih=>exact .fn f vs cap hn ih
 | sl l hl=>rw[<-(hp l hl).2];exact .sl l (hp l hl).1
 | mp l b hl c hA=>exact .mp l b (hp l hl).1 c (by rw[(hp l hl).2];exact hA)
 | ptr l i f b s hl hA=>rw[<-(hp l hl).2] at hA |-;exact .ptr l i f b s (hp l hl).1 hA
theorem Rd.one{μ:Nat->O0}{p6:Nat->Prop}{d:PV}(h:Rd w imm μ p6 v d)(hs:d.sc=true):one v=true:=by
 cases h <;> first | rfl | (rename_i h;exact h.one hs) | (simp[PV.sc] at hs)
theorem uX(h:one v=true):v.cells = #[v]:=by
 cases v <;> first | rfl | (simp[one] at h)
theorem PV.je{d:PV}(h:d.sc=true):d.cells = [d]:=by cases d <;> first | rfl | (simp[PV.sc] at h)
theorem Rd.iT{w:World}{imm:Nat->Nat->Prop}{μ:Nat->O0}{p6:Nat->Prop}{v:Value}{cs:List PV}(h:Rd w imm μ p6 v (.agg cs)) :
  ∃vs:Array Value,v = .agg vs/\vs.size=cs.length/\∀(i:Nat) v c,vs[i]? = some v->cs[i]? = some c->Rd w imm μ p6 v c:=by
 cases h with
 | cl h=>cases h with | agg vs _ hsc hn h=>exact⟨vs,rfl,hn,λi v c hv hc=>.cl (h i v c hv hc)⟩
 | agg vs _ hsc hn h=>exact⟨vs,rfl,hn,h⟩
theorem Rd.AV{w:World}{imm:Nat->Nat->Prop}{μ:Nat->O0}{p6:Nat->Prop}{v:Value}{cs:List PV}(h:Rd w imm μ p6 v (.tup cs)) :
  ∃vs:Array Value,v = .tuple vs/\vs.size=cs.length/\∀(i:Nat) v c,vs[i]? = some v->cs[i]? = some c->Rd w imm μ p6 v c:=by
 cases h with
 | cl h=>cases h with | tup vs _ hn h=>exact⟨vs,rfl,hn,λi v c hv hc=>.cl (h i v c hv hc)⟩
 | tup vs _ hn h=>exact⟨vs,rfl,hn,h⟩
theorem Rd.VL{w:World}{imm:Nat->Nat->Prop}{μ:Nat->O0}{p6:Nat->Prop}{v:Value}{es:List PV}(h:Rd w imm μ p6 v (.mapc es)):False:=by
 cases h with
 | cl h=>cases h
theorem Rd.cells{w:World}{imm:Nat->Nat->Prop}{μ:Nat->O0}{p6:Nat->Prop}{v:Value}{d:PV}(h:Rd w imm μ p6 v d)(hs:d.el=true) :
  v.cells.size=d.cells.length/\∀(j:Nat) u y,v.cells[j]? = some u->d.cells[j]? = some y->Rd w imm μ p6 u y:=by
 by_cases hd:d.sc=true
 .rw[uX (h.one hd),PV.je hd];refine⟨rfl,λj u y hu hy=>?_⟩;cases j with
  | zero=>simp at hu hy;subst hu hy;exact h
  | succ j=>simp at hy
 .cases d <;> first | (exact absurd rfl hd) | (exact absurd hs hd) | (exact h.VL.elim) | skip
  obtain⟨vs,rfl,hn,hc⟩:=h.iT;exact⟨hn,hc⟩
def PV.Z1:PV->Bool
 | .sl _ | .ptr .. | .agg _ | .tup _ | .mp _=>false
 | .fn _ cap=>cap.isEmpty
 | _=>true
def PV.lM:PV->Bool
 | .agg cs | .tup cs | .fn _ cs=>cs.all PV.Z1
 | d=>d.Z1
theorem Rd.Z1{w:World}{imm:Nat->Nat->Prop}{μ:Nat->O0}{p6:Nat->Prop}{v:Value}{d:PV}(h:Rd w imm μ p6 v d)(hs:d.Z1=true):Rd0 w imm v d:=by
 cases h with
 | cl h=>exact h
 | fn f vs cap hn h=>
  have:cap = []:=by simpa[PV.Z1] using hs
  subst this;exact .fn f vs [] hn λi v c _ hc=>by simp at hc
 | _=>simp[PV.Z1] at hs
theorem Rd.lM{w:World}{imm:Nat->Nat->Prop}{μ:Nat->O0}{p6:Nat->Prop}{v:Value}{d:PV}(h:Rd w imm μ p6 v d)(hs:d.lM=true):Rd0 w imm v d:=by
 cases h with
 | cl h=>exact h
 | agg vs cs hsc hn h=>exact .agg vs cs hsc hn λi v c hv hc=>(h i v c hv hc).Z1 Ω6
 | tup vs cs hn h=>exact .tup vs cs hn λi v c hv hc=>(h i v c hv hc).Z1 Ω6
 | fn f vs cs hn h=>exact .fn f vs cs hn λi v c hv hc=>(h i v c hv hc).Z1 Ω6
 | sl l hp=>simp[PV.lM,PV.Z1] at hs
 | mp l b hp=>simp[PV.lM,PV.Z1] at hs
 | ptr l i f b s hp hA=>simp[PV.lM,PV.Z1] at hs
structure Row where
 els:List PV
 lo:Nat
 opn:Bool
 z:Nat
 cl:Bool
def M1(m:O0)(r:Row)(b o:Nat):Prop:=
 ∃s,m.A=some ⟨b,s,none⟩/\s+r.lo*m.z<=o/\o<s+(if r.opn then m.C else m.n)*m.z
structure qt (base:Nat) (w:World) (imm:Nat->Nat->Prop) (μ:Nat->O0) (p6:Nat->Prop) (m:O0) (r:Row):Prop where
 n:m.n=r.els.length
 z:m.z=r.z
 C:m.n<=m.C
 lo:r.lo<=m.n
 el:∀x∈r.els,x.el=true/\x.cells.length=r.z
 nil:m.A=none->m.C=0
 spot:0<m.C->∃b s,m.A=some ⟨b,s,none⟩
 cell:∀(i:Nat) x (j:Nat) y,r.els[i]? = some x->x.cells[j]? = some y->∃b s u,m.A=some ⟨b,s,none⟩/\w.cell? ⟨b,s+i*m.z+j,none⟩=some u /\
  Rd w imm μ p6 u y/\(i<r.lo->imm b (s+i*m.z+j))/\(r.cl=true->Rd0 w imm u y)
 own:∀b o,M1 m r b o->base<=b/\(w.cell? ⟨b,o,none⟩).isSome=true/\w.frozen? ⟨b,o,none⟩=false
structure mD (base:Nat) (w:World) (imm:Nat->Nat->Prop) (μ:Nat->O0) (σ:Nat->Option Row):Prop where
 at_:∀l r,MB<=l->σ l=some r->∃b es,r.els = [.mapc es]/\(μ l).A=some ⟨b,0,none⟩/\base<=b/\lT w imm b es/\(r.cl=false->∀o,¬imm b o)/\(r.cl=true->imm b 0)
 apart:∀l l' r r',MB<=l->MB<=l'->l≠l'->σ l=some r->σ l'=some r'->r.cl=false->(μ l).A≠(μ l').A
structure St where
 env:Nat->PV
 σ:Nat->Option Row
def A3{α:Type}(f:Nat->α)(k:Nat)(x:α):Nat->α:=λi=>if i=k then x else f i
theorem p7(f:Nat->α)(k:Nat)(x:α):A3 f k x k=x:=zb rfl
theorem o0(f:Nat->α){k i:Nat}(x:α)(h:i≠k):A3 f k x i=f i:=za h
theorem gU(f:Nat->α){k l:Nat}(x y:α)(h:k≠l):A3 (A3 f k x) l y=A3 (A3 f l y) k x:=by
 funext i
 unfold A3;by_cases c:i=k <;> by_cases e:i=l <;> simp[c,e] <;> omega
def Z7(env:Nat->PV)(dst:Option Tmp)(d:PV):Nat->PV:=
 match dst with
 | some t=>A3 env t d
 | none=>env
structure nb (B:Nat) (w w':World):Prop extends Below B w w' where
 dr:w.drawn<=w'.drawn
theorem nb.refl(B:Nat)(w:World):nb B w w:=⟨Below.refl B w,zC _⟩
theorem nb.trans{a b c:World}(h:nb B a b)(k:nb B b c):nb B a c:=⟨h.toBelow.trans k.toBelow,zQ h.dr k.dr⟩
def GT(P:Program)(w:World):Prop:=True
theorem GT.heap{P:Program}(h:GT P w)(hb:∀k,k<w.heap.size->w'.heap[k]? = w.heap[k]?):GT P w':=h
theorem GT.bel{P:Program}(h:GT P w)(c:w.heap.size<=B)(hb:nb B w w'):GT P w':=h.heap λk hk=>hb.toBelow.block k Δ
abbrev WG(P:Program):={w:World // GT P w}
structure Ctx where
 P:Program
 N:Nat
 ρ:Option Nat
 w0:World
 imm0:Nat->Nat->Prop
 ext:Nat->Value:=λ_=>undef
 obs:List (Nat × Obj):=[]
 calm:Bool:=false
 tab:GT P w0
def Ctx.val(X:Ctx)(a:Act)(i:Nat):Value:=if i<1000000 then a.tmps.getD i undef else X.ext i
structure Gh where
 imm:Nat->Nat->Prop
 μ:Nat->O0
def St.p6(st:St)(l:Nat):Prop:=∃r,st.σ l=some r
def Marks(base:Nat)(ds:List Deferred)(w:World):Prop:=
 ∃c:List Nat,c.Nodup/\ds=c.map (λr=>{ target:=.collected r,args:=#[] })/\∀r∈c,w.heap[r]? = some (.deferred (some []))/\base<=r
theorem Marks.mono{base:Nat}{ds:List Deferred}{w w':World}(h:Marks base ds w)(hk:∀(k:Nat) (o:Obj),w.heap[k]? = some o->o.isCells=false->w'.heap[k]? = some o):Marks base ds w':=by
 obtain⟨p,e,j,c⟩:=h;exact⟨p,e,j,λr hr=>⟨hk r _ (c r hr).1 rfl,(c r hr).2⟩⟩
theorem nb.mono{B B':Nat}{w w':World}(h:nb B w w')(c:B'<=B):nb B' w w':=⟨h.toBelow.mono c,h.dr⟩
theorem nb.drew{a:World}(h:nb B a w):nb B a w.drew:=⟨h.toBelow.drew,Nat.le_succ_of_le h.dr⟩
theorem nb.alloc{B:Nat}{a w:World}(h:nb B a w)(c:B<=w.heap.size)(o:Obj):nb B a (w.alloc o):=⟨h.toBelow.alloc c o,h.dr⟩
theorem nb.setCell{B:Nat}{a w:World}(h:nb B a w){p:Addr}(hp:B<=p.block)(u:Value):nb B a (w.setCell p u):=⟨h.toBelow.setCell hp u,h.dr⟩
structure u7 (X:Ctx) (g:Gh) (st:St) (a:Act) (w:World):Prop where
 size:a.tmps.size=X.N
 env:∀i,Rd w g.imm g.μ st.p6 (X.val a i) (st.env i)
 rows:∀l r,st.σ l=some r->qt X.w0.heap.size w g.imm g.μ st.p6 (g.μ l) r
 disj:∀l l' r r',l≠l'->st.σ l=some r->st.σ l'=some r'->∀b o,M1 (g.μ l) r b o->¬M1 (g.μ l') r' b o
 ownimm:∀l r b o,st.σ l=some r->M1 (g.μ l) r b o->¬g.imm b o
 immlt:∀b o,g.imm b o->b<w.heap.size
 immsub:∀b o,g.imm b o->X.imm0 b o\/X.w0.heap.size<=b
 immsup:∀b o,X.imm0 b o->g.imm b o
 below:nb X.w0.heap.size X.w0 w
 marks:Marks X.w0.heap.size a.defers w
 obs:∀p∈X.obs,w.heap[p.1]? = some p.2/\p.2.isCells=false/\dS p.2=false
 big:X.N<=1000000/\(X.calm=true->a.defers = [])
 maps:mD X.w0.heap.size w g.imm g.μ st.σ
theorem u7.gt{X:Ctx}{g:Gh}{st:St}{a:Act}(h:u7 X g st a w):GT X.P w:=X.tab.bel (zC _) h.below
end Go.Pw
namespace Go.Pw
open Go.RowKit
variable{X:Ctx}{g:Gh}{st:St}{a:Act}{w:World}
theorem PV.G5{d:PV}{y:PV}{j:Nat}(h:d.cells[j]? = some y):j<d.cells.length:=by
 rcases zI j d.cells.length with h' | h'
 .exact h'
 .rw[zab h'] at h;cases h
variable {base:Nat}{imm:Nat->Nat->Prop}{μ:Nat->O0}{m:O0}{r:Row}{b:Nat}
theorem qt.VJ{w:World}{p6:Nat->Prop}(h:qt base w imm μ p6 m r)
  {i j:Nat}{x y:PV}(hx:r.els[i]? = some x)(hy:x.cells[j]? = some y){s:Nat}(hA:m.A=some ⟨b,s,none⟩)(hi:¬i<r.lo):M1 m r b (s+i*m.z+j):=by
 have hlen:i<r.els.length:=by
  rcases zI i r.els.length with h' | h'
  .exact h'
  .rw[zab h'] at hx;cases hx
 have hz:x.cells.length=m.z:=by rw[h.z];exact (h.el x (zk hx)).2
 have hj:=PV.G5 hy;rw[hz] at hj;refine⟨s,hA,?_,?_⟩
 .have:r.lo*m.z<=i*m.z:=zp _ Δ;omega
 .have hn:=h.n;have p:=h.C;have c:(i+1)*m.z<=m.n*m.z:=zp _ Δ;have e:m.n*m.z<=(if r.opn then m.C else m.n)*m.z:=zp _ ΩZ;rw[wt,zbc] at c;omega
theorem qt.mono{base:Nat}{w:World}{imm:Nat->Nat->Prop}{μ:Nat->O0}{p6:Nat->Prop}{m:O0}{r:Row}(h:qt base w imm μ p6 m r)
  {w':World}{imm':Nat->Nat->Prop}{μ':Nat->O0}{pres':Nat->Prop}(he:Ext w imm w' imm')(hp:∀l,p6 l->pres' l/\μ' l=μ l)
  (c:∀b o,M1 m r b o->w'.cell? ⟨b,o,none⟩=w.cell? ⟨b,o,none⟩/\w'.frozen? ⟨b,o,none⟩=w.frozen? ⟨b,o,none⟩):qt base w' imm' μ' pres' m r where
 n:=h.n
 z:=h.z
 C:=h.C
 lo:=h.lo
 el:=h.el
 nil:=h.nil
 spot:=h.spot
 cell i x j y hx hy:=by
  obtain⟨b,s,u,hA,hc,hr,hi,hcl⟩:=h.cell i x j y hx hy
  refine⟨b,s,u,hA,?_,hr.mono he hp,λq=>he.im _ _ (hi q),λq=>(hcl q).mono he⟩
  by_cases hlo:i<r.lo
  .rw[he.cl _ _ (hi hlo)];exact hc
  .rw[(c _ _ (h.VJ hx hy hA hlo)).1];exact hc
 own b o ho:=by
  obtain⟨e,p,A⟩:=h.own b o ho
  obtain⟨k1,k2⟩:=c b o ho
  exact⟨e,by rw[k1];exact p,by rw[k2];exact A⟩
theorem mD.move{base:Nat}{imm:Nat->Nat->Prop}{μ:Nat->O0}{σ:Nat->Option Row}(h:mD base w imm μ σ){w':World}{imm':Nat->Nat->Prop}(he:Ext w imm w' imm')
  (c:∀b o x,imm' b o->w.heap[b]? = some x->dS x=true->imm b o)(hk:∀(k:Nat) (o:Obj),w.heap[k]? = some o->dS o=true->w'.heap[k]? = some o):mD base w' imm' μ σ where
 at_ l r hl hr:=by
  obtain⟨b,es,j,p,s,e,u,A⟩:=h.at_ l r hl hr
  refine⟨b,es,j,p,s,e.mono he λo C F=>hk b o C F,λq o k=>?_,λq=>he.im _ _ (A q)⟩
  obtain⟨x,k1,k2⟩:=e.obj
  exact u q o (c b o _ k k1 k2)
 apart:=h.apart
theorem pb{w:World}{p6:Nat->Prop}(h:qt base w imm μ p6 m r){o:Nat}(ho:M1 m r b o){x:Obj}(hx:w.heap[b]? = some x):dS x=false:=by
 obtain⟨_,c,_⟩:=h.own b o ho;obtain⟨u,hu⟩:=zal.1 c;obtain⟨e,k1,k2⟩:=cells_of_cell hu;simp only at k1;rw[hx] at k1;cases k1;cases x <;> first | rfl | cases k2
theorem mD.A3{base:Nat}{imm:Nat->Nat->Prop}{μ:Nat->O0}{σ:Nat->Option Row}(h:mD base w imm μ σ){l:Nat}{r r':Row}(hl:σ l=some r)(he:MB<=l->r'.els=r.els)(hc:MB<=l->r'.cl=r.cl):mD base w imm μ (A3 σ l (some r')) where
 at_ l' q c hr:=by
  by_cases e:l'=l
  .subst e
   rw[p7] at hr
   cases hr
   obtain⟨b,es,j,p⟩:=h.at_ l' r c hl
   exact⟨b,es,by rw[he c];exact j,by rw[hc c];exact p⟩
  .rw[o0 _ _ e] at hr
   exact h.at_ l' q c hr
 apart l1 u N R j p s F G H:=by
  have f:∀l' q,MB<=l'->Pw.A3 σ l (some r') l'=some q->∃A,σ l'=some A/\A.cl=q.cl:=λl' q c hr=>by
   by_cases e:l'=l
   .subst e
    rw[p7] at hr
    cases hr
    exact⟨r,hl,(hc c).symm⟩
   .rw[o0 _ _ e] at hr
    exact⟨q,hr,rfl⟩
  obtain⟨s1,k1,k2⟩:=f l1 N j F
  obtain⟨s2,C,_⟩:=f u R p G
  exact h.apart l1 u s1 s2 j p s k1 C (by rw[k2];exact H)
theorem mD.new{σ:Nat->Option Row}(h:mD base w imm μ σ){l:Nat}{r:Option Row}(hl:l<MB):mD base w imm (Pw.A3 μ l m) (Pw.A3 σ l r) where
 at_ l' q c hr:=by
  have e:l'≠l:=λe=>by subst e;exact absurd hl (Nat.not_lt.2 c)
  rw[o0 _ _ e] at hr |-
  exact h.at_ l' q c hr
 apart l1 C N R u A j F G H:=by
  have p:l1≠l:=λe=>by subst e;exact absurd hl (Nat.not_lt.2 u)
  have s:C≠l:=λe=>by subst e;exact absurd hl (Nat.not_lt.2 A)
  rw[o0 _ _ p] at F
  rw[o0 _ _ s] at G
  rw[o0 _ _ p,o0 _ _ s]
  exact h.apart l1 C N R u A j F G H
theorem u7.move(h:u7 X g st a w){w':World}{imm':Nat->Nat->Prop}(he:Ext w g.imm w' imm')
  (c:∀l r b o,st.σ l=some r->M1 (g.μ l) r b o->w'.cell? ⟨b,o,none⟩=w.cell? ⟨b,o,none⟩/\w'.frozen? ⟨b,o,none⟩=w.frozen? ⟨b,o,none⟩/\¬imm' b o)
  (j:∀b o,imm' b o->b<w'.heap.size)(e:∀b o,imm' b o->X.imm0 b o\/X.w0.heap.size<=b)(hb:nb X.w0.heap.size X.w0 w')
  (hk:∀(k:Nat) (o:Obj),w.heap[k]? = some o->o.isCells=false->w'.heap[k]? = some o)
  (s:∀b o x,imm' b o->w.heap[b]? = some x->dS x=true->g.imm b o):u7 X ⟨imm',g.μ⟩ st a w' where
 size:=h.size
 env i:=(h.env i).mono he λ_ hl=>⟨hl,rfl⟩
 rows l r hl:=(h.rows l r hl).mono he (λ_ hl=>⟨hl,rfl⟩) λb o ho=>⟨(c l r b o hl ho).1,(c l r b o hl ho).2.1⟩
 disj:=h.disj
 ownimm l r b o hl ho:=(c l r b o hl ho).2.2
 immlt:=j
 immsub:=e
 immsup b o q:=he.im _ _ (h.immsup b o q)
 below:=hb
 marks:=h.marks.mono hk
 obs p hp:=⟨hk _ _ (h.obs p hp).1 (h.obs p hp).2.1,(h.obs p hp).2⟩
 big:=h.big
 maps:=h.maps.move he s λk o u A=>hk k o u (R1 A)
theorem u7.fz(h:u7 X g st a w){l:Nat}(hl:st.σ l=some r){o:Nat}(ho:M1 (g.μ l) r b o):X.w0.heap.size<=b/\b<w.heap.size:=by
 obtain⟨c,e,_⟩:=(h.rows l r hl).own b o ho;obtain⟨u,hu⟩:=zal.1 e;exact⟨c,World.block_lt_of_cell? _ _ hu⟩
theorem Ext.alloc{imm:Nat->Nat->Prop}(c:∀b o,imm b o->b<w.heap.size)(o:Obj):Ext w imm (w.alloc o) imm where
 im _ _ h:=h
 cl b i h:=World.cell?_alloc_lt _ _ _ (c b i h)
 ob b i x h hx _:=(Below.heap_alloc w o b (c b i h)).trans hx
theorem u7.alloc(h:u7 X g st a w)(o:Obj):u7 X g st a (w.alloc o):=
 h.move (Ext.alloc h.immlt o) (λl r b i hl ho=>⟨World.cell?_alloc_lt _ _ _ (h.fz hl ho).2,World.frozen?_alloc_old _ _ _ (Nat.ne_of_lt (h.fz hl ho).2),h.ownimm l r b i hl ho⟩)
  (λb i q=>by rw[World.size_alloc];exact Nat.lt_succ_of_lt (h.immlt b i q)) h.immsub (h.below.alloc h.below.size o) (KeepsOthers.alloc w o).same (λ_ _ _ q _ _=>q)
theorem u7.drew(h:u7 X g st a w):u7 X g st a w.drew:=
 h.move ⟨λ_ _ q=>q,λ_ _ _=>rfl,λ_ _ _ _ q _=>q⟩ (λl r b i hl ho=>⟨rfl,rfl,h.ownimm l r b i hl ho⟩) h.immlt h.immsub h.below.drew (λ_ _ q _=>q) (λ_ _ _ q _ _=>q)
theorem u7.put(h:u7 X g st a w){v:Value}{d:PV}{dst:Option Tmp}(hd:∀t,dst=some t->t<X.N)(hv:Rd w g.imm g.μ st.p6 v d) :
  u7 X g ⟨Z7 st.env dst d,st.σ⟩ (a.put dst v) w:=by
 cases dst with
 | none=>exact⟨h.size,h.env,h.rows,h.disj,h.ownimm,h.immlt,h.immsub,h.immsup,h.below,h.marks,h.obs,h.big,h.maps⟩
 | some t=>
  have ht:=hd t rfl;rw[<-h.size] at ht;refine⟨by simpa[Act.put] using h.size,λi=>?_,h.rows,h.disj,h.ownimm,h.immlt,h.immsub,h.immsup,h.below,h.marks,h.obs,h.big,h.maps⟩;simp only[Z7,A3];by_cases j:i<1000000
  .have c:=h.env i;simp only[Ctx.val,Act.put,zb j] at c |-;by_cases hi:i=t
   .subst hi;rw[zb rfl];simp only[zO,za0,ut,ht];exact hv
   .rw[za hi];simp only[zO,za0,za (zaz hi)];rw[<-zO];exact c
  .have c:=h.env i;simp only[Ctx.val,za j] at c |-;have hi:i≠t:=λe=>absurd (zb3 (hd t rfl) h.big.1) (by subst e;exact j);rw[za hi];exact c
theorem u7.row(h:u7 X g st a w){l:Nat}{m:O0}{r:Row}(p:l<MB)(hl:st.σ l=none)(hr:qt X.w0.heap.size w g.imm g.μ st.p6 m r)
  (hd:∀l' r' b o,st.σ l'=some r'->M1 (g.μ l') r' b o->¬M1 m r b o)(hi:∀b o,M1 m r b o->¬g.imm b o) :
  u7 X ⟨g.imm,A3 g.μ l m⟩ ⟨st.env,A3 st.σ l (some r)⟩ a w:=by
 have hp:∀l',st.p6 l'->St.p6 ⟨st.env,A3 st.σ l (some r)⟩ l'/\A3 g.μ l m l'=g.μ l':=by
  rintro l' ⟨r',j⟩;have c:l'≠l:=λe=>by subst e;rw[hl] at j;cases j
  exact⟨⟨r',by simpa[o0 _ _ c] using j⟩,o0 _ _ c⟩
 have hcase:∀l' r',A3 st.σ l (some r) l'=some r'->(l'=l/\r'=r)\/(l'≠l/\st.σ l'=some r'):=by
  intro l' r' q;by_cases e:l'=l
  .subst e;rw[p7] at q;cases q;exact .inl ⟨rfl,rfl⟩
  .rw[o0 _ _ e] at q;exact .inr ⟨e,q⟩
 refine⟨h.size,λi=>(h.env i).mono (Ext.refl _ _) hp,λl' r' q=>?_,λl1 C F G c H N b o ho=>?_,λl' r' b o q ho=>?_,h.immlt,h.immsub,h.immsup,h.below,h.marks,h.obs,h.big,h.maps.new p⟩
 .rcases hcase l' r' q with ⟨rfl,rfl⟩ | ⟨e,s⟩
  .simp only[p7];exact hr.mono (Ext.refl _ _) hp λ_ _ _=>⟨rfl,rfl⟩
  .simp only[o0 _ _ e];exact (h.rows l' r' s).mono (Ext.refl _ _) hp λ_ _ _=>⟨rfl,rfl⟩
 .rcases hcase l1 F H with ⟨rfl,rfl⟩ | ⟨u,q1'⟩ <;> rcases hcase C G N with ⟨rfl,rfl⟩ | ⟨A,q2'⟩
  .exact absurd rfl c
  .simp only[p7,o0 _ _ A] at ho |-;exact λk=>hd _ _ b o q2' k ho
  .simp only[p7,o0 _ _ u] at ho |-;exact hd _ _ b o q1' ho
  .simp only[o0 _ _ u,o0 _ _ A] at ho |-;exact h.disj l1 C F G c q1' q2' b o ho
 .rcases hcase l' r' q with ⟨rfl,rfl⟩ | ⟨e,s⟩
  .simp only[p7] at ho;exact hi b o ho
  .simp only[o0 _ _ e] at ho;exact h.ownimm l' r' b o s ho
theorem u7.xY(h:u7 X g st a w){l:Nat}{els:List PV}{T C z:Nat}{opn cl:Bool}(cs:Array Value)(F:l<MB)(hl:st.σ l=none)
  (S:els.length<=C)(p:cs.size=C*z)(hel:∀x∈els,x.el=true/\x.cells.length=z)
  (hcell:∀(i:Nat) x (j:Nat) y u,els[i]? = some x->x.cells[j]? = some y->cs[i*z+j]? = some u->Rd w g.imm g.μ st.p6 u y/\(cl=true->Rd0 w g.imm u y)) :
  u7 X ⟨g.imm,A3 g.μ l ⟨some ⟨w.heap.size,0,none⟩,els.length,C,z⟩⟩ ⟨st.env,A3 st.σ l (some ⟨els,0,opn,z,cl⟩)⟩ a (w.alloc (.cells cs T)):=by
 have N:=h.alloc (.cells cs T);have c:∀b o,M1 ⟨some ⟨w.heap.size,0,none⟩,els.length,C,z⟩ ⟨els,0,opn,z,cl⟩ b o->b=w.heap.size/\o<cs.size:=by
  rintro b o ⟨s,hA,V,R⟩;simp only[wd,Addr.mk.injEq] at hA;obtain⟨rfl,rfl,_⟩:=hA;refine⟨rfl,?_⟩;have:(if opn then C else els.length)*z<=C*z:=zp _ ΩZ;rw[p];simp only at R;omega
 refine N.row F hl ?_ ?_ ?_
 .refine⟨rfl,rfl,S,zU _,hel,(λq=>Γ),λ_=>⟨_,_,rfl⟩,λi x j y hx hy=>?_,λb o ho=>?_⟩
  .have hi:i<els.length:=by
    rcases zI i els.length with q | q
    .exact q
    .rw[zab q] at hx;cases hx
   have hj:j<z:=by rw[<-(hel x (zk hx)).2];exact PV.G5 hy
   have G:i*z+j<cs.size:=by
    have:(i+1)*z<=C*z:=zp _ Δ;rw[wt,zbc] at this;omega
   have hu:cs[i*z+j]? = some cs[i*z+j]:=zq G;have hr:=hcell i x j y _ hx hy hu;have e:Ext w g.imm (w.alloc (.cells cs T)) g.imm:=Ext.alloc h.immlt _;refine⟨w.heap.size,0,cs[i*z+j],rfl,?_,hr.1.mono e λ_ q=>⟨q,rfl⟩,λq=>absurd q (Nat.not_lt_zero _),λq=>(hr.2 q).mono e⟩;rw[World.cell?_alloc_new,zar];exact hu
  .obtain⟨rfl,H⟩:=c b o ho;refine⟨h.below.size,?_,?_⟩;·rw[World.cell?_alloc_new];simp[H]
   .simp
 .intro l' r' b o A ho k;have:=(h.fz A ho).2;have:=(c b o k).1;omega
 .intro b o ho q;have:=h.immlt b o q;have:=(c b o ho).1;omega
end Go.Pw
namespace Go.Pw
open Go.RowKit
variable{X:Ctx}{g:Gh}{st:St}{a:Act}{w:World}
theorem H8(b:Nat):∀(vs:List Value) (o:Nat) (w:World),KeepsOthers w (w.setCells b o vs)
 | [],_,w=>KeepsOthers.refl w
 | _::r,o,w=>(KeepsOthers.setCell w _ _).trans (H8 b r (o+1) _)
theorem jb(b:Nat):∀(vs:List Value) (o:Nat) (w:World),(w.setCells b o vs).heap.size=w.heap.size
 | [],_,_=>rfl
 | _::r,o,w=>by rw[World.setCells,jb b r,World.size_setCell]
theorem fX{B:Nat}{w0:World}(b:Nat)(hb:B<=b):∀(vs:List Value) (o:Nat) (w:World),nb B w0 w->nb B w0 (w.setCells b o vs)
 | [],_,_,h=>h
 | _::r,o,_,h=>fX b hb r (o+1) _ (h.setCell (p:=⟨b,o,none⟩) hb _)
theorem KU(v:Value):one v=v.oneCell':=by cases v <;> rfl
theorem C6{α:Type}{l:List α}{i:Nat}{x:α}(h:l[i]? = some x):i<l.length:=by
 rcases zI i l.length with q | q
 .exact q
 .rw[zab q] at h;cases h
theorem u7.write(h:u7 X g st a w){l:Nat}{r:Row}{b o:Nat}{vs:List Value}{els:List PV}{cl:Bool}(hl:st.σ l=some r)
  (hmine:∀j,j<vs.length->M1 (g.μ l) r b (o+j))(hlen:els.length=r.els.length)(hel:∀x∈els,x.el=true/\x.cells.length=r.z)
  (hcell:∀(i:Nat) x (j:Nat) y,els[i]? = some x->x.cells[j]? = some y->∃c s u,(g.μ l).A=some ⟨c,s,none⟩ /\
   (w.setCells b o vs).cell? ⟨c,s+i*(g.μ l).z+j,none⟩=some u/\Rd w g.imm g.μ st.p6 u y/\(i<r.lo->g.imm c (s+i*(g.μ l).z+j))/\(cl=true->Rd0 w g.imm u y))
  (F:0<vs.length) :
  u7 X g ⟨st.env,A3 st.σ l (some { r with els:=els,cl:=cl })⟩ a (w.setCells b o vs):=by
 have hmine':∀x,o<=x->x<o+vs.length->M1 (g.μ l) r b x:=λx S V=>by
  have:=hmine (x-o) Δ;rwa [show o+(x-o)=x by omega] at this
 have hb:X.w0.heap.size<=b:=(h.fz hl (hmine 0 F)).1;have H:∀c o',¬M1 (g.μ l) r c o'->(w.setCells b o vs).cell? ⟨c,o',none⟩=w.cell? ⟨c,o',none⟩:=λc o' hn=>
  zam b vs o w ⟨c,o',none⟩ λe _=>by
   simp only at e |-;subst e;rcases zI o' o with q | q
   .exact .inl q
   .rcases zI o' (o+vs.length) with N | N
    .exact absurd (hmine' o' q N) hn
    .exact .inr N
 have hx:Ext w g.imm (w.setCells b o vs) g.imm:=⟨λ_ _ q=>q,λc o' q=>H c o' λk=>h.ownimm l r c o' hl k q,
  λk _ x _ hx hc=>(H8 b vs o w).same k x hx (R1 hc)⟩
 have hp:∀l',st.p6 l'->St.p6 ⟨st.env,A3 st.σ l (some { r with els:=els,cl:=cl })⟩ l'/\g.μ l'=g.μ l':=by
  rintro l' ⟨r',hr'⟩;refine⟨?_,rfl⟩;by_cases e:l'=l
  .exact⟨_,ΩL⟩
  .exact⟨r',by rw[show (St.mk st.env (A3 st.σ l (some { r with els:=els,cl:=cl }))).σ l'=st.σ l' from o0 _ _ e];exact hr'⟩
 have hcase:∀l' r',A3 st.σ l (some { r with els:=els,cl:=cl }) l'=some r'->(l'=l/\r'={ r with els:=els,cl:=cl })\/(l'≠l/\st.σ l'=some r'):=by
  intro l' r' q;by_cases e:l'=l
  .subst e;rw[p7] at q;cases q;exact .inl ⟨rfl,rfl⟩
  .rw[o0 _ _ e] at q;exact .inr ⟨e,q⟩
 have G:=h.rows l r hl;have nomap:MB<=l->False:=λq=>by
  obtain⟨c,es,S,_⟩:=h.maps.at_ l r q hl;have hz:r.z=0:=by
   have:=(G.el (.mapc es) (by rw[S];exact zh ..)).2;rw[<-this];rfl
  obtain⟨s,_,k1,k2⟩:=hmine 0 F;rw[G.z,hz] at k1 k2;simp only[Nat.mul_zero] at k1 k2;omega
 refine⟨h.size,λi=>(h.env i).mono hx hp,λl' r' q=>?_,λl1 l2 r1 r2 F q1 q2 c o' ho=>?_,λl' r' c o' q ho=>?_,
  λc o' q=>by rw[jb];exact h.immlt c o' q,h.immsub,h.immsup,fX b hb vs o w h.below,h.marks.mono (H8 b vs o w).same,λp R=>⟨(H8 b vs o w).same _ _ (h.obs p R).1 (h.obs p R).2.1,(h.obs p R).2⟩,h.big,
  (h.maps.move hx (λ_ _ _ q _ _=>q) λk o q1 q2=>(H8 b vs _ w).same k o q1 (R1 q2)).A3 hl (λq=>(nomap q).elim) λq=>(nomap q).elim⟩
 .rcases hcase l' r' q with ⟨rfl,rfl⟩ | ⟨e,N⟩
  .refine⟨by rw[G.n];exact hlen.symm,G.z,G.C,G.lo,hel,G.nil,G.spot,λi x j y hx' hy=>?_,λc o' ho=>?_⟩
   .obtain⟨c,s,u,S,V,h3,h4,h5⟩:=hcell i x j y hx' hy;exact⟨c,s,u,S,V,h3.mono hx hp,h4,λq=>(h5 q).mono hx⟩
   .obtain⟨S,V,h3⟩:=G.own c o' ho;refine⟨S,?_,by rw[zbk];exact h3⟩;by_cases q:c=b/\o<=o'/\o'<o+vs.length
    .obtain⟨rfl,q1,q2⟩:=q;have:=zaw c vs o w (λj hj=>(G.own c (o+j) (hmine j hj)).2.1) (o'-o) Δ;rw[show o+(o'-o)=o' by omega] at this;rw[this];rfl
    .rw[zam b vs o w ⟨c,o',none⟩ λe _=>by simp only at e |-;omega];exact V
  .refine (h.rows l' r' N).mono hx hp λc o' ho=>⟨H c o' λk=>h.disj l' l r' r e N hl c o' ho k,zbk b vs o w _⟩
 .rcases hcase l1 r1 q1 with ⟨rfl,rfl⟩ | ⟨e1,q1'⟩ <;> rcases hcase l2 r2 q2 with ⟨rfl,rfl⟩ | ⟨e2,q2'⟩
  .exact absurd rfl F
  .exact λk=>h.disj l1 l2 r r2 F hl q2' c o' ho k
  .exact λk=>h.disj l1 l2 r1 r F q1' hl c o' ho k
  .exact h.disj l1 l2 r1 r2 F q1' q2' c o' ho
 .rcases hcase l' r' q with ⟨rfl,rfl⟩ | ⟨e,N⟩;·exact h.ownimm l' r c o' hl ho
  .exact h.ownimm l' r' c o' N ho
def oK(σ:Nat->Option Row)(l:Nat):Nat->Option Row:=
 match σ l with
 | some r=>A3 σ l (some { r with lo:=r.els.length })
 | none=>σ
def V1(σ:Nat->Option Row)(ls:List Nat):Nat->Option Row:=ls.foldl oK σ
def qH(g:Gh)(σ:Nat->Option Row)(l lo:Nat):Nat->Nat->Prop:=
 λb o=>g.imm b o\/∃r s,σ l=some r/\M1 (g.μ l) r b o/\(g.μ l).A=some ⟨b,s,none⟩/\o<s+lo*(g.μ l).z
theorem u7.oe(h:u7 X g st a w){l:Nat}{r:Row}(hl:st.σ l=some r)(lo:Nat)(h1:r.lo<=lo)(h2:lo<=r.els.length)(opn:Bool)(hop:opn=true->r.opn=true) :
  u7 X ⟨qH g st.σ l lo,g.μ⟩ ⟨st.env,A3 st.σ l (some { r with lo:=lo,opn:=opn })⟩ a w:=by
 have F:=h.rows l r hl;have hx:Ext w g.imm w (qH g st.σ l lo):=⟨λ_ _ q=>.inl q,λ_ _ _=>rfl,λ_ _ _ _ q _=>q⟩;have hp:∀l',st.p6 l'->St.p6 ⟨st.env,A3 st.σ l (some { r with lo:=lo,opn:=opn })⟩ l'/\g.μ l'=g.μ l':=by
  rintro l' ⟨r',hr'⟩;refine⟨?_,rfl⟩;by_cases e:l'=l
  .exact⟨_,ΩL⟩
  .exact⟨r',by rw[show (St.mk st.env (A3 st.σ l (some { r with lo:=lo,opn:=opn }))).σ l'=st.σ l' from o0 _ _ e];exact hr'⟩
 have hcase:∀l' r',A3 st.σ l (some { r with lo:=lo,opn:=opn }) l'=some r'->(l'=l/\r'={ r with lo:=lo,opn:=opn })\/(l'≠l/\st.σ l'=some r'):=by
  intro l' r' q;by_cases e:l'=l
  .subst e;rw[p7] at q;cases q;exact .inl ⟨rfl,rfl⟩
  .rw[o0 _ _ e] at q;exact .inr ⟨e,q⟩
 have p:∀b o,M1 (g.μ l) { r with lo:=lo,opn:=opn } b o->M1 (g.μ l) r b o/\∀s,(g.μ l).A=some ⟨b,s,none⟩->s+lo*(g.μ l).z<=o:=by
  rintro b o ⟨s,hA,k1,k2⟩;have e1:r.lo*(g.μ l).z<=lo*(g.μ l).z:=zp _ h1;have e2:(if opn then (g.μ l).C else (g.μ l).n)*(g.μ l).z<=(if r.opn then (g.μ l).C else (g.μ l).n)*(g.μ l).z:=zp _ (by
   have:=F.C;cases opn;·simp only[zM,pu];split <;> omega
   .rw[hop rfl];exact zC _)
  simp only at k1 k2;refine⟨⟨s,hA,Δ,Δ⟩,λs' S=>?_⟩;rw[hA] at S;cases S;exact k1
 refine⟨h.size,λi=>(h.env i).mono hx hp,λl' r' q=>?_,λl1 l2 r1 N H q1 q2 R o' ho=>?_,λl' r' R o' q ho=>?_,
  λb o q=>?_,λb o q=>?_,λb o q=>.inl (h.immsup b o q),h.below,h.marks,h.obs,h.big,
  (h.maps.move hx (λb o x q G hm=>q.elim id λ⟨N,s,c,k,_,_⟩=>by rw[pb (h.rows l N c) k G] at hm;cases hm) (λ_ _ q _=>q)).A3 hl (λ_=>rfl) λ_=>rfl⟩
 .rcases hcase l' r' q with ⟨rfl,rfl⟩ | ⟨e,V⟩
  .refine⟨F.n,F.z,F.C,by rw[F.n];exact h2,F.el,F.nil,F.spot,λi x j y G hy=>?_,λb o ho=>F.own b o (p b o ho).1⟩;obtain⟨b,s,u,k1,k2,k3,k4,k5⟩:=F.cell i x j y G hy;refine⟨b,s,u,k1,k2,k3.mono hx hp,λhi'=>?_,λq=>(k5 q).mono hx⟩;by_cases hi:i<r.lo
   .exact .inl (k4 hi)
   .refine .inr ⟨r,s,hl,F.VJ G hy k1 hi,k1,?_⟩;have hz:x.cells.length=(g.μ l').z:=by rw[F.z];exact (F.el x (zk G)).2
    have hj:=PV.G5 hy;simp only at hi';have:(i+1)*(g.μ l').z<=lo*(g.μ l').z:=zp _ Δ;rw[wt,zbc] at this;show s+i*(g.μ l').z+j<s+lo*(g.μ l').z;omega
  .exact (h.rows l' r' V).mono hx hp λ_ _ _=>⟨rfl,rfl⟩
 .rcases hcase l1 r1 q1 with ⟨rfl,rfl⟩ | ⟨e1,q1'⟩ <;> rcases hcase l2 N q2 with ⟨rfl,rfl⟩ | ⟨e2,q2'⟩
  .exact absurd rfl H
  .exact λk=>h.disj l1 l2 r N H hl q2' R o' (p _ _ ho).1 k
  .exact λk=>h.disj l1 l2 r1 r H q1' hl R o' ho (p _ _ k).1
  .exact h.disj l1 l2 r1 N H q1' q2' R o' ho
 .rintro (k | ⟨N,s,c,k,kA,k'⟩)
  .rcases hcase l' r' q with ⟨rfl,rfl⟩ | ⟨e,V⟩;·exact h.ownimm l' r R o' hl (p _ _ ho).1 k
   .exact h.ownimm l' r' R o' V ho k
  .rw[hl] at c;cases c;rcases hcase l' r' q with ⟨rfl,rfl⟩ | ⟨e,V⟩
   .have:=(p _ _ ho).2 s kA;omega
   .exact h.disj l' l r' r e V hl R o' ho k
 .rcases q with q | ⟨N,s,c,k,_,_⟩
  .exact h.immlt b o q
  .rw[hl] at c;cases c;exact (h.fz hl k).2
 .rcases q with q | ⟨N,s,c,k,_,_⟩
  .exact h.immsub b o q
  .rw[hl] at c;cases c;exact .inr (h.fz hl k).1
def Shown(imm:Nat->Nat->Prop)(m:O0)(r:Row):Prop:=
 ∀(i:Nat) x (j:Nat) y b s,r.els[i]? = some x->x.cells[j]? = some y->m.A=some ⟨b,s,none⟩->imm b (s+i*m.z+j)
theorem u7.V1(h:u7 X g st a w):∀(ls:List Nat),∃imm',u7 X ⟨imm',g.μ⟩ ⟨st.env,Pw.V1 st.σ ls⟩ a w/\Ext w g.imm w imm' /\
  ∀l∈ls,∀r,st.σ l=some r->Shown imm' (g.μ l) r:=by
 intro ls;induction ls generalizing g st with
 | nil=>exact⟨g.imm,h,Ext.refl _ _,λ_ q=>by simp at q⟩
 | cons l ls ih=>
  cases hl:st.σ l with
  | none=>
   have e:Pw.V1 st.σ (l::ls)=Pw.V1 st.σ ls:=by simp[Pw.V1,oK,hl]
   obtain⟨imm',h1,C,F⟩:=ih h;refine⟨imm',ΩG,C,λl' q r hr=>?_⟩;rcases zJ.1 q with rfl | q
   .rw[hl] at hr;cases hr
   .exact F l' q r hr
  | some r=>
   have e:Pw.V1 st.σ (l::ls)=Pw.V1 (A3 st.σ l (some { r with lo:=r.els.length,opn:=r.opn })) ls:=by simp[Pw.V1,oK,hl]
   have h0:=h.oe hl r.els.length (by have:=(h.rows l r hl).lo;have:=(h.rows l r hl).n;omega) (zC _) r.opn id;obtain⟨imm',h1,C,F⟩:=ih h0;have hx:Ext w g.imm w (qH g st.σ l r.els.length):=⟨λ_ _ q=>.inl q,λ_ _ _=>rfl,λ_ _ _ _ q _=>q⟩;refine⟨imm',ΩG,hx.trans C,λl' q r' hr=>?_⟩;have hself:∀G,st.σ l=some G->Shown imm' (g.μ l) G:=by
    intro G c i x j y b s A hy hA;rw[hl] at c;cases c;have p:=h0.rows l { r with lo:=r.els.length,opn:=r.opn } (p7 _ _ _);obtain⟨N,s',u,k1,_,_,H,_⟩:=p.cell i x j y A hy;rw[hA] at k1;cases k1;exact C.im _ _ (H (C6 A))
   by_cases el:l'=l
   .subst el;exact hself r' hr
   .rcases zJ.1 q with q | q
    .exact absurd q el
    .exact F l' q r' (by rw[show (St.mk st.env (A3 st.σ l (some { r with lo:=r.els.length,opn:=r.opn }))).σ l'=st.σ l' from o0 _ _ el];exact hr)
def PV.v0(σ:Nat->Option Row):PV->PV
 | .sl l=>match σ l with
  | some r=>.lst false r.els
  | none=>.junk
 | d=>d
def PV.gV(σ:Nat->Option Row):PV->Bool
 | .sl l=>match σ l with
  | some r=>r.cl
  | none=>false
 | d=>d.Z1
def PV.fD:PV->List Nat
 | .sl l=>[l]
 | _=>[]
def PV.v2(σ:Nat->Option Row):PV->PV
 | .ptr l i f=>match σ l with
  | some r=>match r.els[i]? with
   | some x=>.rptr ((x.cells.drop f).map (PV.v0 σ))
   | none=>.junk
  | none=>.junk
 | d=>d.v0 σ
def PV.pG(σ:Nat->Option Row):PV->Bool
 | .ptr l i f=>match σ l with
  | some r=>match r.els[i]? with
   | some x=>(x.cells.drop f).all λy=>y.gV σ&&y.sc
   | none=>false
  | none=>false
 | d=>d.gV σ
def PV.W1(σ:Nat->Option Row):PV->List Nat
 | .ptr l i f=>l::(match σ l with
  | some r=>match r.els[i]? with
   | some x=>(x.cells.drop f).flatMap PV.fD
   | none=>[]
  | none=>[])
 | d=>d.fD
def PV.v3(σ:Nat->Option Row):PV->PV
 | .agg cs=>.agg (cs.map (PV.v0 σ))
 | .fn f cap=>.fn f (cap.map (PV.v2 σ))
 | d=>d.v2 σ
def PV.qp(σ:Nat->Option Row):PV->Bool
 | .agg cs=>cs.all λy=>y.gV σ&&y.sc
 | .fn _ cap=>cap.all (PV.pG σ)
 | d=>d.pG σ
def PV.cC(σ:Nat->Option Row):PV->List Nat
 | .agg cs=>cs.flatMap PV.fD
 | .fn _ cap=>cap.flatMap (PV.W1 σ)
 | d=>d.W1 σ
def PV.view(σ:Nat->Option Row):PV->PV
 | .tup cs=>.tup (cs.map (PV.v3 σ))
 | d=>d.v3 σ
def PV.pY(σ:Nat->Option Row):PV->Bool
 | .tup cs=>cs.all (PV.qp σ)
 | d=>d.qp σ
def PV.T9(σ:Nat->Option Row):PV->List Nat
 | .tup cs=>cs.flatMap (PV.cC σ)
 | d=>d.cC σ
theorem PV.XD{σ:Nat->Option Row}{d:PV}(h:d.gV σ=true)(hs:d.sc=true):(d.v0 σ).sc=true:=by
 cases d <;> first | (exact hs) | skip
 rename_i l;simp only[PV.v0,PV.gV] at *;cases hl:σ l with
 | none=>rw[hl] at h;cases h
 | some r=>rfl
section
variable{imm2:Nat->Nat->Prop}{v:Value}{d:PV}
theorem u7.v0(h:u7 X g st a w)(hx:Ext w g.imm w imm2)(hr:Rd w g.imm g.μ st.p6 v d)(hok:d.gV st.σ=true)
  (hs:∀l∈d.fD,∀r,st.σ l=some r->Shown imm2 (g.μ l) r):Rd0 w imm2 v (d.v0 st.σ):=by
 by_cases hd:∃l,d = .sl l
 .obtain⟨l,rfl⟩:=hd;cases hr with
  | cl h=>cases h
  | sl _ hp=>
   obtain⟨r,hl⟩:=hp;have c:=h.rows l r hl;simp only[PV.v0,hl];simp only[PV.gV,hl] at hok;rw[c.n];refine .lst (g.μ l).A (g.μ l).C (g.μ l).z false r.els (λi j=>match (g.μ l).A with | some ⟨b,s,_⟩=>(w.cell? ⟨b,s+i*(g.μ l).z+j,none⟩).getD undef | none=>undef)
    (by rw[<-c.n];exact c.C) (λq=>Γ) c.nil (λx q=>by rw[c.z];exact c.el x q) (λh0=>?_) (λi x j y p hy=>?_)
   .obtain⟨b,s,hA⟩:=c.spot (by have:=c.C;have:=c.n;omega);refine⟨b,s,hA,λi x j y p hy=>⟨hs l (by simp[PV.fD]) r hl i x j y b s p hy hA,?_⟩⟩;obtain⟨F,s',u,k1,k2,_⟩:=c.cell i x j y p hy;rw[hA] at k1;cases k1;rw[hA];simp only[k2,un]
   .obtain⟨F,s',u,k1,k2,_,_,H⟩:=c.cell i x j y p hy;rw[k1];simp only[k2,un];exact (H hok).mono hx
 .have e:d.v0 st.σ=d:=by cases d <;> first | rfl | exact absurd ⟨_,rfl⟩ hd
  have G:d.gV st.σ=d.Z1:=by cases d <;> first | rfl | exact absurd ⟨_,rfl⟩ hd
  rw[e];rw[G] at hok;exact (hr.Z1 hok).mono hx
theorem u7.v2(h:u7 X g st a w)(hx:Ext w g.imm w imm2)(hr:Rd w g.imm g.μ st.p6 v d)(hok:d.pG st.σ=true)
  (hs:∀l∈d.W1 st.σ,∀r,st.σ l=some r->Shown imm2 (g.μ l) r):Rd0 w imm2 v (d.v2 st.σ):=by
 by_cases hd:∃l i f,d = .ptr l i f
 .obtain⟨l,i,f,rfl⟩:=hd;cases hr with
  | cl h=>cases h
  | ptr _ _ _ b s hp hA=>
   obtain⟨r,hl⟩:=hp;have V:=h.rows l r hl;simp only[PV.pG,hl] at hok;simp only[PV.W1,hl] at hs;simp only[PV.v2,hl];cases c:r.els[i]? with
   | none=>rw[c] at hok;cases hok
   | some x=>
    rw[c] at hok;simp only[c] at hs;simp only;have p:∀(j:Nat) y,((x.cells.drop f).map (PV.v0 st.σ))[j]? = some y->∃y0,x.cells[f+j]? = some y0/\y=y0.v0 st.σ/\y0.gV st.σ=true/\y0.sc=true/\(∀l'∈y0.fD,l'∈(x.cells.drop f).flatMap PV.fD):=by
     intro j y hy;rw[zD,zao] at hy;cases F:x.cells[f+j]? with
     | none=>rw[F] at hy;cases hy
     | some y0=>
      rw[F] at hy;have A:y0∈x.cells.drop f:=zk (by rw[zao];exact F:(x.cells.drop f)[j]? = some y0);have q:=zg.1 hok y0 A;simp only[zB] at q;exact⟨y0,rfl,Ω hy.symm,q.1,q.2,λl' C=>zae.2 ⟨y0,A,C⟩⟩
    refine .rptr b (s+i*(g.μ l).z+f) _ (λj=>(w.cell? ⟨b,s+i*(g.μ l).z+f+j,none⟩).getD undef) ?_ (λj y hy=>?_) (λj y hy=>?_)
    .rw[zg];intro y hy;obtain⟨j,hj⟩:=zb7 hy;obtain⟨y0,_,rfl,k2,S,_⟩:=p j y hj;exact PV.XD k2 S
    .obtain⟨y0,N,rfl,k2,S,_⟩:=p j y hy;obtain⟨b',s',u,G,H,_⟩:=V.cell i x (f+j) y0 c N;rw[hA] at G;cases G;have:=hs l Ψ r hl i x (f+j) y0 b s c N hA;rw[<-t8] at H this;exact⟨this,by rw[H];rfl⟩
    .obtain⟨y0,N,rfl,k2,S,k4⟩:=p j y hy;obtain⟨b',s',u,G,H,q3,_⟩:=V.cell i x (f+j) y0 c N;rw[hA] at G;cases G;rw[<-t8] at H;simp only[H,un];exact h.v0 hx q3 k2 λl' C r' R=>hs l' (zw _ (k4 l' C)) r' R
 .have e:d.v2 st.σ=d.v0 st.σ:=by cases d <;> first | rfl | exact absurd ⟨_,_,_,rfl⟩ hd
  have e':d.pG st.σ=d.gV st.σ:=by cases d <;> first | rfl | exact absurd ⟨_,_,_,rfl⟩ hd
  have e'':d.W1 st.σ=d.fD:=by cases d <;> first | rfl | exact absurd ⟨_,_,_,rfl⟩ hd
  rw[e];rw[e'] at hok;rw[e''] at hs;exact h.v0 hx hr hok hs
theorem u7.v3(h:u7 X g st a w)(hx:Ext w g.imm w imm2)(hr:Rd w g.imm g.μ st.p6 v d)(hok:d.qp st.σ=true)
  (hs:∀l∈d.cC st.σ,∀r,st.σ l=some r->Shown imm2 (g.μ l) r):Rd0 w imm2 v (d.v3 st.σ):=by
 cases d;case agg cs=>
  obtain⟨vs,rfl,hn,hc⟩:=hr.iT;simp only[PV.qp,zg,zB] at hok;simp only[PV.cC] at hs;refine .agg vs _ ?_ (Ω hn) λi v c hv e=>?_
  .rw[zg];intro y hy;obtain⟨y0,h0,rfl⟩:=zn.1 hy;exact PV.XD (hok y0 h0).1 (hok y0 h0).2
  .rw[zD] at e;cases j:cs[i]? with
   | none=>rw[j] at e;cases e
   | some p=>
    rw[j] at e;cases e;have hm:=zk j;exact h.v0 hx (hc i v p hv j) (hok p hm).1 λl hl=>hs l (zae.2 ⟨p,hm,hl⟩)
 case fn f cap=>
  have q:∃vs:Array Value,v = .func f #[] vs/\vs.size=cap.length/\∀(i:Nat) v c,vs[i]? = some v->cap[i]? = some c->Rd w g.imm g.μ st.p6 v c:=by
   cases hr with
   | cl h=>cases h with | fn _ vs _ hn h=>exact⟨vs,rfl,hn,λi v c hv hc=>.cl (h i v c hv hc)⟩
   | fn _ vs _ hn h=>exact⟨vs,rfl,hn,h⟩
  obtain⟨vs,rfl,hn,hc⟩:=q;simp only[PV.qp,zg] at hok;simp only[PV.cC] at hs;refine .fn f vs _ (Ω hn) λi v c hv e=>?_;rw[zD] at e;cases j:cap[i]? with
  | none=>rw[j] at e;cases e
  | some p=>
   rw[j] at e;cases e;have hm:=zk j;exact h.v2 hx (hc i v p hv j) (hok p hm) λl hl=>hs l (zae.2 ⟨p,hm,hl⟩)
 case tup cs=>exact h.v2 hx hr hok hs
 all_goals exact h.v2 hx hr hok hs
theorem u7.view(h:u7 X g st a w)(hx:Ext w g.imm w imm2)(hr:Rd w g.imm g.μ st.p6 v d)(hok:d.pY st.σ=true)
  (hs:∀l∈d.T9 st.σ,∀r,st.σ l=some r->Shown imm2 (g.μ l) r):Rd0 w imm2 v (d.view st.σ):=by
 cases d;case tup cs=>
  obtain⟨vs,rfl,hn,hc⟩:=hr.AV;simp only[PV.pY,zg] at hok;simp only[PV.T9] at hs;refine .tup vs _ (Ω hn) λi v c hv e=>?_;rw[zD] at e;cases j:cs[i]? with
  | none=>rw[j] at e;cases e
  | some p=>
   rw[j] at e;cases e;have hm:=zk j;exact h.v3 hx (hc i v p hv j) (hok p hm) λl hl=>hs l (zae.2 ⟨p,hm,hl⟩)
 all_goals exact h.v3 hx hr hok hs
end
end Go.Pw
namespace Go.Pw
open Go.RowKit
def u5(P:Program)(t:TypeId):Option Nat:=(P.info? t).map (·.size)
def J7(P:Program)(t:TypeId):Option Nat:=(P.info? t).map (·.bytes)
def A6(P:Program)(t:TypeId):Option Value:=(P.info? t).bind (·.zero)
def K5(P:Program)(t:TypeId):Option Bool:=(P.underlying t).map λ| .struct _ | .array _ _=>true | _=>false
def B7(P:Program)(t:TypeId):Option TypeId:=match P.underlying t with | some (.slice e)=>some e | _=>none
def Tp(P:Program)(t:TypeId):Option (Nat × TypeId):=match P.underlying t with | some (.array n e)=>some (n,e) | _=>none
def L4(P:Program)(t:TypeId)(f:Nat):Option (Nat × TypeId):=
 match P.underlying t with
 | some (.struct fs)=>match fs[f]? with
  | some fd=>match u5 P fd.type with
   | some (_+1)=>some (fd.offset,fd.type)
   | _=>none
  | none=>none
 | _=>none
def a0a(P:Program)(t:TypeId):Option IntKind:=match P.underlying t with | some (.int k)=>some k | _=>none
def PV.w0:PV->PV
 | .lst _ xs=>.lst false xs
 | d=>d
def PV.w1:PV->PV
 | .agg cs=>.agg (cs.map PV.w0)
 | .rptr cs=>.rptr (cs.map PV.w0)
 | d=>d.w0
def PV.w2:PV->PV
 | .fn f cap=>.fn f (cap.map PV.w1)
 | d=>d.w1
def PV.w3:PV->PV
 | .tup vs=>.tup (vs.map PV.w2)
 | d=>d.w2
theorem a1r{d:PV}(h:d.sc=true):d.w0.sc=true:=by cases d <;> first | exact h | rfl
theorem Kr{cs:List PV}(h:cs.all PV.sc=true):(cs.map PV.w0).all PV.sc=true:=by
 rw[zg] at h |-;intro y hy;obtain⟨y0,h0,rfl⟩:=zn.1 hy;exact a1r (h y0 h0)
theorem kl{α β:Type}{f:α->β}{l:List α}{i:Nat}{c:β}(h:(l.map f)[i]? = some c):∃e,l[i]? = some e/\f e=c:=by
 rw[zD] at h;cases j:l[i]? with
 | none=>rw[j] at h;cases h
 | some e=>rw[j] at h;exact⟨e,rfl,Ω h⟩
theorem Rd0.w0{w:World}{imm:Nat->Nat->Prop}{v:Value}{d:PV}(h:Rd0 w imm v d):Rd0 w imm v d.w0:=by
 cases h with
 | lst A c z t xs u e G j p C F=>exact .lst A c z false xs u e (λq=>Γ) j p C F
 | bool b=>exact .bool b
 | int k n=>exact .int k n
 | str s=>exact .str s
 | agg vs cs a b c=>exact .agg vs cs a b c
 | tup vs cs a b=>exact .tup vs cs a b
 | rptr b o cs u a b c=>exact .rptr _ o cs u a b c
 | fn f vs cap a b=>exact .fn f vs cap a b
 | nilfn=>exact .nilfn
 | abs R v a b=>exact .abs R v a b
 | junk v=>exact .junk v
theorem Rd0.w1{w:World}{imm:Nat->Nat->Prop}{v:Value}{d:PV}(h:Rd0 w imm v d):Rd0 w imm v d.w1:=by
 cases h with
 | lst A c z t xs u C S F G H N=>exact .lst A c z false xs u C (λq=>Γ) F G H N
 | bool b=>exact .bool b
 | int k n=>exact .int k n
 | str s=>exact .str s
 | agg vs cs hsc hn hc=>
  refine .agg vs _ (Kr hsc) (Ω hn) λi v c hv p=>?_;obtain⟨e,k1,rfl⟩:=kl p;exact (hc i v e hv k1).w0
 | tup vs cs a b=>exact .tup vs cs a b
 | rptr b o cs u hsc ha hc=>
  refine .rptr b o _ u (Kr hsc) (λj y hy=>?_) (λj y hy=>?_)
  .obtain⟨e,k1,rfl⟩:=kl hy;exact ha j e k1
  .obtain⟨e,k1,rfl⟩:=kl hy;exact (hc j e k1).w0
 | fn f vs cap a b=>exact .fn f vs cap a b
 | nilfn=>exact .nilfn
 | abs R v a b=>exact .abs R v a b
 | junk v=>exact .junk v
theorem Rd0.w2{w:World}{imm:Nat->Nat->Prop}{v:Value}{d:PV}(h:Rd0 w imm v d):Rd0 w imm v d.w2:=by
 by_cases e:∃f cs,d = .fn f cs
 .obtain⟨f,cs,rfl⟩:=e;cases h with
  | fn f vs _ hn hc=>
   refine .fn f vs _ (Ω hn) λi v c hv j=>?_;obtain⟨p,k1,rfl⟩:=kl j;exact (hc i v p hv k1).w1
 .have:d.w2=d.w1:=by cases d <;> first | rfl | exact absurd ⟨_,_,rfl⟩ e
  rw[this];exact h.w1
theorem Rd0.w3{w:World}{imm:Nat->Nat->Prop}{v:Value}{d:PV}(h:Rd0 w imm v d):Rd0 w imm v d.w3:=by
 by_cases e:∃cs,d = .tup cs
 .obtain⟨cs,rfl⟩:=e;cases h with
  | tup vs _ hn hc=>
   refine .tup vs _ (Ω hn) λi v c hv j=>?_;obtain⟨p,k1,rfl⟩:=kl j;exact (hc i v p hv k1).w2
 .have:d.w3=d.w2:=by cases d <;> first | rfl | exact absurd ⟨_,rfl⟩ e
  rw[this];exact h.w2
section
variable{w:World}{imm:Nat->Nat->Prop}{μ:Nat->O0}{p6:Nat->Prop}
theorem Rd.w0{v:Value}{d:PV}(h:Rd w imm μ p6 v d):Rd w imm μ p6 v d.w0:=by
 cases h with
 | cl h=>exact .cl h.w0
 | agg vs cs a b c=>exact .agg vs cs a b c
 | tup vs cs a b=>exact .tup vs cs a b
 | fn f vs cap a b=>exact .fn f vs cap a b
 | sl l a=>exact .sl l a
 | mp l b a c d=>exact .mp l b a c d
 | ptr l i f b s a c=>exact .ptr l i f b s a c
theorem Rd.w1{v:Value}{d:PV}(h:Rd w imm μ p6 v d):Rd w imm μ p6 v d.w1:=by
 cases h with
 | cl h=>exact .cl h.w1
 | agg vs cs hsc hn hc=>
  refine .agg vs _ (Kr hsc) (Ω hn) λi v c hv e=>?_;obtain⟨j,k1,rfl⟩:=kl e;exact (hc i v j hv k1).w0
 | tup vs cs a b=>exact .tup vs cs a b
 | fn f vs cap a b=>exact .fn f vs cap a b
 | sl l a=>exact .sl l a
 | mp l b a c d=>exact .mp l b a c d
 | ptr l i f b s a c=>exact .ptr l i f b s a c
theorem Rd.w2{v:Value}{d:PV}(h:Rd w imm μ p6 v d):Rd w imm μ p6 v d.w2:=by
 by_cases e:∃f cs,d = .fn f cs
 .obtain⟨f,cs,rfl⟩:=e;cases h with
  | cl h=>exact .cl h.w2
  | fn f vs _ hn hc=>
   refine .fn f vs _ (Ω hn) λi v c hv j=>?_;obtain⟨p,k1,rfl⟩:=kl j;exact (hc i v p hv k1).w1
 .have:d.w2=d.w1:=by cases d <;> first | rfl | exact absurd ⟨_,_,rfl⟩ e
  rw[this];exact h.w1
end
def PV.vw(σ:Nat->Option Row)(d:PV):PV:=(d.view σ).w2
def Kc:World->(Nat->Nat->Prop)->Value->Prop:=λ_ _ v=>v = .map none
def PV.DJ:Value->PV
 | .bool b=>.bool b
 | .int k n=>.int k n
 | .string s=>.str s
 | .slice none 0 0=>.lst true []
 | .nilFunc=>.nilfn
 | .map none=>.abs Kc
 | _=>.junk
def PV.fH:Value->PV
 | .agg vs=>if (vs.toList.map PV.DJ).all PV.sc then .agg (vs.toList.map PV.DJ) else .junk
 | .tuple vs=>if vs.toList.isEmpty then .tup [] else .junk
 | v=>PV.DJ v
theorem Ns(w:World)(imm:Nat->Nat->Prop)(v:Value):Rd0 w imm v (PV.DJ v):=by
 unfold PV.DJ;split;·exact .bool _
 .exact .int _ _
 .exact .str _
 .exact .lst none 0 1 true [] (λ_ _=>undef) (zC _) (λ_=>rfl) (λ_=>rfl) (λ_ q=>by simp at q) (λq=>absurd q (zb0 _)) (λi x j y q=>by simp at q)
 .exact .nilfn
 .exact .abs _ _ rfl λ_ _ _=>rfl
 .exact .junk _
theorem ux(w:World)(imm:Nat->Nat->Prop)(v:Value):Rd0 w imm v (PV.fH v):=by
 unfold PV.fH;split
 .rename_i vs;split
  .rename_i h;refine .agg vs _ h Ψ λi v c hv hc=>?_;rw[zD] at hc;have:vs.toList[i]? = some v:=by simpa using hv
   rw[this] at hc;cases hc;exact Ns w imm v
  .exact .junk _
 .rename_i vs;split
  .rename_i h;refine .tup vs [] (Ω h) λi v c hv hc=>by simp at hc
  .exact .junk _
 .exact Ns w imm _
def B8(env:Nat->PV):Operand->PV
 | .tmp t=>if t<1000000 then env t else .junk
 | .const v=>PV.fH v
 | .global _=>.junk
 | .func f=>.fn (.func f) []
section
variable{X:Ctx}{g:Gh}{st:St}{a:Act}{w:World}
theorem u7.eval(h:u7 X g st a w)(x:Operand):Rd w g.imm g.μ st.p6 (a.eval x) (B8 st.env x):=by
 cases x with
 | tmp t=>
  have:=h.env t;unfold Ctx.val at this;unfold B8;by_cases q:t<1000000
  .rw[zb q] at this;simp only[zb q];exact this
  .simp only[za q];exact .cl (.junk _)
 | const v=>exact .cl (ux _ _ _)
 | global g=>exact .cl (.junk _)
 | func f=>exact .cl (.fn _ #[] [] rfl λi v c _ hc=>Ωj)
theorem u7.QS(h:u7 X g st a w)(t:Nat):Rd w g.imm g.μ st.p6 (a.tmps.getD t undef) (B8 st.env (.tmp t)):=h.eval (.tmp t)
variable {w:World}{imm:Nat->Nat->Prop}{μ:Nat->O0}{v:Value}
theorem Rd.eD{p6:Nat->Prop}{b:Bool}(h:Rd w imm μ p6 v (.bool b)):v = .bool b:=by
 cases h with | cl h=>cases h;rfl
theorem Rd.U3{p6:Nat->Prop}{k:IntKind}{n:Int}(h:Rd w imm μ p6 v (.int k n)):v = .int k n:=by
 cases h with | cl h=>cases h;rfl
theorem Rd.pF{p6:Nat->Prop}{s:ByteArray}(h:Rd w imm μ p6 v (.str s)):v = .string s:=by
 cases h with | cl h=>cases h;rfl
theorem Rd.cM{w:World}{imm:Nat->Nat->Prop}{μ:Nat->O0}{p6:Nat->Prop}{v:Value}{l i f:Nat}(h:Rd w imm μ p6 v (.ptr l i f)) :
  p6 l/\∃b s,(μ l).A=some ⟨b,s,none⟩/\v = .pointer (some ⟨b,s+i*(μ l).z+f,none⟩):=by
 cases h with
 | cl h=>cases h
 | ptr _ _ _ b s hp hA=>exact⟨hp,b,s,hA,rfl⟩
theorem Rd.fC{w:World}{imm:Nat->Nat->Prop}{μ:Nat->O0}{p6:Nat->Prop}{v:Value}{l:Nat}(h:Rd w imm μ p6 v (.sl l)) :
  p6 l/\v = .slice (μ l).A (μ l).n (μ l).C:=by
 cases h with
 | cl h=>cases h
 | sl _ hp=>exact⟨hp,rfl⟩
theorem Rd.Cm{w:World}{imm:Nat->Nat->Prop}{μ:Nat->O0}{p6:Nat->Prop}{v:Value}{l:Nat}(h:Rd w imm μ p6 v (.mp l)) :
  p6 l/\MB<=l/\∃b,(μ l).A=some ⟨b,0,none⟩/\v = .map (some b):=by
 cases h with
 | cl h=>cases h
 | mp _ b hp hl hA=>exact⟨hp,hl,b,hA,rfl⟩
theorem Rd.gM{w:World}{imm:Nat->Nat->Prop}{μ:Nat->O0}{p6:Nat->Prop}{v:Value}{cs:List PV}(h:Rd w imm μ p6 v (.rptr cs)) :
  ∃b o,∃u:Nat->Value,v = .pointer (some ⟨b,o,none⟩)/\cs.all PV.sc=true/\∀(j:Nat) y,cs[j]? = some y->imm b (o+j)/\w.cell? ⟨b,o+j,none⟩=some (u j)/\Rd0 w imm (u j) y:=by
 cases h with
 | cl h=>cases h with | rptr b o _ u hsc hA h=>exact⟨b,o,u,rfl,hsc,λj y hy=>⟨(hA j y hy).1,(hA j y hy).2,h j y hy⟩⟩
theorem Rd.gp{w:World}{imm:Nat->Nat->Prop}{μ:Nat->O0}{p6:Nat->Prop}{v:Value}{t:Bool}{xs:List PV}(h:Rd w imm μ p6 v (.lst t xs)) :
  ∃A c z,∃u:Nat->Nat->Value,v = .slice A xs.length c/\xs.length<=c/\(t=true->c=xs.length)/\(A=none->c=0)/\(∀x∈xs,x.el=true/\x.cells.length=z) /\
   (0<xs.length->∃b s,A=some ⟨b,s,none⟩/\∀(i:Nat) x (j:Nat) y,xs[i]? = some x->x.cells[j]? = some y ->
    imm b (s+i*z+j)/\w.cell? ⟨b,s+i*z+j,none⟩=some (u i j)) /\
   (∀(i:Nat) x (j:Nat) y,xs[i]? = some x->x.cells[j]? = some y->Rd0 w imm (u i j) y):=by
 cases h with
 | cl h=>cases h with | lst A c z _ _ u e p q C F G=>exact⟨A,c,z,u,rfl,e,p,q,C,F,G⟩
theorem Rd.Kq{w:World}{imm:Nat->Nat->Prop}{μ:Nat->O0}{p6:Nat->Prop}{v:Value}{cs:List PV}(h:Rd w imm μ p6 v (.agg cs)):cs.all PV.sc=true:=by
 cases h with
 | cl h=>cases h;assumption
 | agg _ _ hsc=>exact hsc
theorem J0{P:Program}{t:TypeId}{n:Nat}(h:u5 P t=some n)(w:World):(sizeOf t).run P w = .ok n w:=by
 unfold u5 at h;cases hi:P.info? t with
 | none=>rw[hi] at h;cases h
 | some i=>rw[hi] at h;simp at h;simp[sizeOf,typeInfo,hi,h]
theorem pw{P:Program}{t:TypeId}{b:Bool}(h:K5 P t=some b)(w:World):(isAgg t).run P w = .ok b w:=by
 unfold K5 at h;cases hi:P.underlying t with
 | none=>rw[hi] at h;cases h
 | some i=>
  rw[hi] at h;simp only[rg,wd] at h;subst h;simp only[isAgg,zy,zR hi,zm];cases i <;> rfl
theorem nQ{P:Program}{t:TypeId}{v:Value}(h:A6 P t=some v)(w:World):(zeroValue t).run P w = .ok v w:=by
 unfold A6 at h;cases hi:P.info? t with
 | none=>rw[hi] at h;cases h
 | some i=>rw[hi] at h;simp at h;simp[zeroValue,typeInfo,hi,h]
theorem T2(b o n:Nat):(⟨b,o,none⟩:Addr).add n=⟨b,o+n,none⟩:=by
 unfold Addr.add;split;·simp_all
 .rfl
theorem ff{P:Program}{t:TypeId}{n b o:Nat}(ha:K5 P t=some true)(hs:u5 P t=some n)(u:Nat->Value)
  (h:∀j,j<n->w.cell? ⟨b,o+j,none⟩=some (u j)):(loadVar t ⟨b,o,none⟩).run P w = .ok (.agg ((List.range n).map u).toArray) w:=by
 have:=run_loadCells (P:=P) w ⟨b,o,none⟩ n u (λj hj=>by rw[T2];exact h j hj);simp only[loadVar,zy,pw ha,zm,ut,J0 hs,this];rfl
theorem fg{P:Program}{t:TypeId}{b o:Nat}{u:Value}(ha:K5 P t=some false)(h:w.cell? ⟨b,o,none⟩=some u) :
  (loadVar t ⟨b,o,none⟩).run P w = .ok u w:=by
 simp only[loadVar,zy,pw ha,zm,zM,pu,load,Sem.run,h]
theorem Hr{P:Program}{t:TypeId}{n b o:Nat}(hs:u5 P t=some n)(hn:v.cells.size=n)
  (hc:∀j,j<n->(w.cell? ⟨b,o+j,none⟩).isSome=true/\w.frozen? ⟨b,o+j,none⟩=false)(c:∀u∈v.cells.toList,one u=true) :
  (storeVar t ⟨b,o,none⟩ v).run P w = .ok () (w.setCells b o v.cells.toList):=by
 have:=run_storeCells_cells (P:=P) b o v.cells.toList 0 w (λj hj=>Ω ((hc j (by simpa[hn] using hj)).1))
  (λj hj=>Ω ((hc j (by simpa[hn] using hj)).2)) (λu hu=>by rw[<-KU];exact c u hu)
 simp only[storeVar,zy,J0 hs,zm,hn,ne_eq,not_true_eq_false,pu];simpa using this
end
def HQ(w:World)(imm:Nat->Nat->Prop)(vs:Array Value)(ds:List PV):Prop:=
 vs.size=ds.length/\∀(i:Nat) v d,vs[i]? = some v->ds[i]? = some d->Rd0 w imm v d
def jU(imm:Nat->Nat->Prop)(w w':World):Nat->Nat->Prop:=λb o=>imm b o\/(w.heap.size<=b/\b<w'.heap.size)
def cd(P:Program)(f:FuncId)(ds:List PV)(d:PV):Prop:=
 ∀(w:World) (imm:Nat->Nat->Prop) (vs:Array Value),(∀b o,imm b o->b<w.heap.size)->GT P w->HQ w imm vs ds ->
  Calls P f vs w λe w'=>∃v,e = .returned v/\nb w.heap.size w w'/\Rd0 w' (jU imm w w') v d
def og(P:Program)(f:FuncId)(ds:List PV)(r:Row):Prop:=
 ∀(w:World) (imm:Nat->Nat->Prop) (vs:Array Value),(∀b o,imm b o->b<w.heap.size)->GT P w->HQ w imm vs ds ->
  Calls P f vs w λe w'=>∃m:O0,e = .returned (.slice m.A m.n m.C)/\nb w.heap.size w w' /\
   qt w.heap.size w' (λb o=>jU imm w w' b o/\¬M1 m r b o) (λ_=>m) (λ_=>False) m r/\∀b o,M1 m r b o->w.heap.size<=b
def PV.BG:PV->Bool
 | .bool _ | .int .. | .str _=>true
 | _=>false
def PV.Xk:PV->Bool
 | .agg cs=>cs.all PV.BG
 | d=>d.BG
def PV.flat:PV->Bool
 | .agg cs=>cs.all PV.BG
 | .tup cs=>cs.all PV.Xk
 | d=>d.BG
inductive aj where
 | none
 | new (l:Nat) (r:Row)
 | app (s l:Nat) (r:Row)
 | sto (l i f:Nat) (cs:List PV)
 | AE (l:Nat) (ys:List PV)
 | oe (ls:List Nat)
 | frzN (ls:List Nat) (l:Nat) (r:Row)
def JD(x:PV):List PV->PV
 | [c]=>c
 | _=>x
def K8(x:PV)(f:Nat)(cs:List PV):PV:=
 match x with
 | .agg es=>.agg (es.take f++cs++es.drop (f+cs.length))
 | x=>JD x cs
def aj.apply(σ:Nat->Option Row):aj->Nat->Option Row
 | .none=>σ
 | .new l r=>A3 σ l (some r)
 | .app s l r=>A3 (match σ s with | some q=>A3 σ s (some { q with lo:=q.els.length,opn:=false }) | Option.none=>σ) l (some r)
 | .sto l i f cs=>match σ l with
  | some q=>match q.els[i]? with
   | some x=>A3 σ l (some { q with els:=q.els.set i (K8 x f cs),cl:=q.cl&&cs.all PV.Z1 })
   | Option.none=>σ
  | Option.none=>σ
 | .AE l ys=>match σ l with
  | some q=>A3 σ l (some { q with els:=ys++q.els.drop ys.length })
  | Option.none=>σ
 | .oe ls=>V1 σ ls
 | .frzN ls l r=>A3 (V1 σ ls) l (some r)
def aj.ok(σ:Nat->Option Row):aj->Prop
 | .none=>True
 | .new l _=>σ l=Option.none
 | .app s l _=>σ l=Option.none/\∃q,σ s=some q/\q.opn=true
 | .sto l i f cs=>∃q x,σ l=some q/\q.els[i]? = some x/\q.lo<=i/\f+cs.length<=x.cells.length/\cs.all PV.sc=true
 | .AE l ys=>∃q,σ l=some q/\q.lo=0/\ys.length<=q.els.length
 | .oe _=>True
 | .frzN _ l _=>σ l=Option.none
def QI:BinOp->Int->Int->Option Bool
 | .eql,a,b=>some (a==b)
 | .neq,a,b=>some (a != b)
 | .lss,a,b=>some (decide (a<b))
 | .leq,a,b=>some (decide (a<=b))
 | .gtr,a,b=>some (decide (a > b))
 | .geq,a,b=>some (decide (a>=b))
 | _,_,_=>none
def Qr(k:IntKind):BinOp->Int->Int->Option Int
 | .add,a,b=>some (k.wrap (a+b))
 | .sub,a,b=>some (k.wrap (a-b))
 | .mul,a,b=>some (k.wrap (a*b))
 | .quo,a,b=>if b=0 then none else some (k.wrap (a.tdiv b))
 | .rem,a,b=>if b=0 then none else some (a.tmod b)
 | _,_,_=>none
def pM(place:Nat->Option (Nat × Nat))(cs:List PV):List (Nat × PV)->Option (List PV)
 | []=>some cs
 | (i,d)::rest=>
  match place i with
  | none=>none
  | some (off,size)=>if d.cells.length≠size\/cs.length<off+d.cells.length\/d.el=false then none
   else pM place (cs.take off++d.cells++cs.drop (off+d.cells.length)) rest
def D4(P:Program)(t:TypeId):Option (Nat->Option (Nat × Nat)):=
 match P.underlying t with
 | some (.array _ e)=>(P.info? e).map λie i=>some (i*ie.size,ie.size)
 | some (.struct fields)=>(fields.toList.mapM (λf=>(P.info? f.type).map λi=>(f.offset,i.size))).map λplaces i=>places.toArray[i]?
 | _=>none
def Src(σ:Nat->Option Row)(d:PV)(ys:List PV)(cl:Bool):Prop:=
 (∃t,d = .lst t ys/\cl=true)\/(∃l r,d = .sl l/\σ l=some r/\ys=r.els/\cl=r.cl)
def uH(ρ:Operand->PV)(x:Option Operand)(dflt n:Nat):Prop:=
 match x with
 | some y=>∃k,ρ y = .int k n
 | none=>n=dflt
inductive G4 (P:Program) (σ:Nat->Option Row) (ρ:Operand->PV) (dst:Option Tmp):Op->PV->aj->Prop
 | pureV (op d) (hnd:∀c,op ≠ .defer c) (hnl:∀T x,op ≠ .load T x) (h:∀(o:Oper) (w:World) (imm:Nat->Nat->Prop) (μ:Nat->O0) (p6:Nat->Prop) (ev:Operand->Value),o.op=op->(∀x,x∈op.operands->Rd w imm μ p6 (ev x) (ρ x)) ->
   ∃u,(execOp ev o).run P w = .ok (.value u) w/\Rd w imm μ p6 u d):G4 P σ ρ dst op d .none
 | move (x):G4 P σ ρ dst (.move x) (ρ x) .none
 | assign (x):G4 P σ ρ dst (.assign x) (ρ x) .none
 | pick (c a b t) (h:ρ c = .bool t):G4 P σ ρ dst (.pick c a b) (if t then ρ a else ρ b) .none
 | box (T x l) (hd:dst=some l) (hx:(ρ x).el=true):G4 P σ ρ dst (.box T x) (.ptr l 0 0) (.new l ⟨[ρ x],0,false,(ρ x).cells.length,(ρ x).lM⟩)
 | alloc (T l v) (hd:dst=some l) (hz:A6 P T=some v) (hx:(PV.fH v).el=true) :
   G4 P σ ρ dst (.alloc T) (.ptr l 0 0) (.new l ⟨[PV.fH v],0,false,(PV.fH v).cells.length,true⟩)
 | pQ (T x l i f r y n) (hx:ρ x = .ptr l i f) (hl:σ l=some r) (hy:r.els[i]? = some y) (ha:K5 P T=some true) (hs:u5 P T=some n) (hf:f+n<=y.cells.length) :
   G4 P σ ρ dst (.load T x) (.agg ((y.cells.drop f).take n)) .none
 | pR (T x l i f r y d) (hx:ρ x = .ptr l i f) (hl:σ l=some r) (hy:r.els[i]? = some y) (ha:K5 P T=some false) (hf:y.cells[f]? = some d) :
   G4 P σ ρ dst (.load T x) d .none
 | jN (T x cs n) (hx:ρ x = .rptr cs) (ha:K5 P T=some true) (hs:u5 P T=some n) (hf:n<=cs.length) :
   G4 P σ ρ dst (.load T x) (.agg (cs.take n)) .none
 | jO (T x cs d) (hx:ρ x = .rptr cs) (ha:K5 P T=some false) (hf:cs[0]? = some d) :
   G4 P σ ρ dst (.load T x) d .none
 | store (T x y l i f d) (hx:ρ x = .ptr l i f) (hd:ρ y=d\/(ρ y).w1=d) (hy:d.el=true) (hs:u5 P T=some d.cells.length) (hpos:0<d.cells.length) :
   G4 P σ ρ dst (.store T x y) (.tup []) (.sto l i f d.cells)
 | nilCheckP (x l i f) (hx:ρ x = .ptr l i f):G4 P σ ρ dst (.nilCheck x) (ρ x) .none
 | nilCheckR (x cs) (hx:ρ x = .rptr cs):G4 P σ ρ dst (.nilCheck x) (ρ x) .none
 | not (t x b) (hx:ρ x = .bool b):G4 P σ ρ dst (.unOp .not t x) (.bool (!b)) .none
 | neg (t x k n) (hx:ρ x = .int k n):G4 P σ ρ dst (.unOp .neg t x) (.int k (k.wrap (0-n))) .none
 | ari (op t u x y k a b r) (hx:ρ x = .int k a) (hy:ρ y = .int k b) (hr:Qr k op a b=some r):G4 P σ ρ dst (.binOp op t x y u) (.int k r) .none
 | cmp (op t u x y k a b r) (hx:ρ x = .int k a) (hy:ρ y = .int k b) (hr:QI op a b=some r):G4 P σ ρ dst (.binOp op t x y u) (.bool r) .none
 | eqB (t u x y a b) (hx:ρ x = .bool a) (hy:ρ y = .bool b) (ht:P.underlying t=some .bool):G4 P σ ρ dst (.binOp .eql t x y u) (.bool (a==b)) .none
 | neB (t u x y a b) (hx:ρ x = .bool a) (hy:ρ y = .bool b) (ht:P.underlying t=some .bool):G4 P σ ρ dst (.binOp .neq t x y u) (.bool (a != b)) .none
 | eqS (t u x y a b) (hx:ρ x = .str a) (hy:ρ y = .str b):G4 P σ ρ dst (.binOp .eql t x y u) (.bool (a.toList==b.toList)) .none
 | neS (t u x y a b) (hx:ρ x = .str a) (hy:ρ y = .str b):G4 P σ ρ dst (.binOp .neq t x y u) (.bool (!(a.toList==b.toList))) .none
 | conv (s t x k k' n) (hx:ρ x = .int k' n) (hs:(P.underlying s).isSome=true) (ht:a0a P t=some k):G4 P σ ρ dst (.convert s t x) (.int k (k.wrap n)) .none
 | fieldAddrP (T x f l i q off ft) (hx:ρ x = .ptr l i q) (ho:L4 P T f=some (off,ft)):G4 P σ ρ dst (.fieldAddr T x f) (.ptr l i (q+off)) .none
 | fieldAddrR (T x f cs off ft) (hx:ρ x = .rptr cs) (ho:L4 P T f=some (off,ft)):G4 P σ ρ dst (.fieldAddr T x f) (.rptr (cs.drop off)) .none
 | fieldA (T x f cs off ft n) (hx:ρ x = .agg cs) (ho:L4 P T f=some (off,ft)) (ha:K5 P ft=some true) (hs:u5 P ft=some n) (hn:off+n<=cs.length) :
   G4 P σ ρ dst (.field T x f) (.agg ((cs.drop off).take n)) .none
 | fieldS (T x f cs off ft d) (hx:ρ x = .agg cs) (ho:L4 P T f=some (off,ft)) (ha:K5 P ft=some false) (hd:cs[off]? = some d) :
   G4 P σ ρ dst (.field T x f) d .none
 | idxL (T x y t xs k n e E) (hx:ρ x = .lst t xs) (hy:ρ y = .int k n) (h0:0<=n) (he:xs[n.toNat]? = some e) (hE:B7 P T=some E) (hz:u5 P E=some e.cells.length) :
   G4 P σ ρ dst (.indexAddr T x y) (.rptr e.cells) .none
 | idxR (T x y l r k n E) (hx:ρ x = .sl l) (hl:σ l=some r) (hy:ρ y = .int k n) (h0:0<=n) (hn:n.toNat<r.els.length) (hE:B7 P T=some E) (hz:u5 P E=some r.z) :
   G4 P σ ρ dst (.indexAddr T x y) (.ptr l n.toNat 0) .none
 | idxA (T x y l i f k n) (len:Nat) (E z) (hx:ρ x = .ptr l i f) (hy:ρ y = .int k n) (h0:0<=n) (hn:n<(len:Int)) (hE:Tp P T=some (len,E)) (hz:u5 P E=some z) :
   G4 P σ ρ dst (.indexAddr T x y) (.ptr l i (f+n.toNat*z)) .none
 | idxRA (T x y cs k n) (len:Nat) (E z) (hx:ρ x = .rptr cs) (hy:ρ y = .int k n) (h0:0<=n) (hn:n<(len:Int)) (hE:Tp P T=some (len,E)) (hz:u5 P E=some z) :
   G4 P σ ρ dst (.indexAddr T x y) (.rptr (cs.drop (n.toNat*z))) .none
 | extract (x i ds d) (hx:ρ x = .tup ds) (hd:ds[i]? = some d):G4 P σ ρ dst (.extract x i) d .none
 | build (T parts pl z zs cs) (gY:D4 P T=some pl) (hz:A6 P T=some z) (hzs:PV.fH z = .agg zs) (hsc:cs.all PV.sc=true) (hf:pM pl zs (parts.toList.map λp=>(p.1,(ρ p.2).w1))=some cs) :
   G4 P σ ρ dst (.build T parts) (.agg cs) .none
 | mkFunc (fn cap):G4 P σ ρ dst (.makeFunc fn #[] cap) (.fn fn (cap.toList.map ρ)) .none
 | mkSlice (T x y l k k' n E z v) (hd:dst=some l) (hx:ρ x = .int k n) (hy:ρ y = .int k' n) (h0:0<=n) (hE:B7 P T=some E) (hz:u5 P E=some z) (hv:A6 P E=some v)
   (hel:((PV.fH v).w1).el=true) (hvz:((PV.fH v).w1).cells.length=z) (b:Nat) (hb:J7 P E=some b) (hbm:b*n<=281474976710656) (hn:n<=9223372036854775807) :
   G4 P σ ρ dst (.makeSlice T x y) (.sl l) (.new l ⟨List.replicate n.toNat ((PV.fH v).w1),0,true,z,true⟩)
 | lenL (x t xs T) (hx:ρ x = .lst t xs) (hT:(B7 P T).isSome=true) (ts) (hts:ts[0]? = some T) :
   G4 P σ ρ dst (.call { callee:=.builtin .len,args:=#[x],argTypes:=ts }) (.int .i64 xs.length) .none
 | lenR (x l r T) (hx:ρ x = .sl l) (hl:σ l=some r) (hT:(B7 P T).isSome=true) (ts) (hts:ts[0]? = some T) :
   G4 P σ ρ dst (.call { callee:=.builtin .len,args:=#[x],argTypes:=ts }) (.int .i64 r.els.length) .none
 | lenS (x s T) (hx:ρ x = .str s) (hT:P.underlying T=some .string) (ts) (hts:ts[0]? = some T) :
   G4 P σ ρ dst (.call { callee:=.builtin .len,args:=#[x],argTypes:=ts }) (.int .i64 s.size) .none
 | min2 (x y k a b ts) (hx:ρ x = .int k a) (hy:ρ y = .int k b):G4 P σ ρ dst (.call { callee:=.builtin .min,args:=#[x,y],argTypes:=ts }) (.int k (if b<a then b else a)) .none
 | max2 (x y k a b ts) (hx:ρ x = .int k a) (hy:ρ y = .int k b):G4 P σ ρ dst (.call { callee:=.builtin .max,args:=#[x,y],argTypes:=ts }) (.int k (if b > a then b else a)) .none
 | call (f args ts cap d) (x) (hf:ρ x = .fn (.func f) cap) (hb:∃fn c,P.funcs[f]? = some fn/\fn.body=some c/\fn.name ≠ "runtime.NumGoroutine")
   (hok:(args.toList.map ρ++cap).all (PV.pY σ)=true) (h:cd P f ((args.toList.map ρ++cap).map (PV.vw σ)) d) (hfl:d.flat=true) :
   G4 P σ ρ dst (.call { callee:=.value x,args,argTypes:=ts }) d .none
 | callF (f args ts cap d) (x) (hf:ρ x = .fn (.func f) cap) (hb:∃fn c,P.funcs[f]? = some fn/\fn.body=some c/\fn.name ≠ "runtime.NumGoroutine")
   (hok:(args.toList.map ρ++cap).all (PV.pY σ)=true) (h:cd P f ((args.toList.map ρ++cap).map (PV.vw σ)) d) :
   G4 P σ ρ dst (.call { callee:=.value x,args,argTypes:=ts }) d (.oe ((args.toList.map ρ++cap).flatMap (PV.T9 σ)))
 | callN (f args ts cap l r) (x) (hd:dst=some l) (hf:ρ x = .fn (.func f) cap) (hb:∃fn c,P.funcs[f]? = some fn/\fn.body=some c/\fn.name ≠ "runtime.NumGoroutine")
   (hok:(args.toList.map ρ++cap).all (PV.pY σ)=true) (h:og P f ((args.toList.map ρ++cap).map (PV.vw σ)) r) (hcl:r.cl=true) :
   G4 P σ ρ dst (.call { callee:=.value x,args,argTypes:=ts }) (.sl l) (.frzN ((args.toList.map ρ++cap).flatMap (PV.T9 σ)) l r)
 | appT (x y T E xs ys cl z by_ l zv) (hd:dst=some l) (hx:ρ x = .lst true xs) (hy:Src σ (ρ y) ys cl) (hE:B7 P T=some E) (hz:u5 P E=some z) (hb:J7 P E=some by_) (hzv:A6 P E=some zv)
   (hzz:zv.cells.size=z) (hel:∀e∈xs++ys,e.cells.length=z) (hfit:(xs.length+ys.length)*by_<=140737488355328) (h63:xs.length+ys.length<=9223372036854775807) :
   G4 P σ ρ dst (.call { callee:=.builtin .append,args:=#[x,y],argTypes:=#[T,T] }) (.sl l) (.new l ⟨xs++ys,xs.length,true,z,cl⟩)
 | appR (x y T E s r ys cl z by_ l zv) (hd:dst=some l) (hx:ρ x = .sl s) (hs:σ s=some r) (hy:Src σ (ρ y) ys cl) (hE:B7 P T=some E) (hz:u5 P E=some z) (hb:J7 P E=some by_) (hzv:A6 P E=some zv)
   (hzz:zv.cells.size=z) (hel:∀e∈r.els++ys,e.cells.length=z) (hrz:r.z=z) (hfit:(r.els.length+ys.length)*by_<=140737488355328) (h63:r.els.length+ys.length<=9223372036854775807) :
   G4 P σ ρ dst (.call { callee:=.builtin .append,args:=#[x,y],argTypes:=#[T,T] }) (.sl l) (.app s l ⟨r.els++ys,r.els.length,true,z,r.cl&&cl⟩)
 | buildSlice (T E parts len z l zv els cl) (hd:dst=some l) (hE:B7 P T=some E) (hz:u5 P E=some z) (hzv:A6 P E=some zv) (hlen:els.length=len) (hel:∀x∈els,x.el=true/\x.cells.length=z)
   (hbig:len*z<=2 ^ 24) (hf:pM (λi=>some (i*z,z)) (List.replicate (len*z) .junk) (parts.toList.map λp=>(p.1,(ρ p.2).w1))=some (els.flatMap PV.cells))
   (hcl:cl=true->els.all (λx=>x.cells.all PV.Z1)=true):G4 P σ ρ dst (.buildSlice T len parts) (.sl l) (.new l ⟨els,0,true,z,cl⟩)
 | buildI (T E parts len z zv els) (hE:B7 P T=some E) (hz:u5 P E=some z) (hzv:A6 P E=some zv) (hlen:els.length=len) (hel:∀x∈els,x.el=true/\x.cells.length=z)
   (hbig:len*z<=2 ^ 24) (hf:pM (λi=>some (i*z,z)) (List.replicate (len*z) .junk) (parts.toList.map λp=>(p.1,(ρ p.2).w1))=some (els.flatMap PV.cells))
   (hcl:els.all (λx=>x.cells.all PV.Z1)=true):G4 P σ ρ dst (.buildSlice T len parts) (.lst true els) .none
 | nilSlice (T E parts l z) (hd:dst=some l) (hE:B7 P T=some E) (hz:u5 P E=some z) (hp:parts = #[]):G4 P σ ρ dst (.buildSlice T 0 parts) (.lst true []) .none
 | sliceL (T E z x lo hi mx t xs i j k) (hx:ρ x = .lst t xs) (hE:B7 P T=some E) (hz:u5 P E=some z) (hel:∀e∈xs,e.cells.length=z) (hlo:uH ρ lo 0 i) (hhi:uH ρ hi xs.length j) (hmx:uH ρ mx xs.length k)
   (hmh:mx.isSome=true->hi.isSome=true) (hij:i<=j) (hjk:j<=k) (hk:k<=xs.length) :
   G4 P σ ρ dst (.slice T x lo hi mx) (.lst (if mx.isSome then decide (j=k) else t&&decide (j=xs.length)) ((xs.take j).drop i)) .none
 | sliceR (T E z x lo s r i l) (hd:dst=some l) (hx:ρ x = .sl s) (hs:σ s=some r) (hE:B7 P T=some E) (hz:u5 P E=some z) (hrz:r.z=z) (hlo:uH ρ lo 0 i) (hi:i<=r.els.length) :
   G4 P σ ρ dst (.slice T x lo none none) (.sl l) (.app s l ⟨r.els.drop i,r.els.length-i,true,z,r.cl⟩)
 | sliceF (T E z x lo hi s r i j) (hx:ρ x = .sl s) (hs:σ s=some r) (hcl:r.cl=true) (hE:B7 P T=some E) (hz:u5 P E=some z) (hrz:r.z=z) (hlo:uH ρ lo 0 i) (hhi:uH ρ hi r.els.length j) (hij:i<=j) (hj:j<=r.els.length) :
   G4 P σ ρ dst (.slice T x lo hi none) (.lst false ((r.els.take j).drop i)) (.oe [s])
 | copy (x y T U E l r ys z) (hx:ρ x = .sl l) (hl:σ l=some r) (hcl:r.cl=true) (hy:Src σ (ρ y) ys true) (hE:B7 P T=some E) (hz:u5 P E=some z) (hrz:r.z=z) (hel:∀e∈ys,e.cells.length=z) (hn:ys.length<=r.els.length) (hzp:0<z) :
   G4 P σ ρ dst (.call { callee:=.builtin .copy,args:=#[x,y],argTypes:=#[T,U] }) (.int .i64 ys.length) (.AE l ys)
end Go.Pw
namespace Go.Pw
open Go.RowKit
def FX(ρ:Option Nat):Fence:={ fn:=λ_=>True,depth:=none,alive:=false,round:=ρ }
section
variable{X:Ctx}{g:Gh}{st:St}{a:Act}{w:World}{o:Oper}{n:Nat}{K:Act->World->Prop}{Q:Exit->Act->World->Prop}{ρ:Option Nat}{P:Program}
theorem I0{v:Value}{w':World}(hd:∀c,o.op ≠ .defer c)(h:(execOp a.eval o).run P w = .ok (.value v) w')(hk:K (a.put o.dst v) w') :
  o.wpIn (FX ρ) n P a w K Q:=by
 refine⟨λ_ _=>trivial,?_⟩;rw[Oper.semAt_eq _ _ _ hd,h];exact hk
theorem xR{w':World}(hd:∀c,o.op ≠ .defer c)(h:(execOp a.eval o).run P w = .ok .skip w')(hk:K (a.put o.dst undef) w') :
  o.wpIn (FX ρ) n P a w K Q:=by
 refine⟨λ_ _=>trivial,?_⟩;rw[Oper.semAt_eq _ _ _ hd,h];exact hk
theorem iP{f:FuncId}{args:Array Value}{w':World}(hd:∀c,o.op ≠ .defer c)(h:(execOp a.eval o).run P w = .ok (.enter f args) w')
  (hc:Calls P f args w' λe w''=>∃v,e = .returned v/\K (a.put o.dst v) w''):o.wpIn (FX ρ) n P a w K Q:=by
 refine⟨λ_ _=>trivial,?_⟩;rw[Oper.semAt_eq _ _ _ hd,h];refine⟨λq=>by simp[FX] at q,?_⟩;have j:CallsIn Fence.wide (n-1) P f args w' λe w''=>∃v,e = .returned v/\K (a.put o.dst v) w'':=callsIn_wide.2 hc;have p:CallsIn (FX ρ) (n-1) P f args w' λe w''=>∃v,e = .returned v/\K (a.put o.dst v) w'':=j;refine p.mono λe w'' hr=>?_;obtain⟨v,rfl,hk⟩:=hr;exact hk
theorem N8{s:Sem Value}{v:Value}{w':World}(h:s.run P w = .ok v w'):(do pure (.value (<-s)):Sem Next).run P w = .ok (.value v) w':=by
 simp only[zy,h,zm];rfl
theorem Nz{s:Sem Unit}{w':World}(h:s.run P w = .ok () w'):(do s;pure .skip:Sem Next).run P w = .ok .skip w':=by
 simp only[zy,h,zm];rfl
end
def I8(σ σF:Nat->Option Row):Prop:=∀l r,σ l=some r->∃r',σF l=some r'/\r'.els=r.els/\r'.z=r.z/\r'.cl=r.cl
theorem I8.refl(σ:Nat->Option Row):I8 σ σ:=λ_ r h=>⟨r,h,rfl,rfl,rfl⟩
section
variable{X:Ctx}{g:Gh}{st:St}{a:Act}{w:World}
variable {r:Row}{i:Nat}{y:PV}{cs:List PV}{f n:Nat}{T:TypeId}{v:Value}
theorem u7.lX(h:u7 X g st a w){l:Nat}(hl:st.σ l=some r){j:Nat}{x:PV}(hx:r.els[i]? = some x)(hy:x.cells[j]? = some y){b s:Nat}
  (hA:(g.μ l).A=some ⟨b,s,none⟩):∃u,w.cell? ⟨b,s+i*(g.μ l).z+j,none⟩=some u/\Rd w g.imm g.μ st.p6 u y/\(r.cl=true->Rd0 w g.imm u y):=by
 obtain⟨C,s',u,c,e,p,F,q⟩:=(h.rows l r hl).cell i x j y hx hy;rw[hA] at c;cases c;exact⟨u,e,p,q⟩
theorem Ip(hy:y.el=true)(h:cs=(y.cells.drop f).take n):cs.all PV.sc=true:=by
 rw[zg];intro c hc;rw[h] at hc;exact PV.qE hy c (za7 (zad hc))
theorem u7.pQ(h:u7 X g st a w){l:Nat}(hv:Rd w g.imm g.μ st.p6 v (.ptr l i f))(hl:st.σ l=some r)(hy:r.els[i]? = some y)
  (ha:K5 X.P T=some true)(hs:u5 X.P T=some n)(hf:f+n<=y.cells.length) :
  ∃u,(Instr.loadAt T v).run X.P w = .ok u w/\Rd w g.imm g.μ st.p6 u (.agg ((y.cells.drop f).take n)):=by
 obtain⟨hp,b,s,hA,rfl⟩:=hv.cM;have hc:∀j,j<n->∃u,w.cell? ⟨b,s+i*(g.μ l).z+f+j,none⟩=some u/\∀q,((y.cells.drop f).take n)[j]? = some q->Rd w g.imm g.μ st.p6 u q:=by
  intro j hj;have A:f+j<y.cells.length:=Δ
  obtain⟨u,e,C,_⟩:=h.lX hl hy (zc A) hA;refine⟨u,by rw[t8 _ f j];exact e,λq F=>?_⟩;rw[zas hj,zao,zc A] at F;cases F;exact C
 have hu:∀j,j<n->w.cell? ⟨b,s+i*(g.μ l).z+f+j,none⟩=some ((w.cell? ⟨b,s+i*(g.μ l).z+f+j,none⟩).getD undef):=λj hj=>by
  obtain⟨u,e,_⟩:=hc j hj;rw[e];rfl
 refine⟨_,ff ha hs (λj=>(w.cell? ⟨b,s+i*(g.μ l).z+f+j,none⟩).getD undef) hu,?_⟩;refine .agg _ _ (Ip ((h.rows l r hl).el y (zk hy)).1 rfl) Ξ λj v c hv p=>?_;have hj:j<n:=by have:=C6 p;simp at this;omega
 obtain⟨u,e,C⟩:=hc j hj;have:v=u:=by
  clear hc hu;simp[hj] at hv;rw[<-hv,e];rfl
 rw[this];exact C c p
theorem u7.pR(h:u7 X g st a w){l:Nat}{d:PV}(hv:Rd w g.imm g.μ st.p6 v (.ptr l i f))(hl:st.σ l=some r)(hy:r.els[i]? = some y)
  (ha:K5 X.P T=some false)(hf:y.cells[f]? = some d) :
  ∃u,(Instr.loadAt T v).run X.P w = .ok u w/\Rd w g.imm g.μ st.p6 u d:=by
 obtain⟨hp,b,s,hA,rfl⟩:=hv.cM;obtain⟨u,c,e,_⟩:=h.lX hl hy hf hA;exact⟨u,fg ha c,e⟩
theorem u7.jN(h:u7 X g st a w)(hv:Rd w g.imm g.μ st.p6 v (.rptr cs))
  (ha:K5 X.P T=some true)(hs:u5 X.P T=some n)(hf:n<=cs.length) :
  ∃u,(Instr.loadAt T v).run X.P w = .ok u w/\Rd w g.imm g.μ st.p6 u (.agg (cs.take n)):=by
 obtain⟨b,o,u,rfl,hsc,hc⟩:=hv.gM;refine⟨_,ff ha hs u (λj hj=>(hc j cs[j] (zc Δ)).2.1),?_⟩;refine .agg _ _ ?_ Ξ λj v c hv e=>?_
 .rw[zg] at hsc |-;exact λc hc=>hsc c (zad hc)
 .have hj:j<n:=by have:=C6 e;simp at this;omega
  rw[zas hj] at e;simp[hj] at hv;rw[<-hv];exact .cl (hc j c e).2.2
theorem u7.jO(h:u7 X g st a w){d:PV}(hv:Rd w g.imm g.μ st.p6 v (.rptr cs))
  (ha:K5 X.P T=some false)(hf:cs[0]? = some d) :
  ∃u,(Instr.loadAt T v).run X.P w = .ok u w/\Rd w g.imm g.μ st.p6 u d:=by
 obtain⟨b,o,u,rfl,hsc,hc⟩:=hv.gM;obtain⟨_,c,e⟩:=hc 0 d hf;exact⟨u 0,fg ha (Ω c),.cl e⟩
theorem pz{x:PV}{f:Nat}{cs:List PV}(hx:x.el=true)(hf:f+cs.length<=x.cells.length)(hsc:cs.all PV.sc=true) :
  (K8 x f cs).cells=x.cells.take f++cs++x.cells.drop (f+cs.length)/\(K8 x f cs).el=true:=by
 rw[zg] at hsc;by_cases hd:x.sc=true
 .have hc:=PV.je hd;rw[hc] at hf |-;have e:K8 x f cs=JD x cs:=by cases x <;> first | rfl | (simp[PV.sc] at hd)
  rw[e];match cs,hf,hsc with
  | [],_,_=>
   refine⟨?_,hx⟩;simp[JD,hc]
  | [c],hf,hsc=>
   simp at hf;subst hf;have:=hsc c Ψ;refine⟨by simp[JD,PV.je this],?_⟩;simp only[JD];cases c <;> first | exact this | (simp[PV.sc] at this)
  | _::_::_,hf,_=>simp at hf;omega
 .cases x <;> first | (exact absurd rfl hd) | (exact absurd hx hd) | (simp only[PV.cells,zag,Nat.le_zero_eq,Nat.add_eq_zero_iff,List.length_eq_zero_iff] at hf;obtain⟨rfl,rfl⟩:=hf;exact⟨rfl,rfl⟩) | skip
  rename_i es;simp only[PV.el,zg] at hx;refine⟨rfl,?_⟩;simp only[K8,PV.el,zg,zH];rintro c ((q | q) | q);·exact hx c (zad q)
  .exact hsc c q
  .exact hx c (za7 q)
theorem u7.store(h:u7 X g st a w){l:Nat}{u:Value}{d:PV}(hv:Rd w g.imm g.μ st.p6 v (.ptr l i f))(hu:Rd w g.imm g.μ st.p6 u d)(hd:d.el=true)
  (hs:u5 X.P T=some d.cells.length)(hpos:0<d.cells.length)(hok:(aj.sto l i f d.cells).ok st.σ) :
  ∃w',(Instr.storeAt T v u).run X.P w = .ok () w'/\u7 X g ⟨st.env,(aj.sto l i f d.cells).apply st.σ⟩ a w':=by
 obtain⟨hp,b,s,hA,rfl⟩:=hv.cM;obtain⟨q,x,hl,hx,hlo,hf,hsc⟩:=hok;have A:=h.rows l q hl;obtain⟨c,R⟩:=hu.cells hd;have hxz:x.cells.length=(g.μ l).z:=by rw[A.z];exact (A.el x (zk hx)).2
 have hmine:∀j,j<u.cells.toList.length->M1 (g.μ l) q b (s+i*(g.μ l).z+f+j):=λj hj=>by
  have F:f+j<x.cells.length:=by simp only[Array.length_toList,c] at hj;omega
  have:=A.VJ hx (zc F) hA Δ;rwa [<-t8] at this
 have S:∀z∈u.cells.toList,one z=true:=λz hz=>by
  obtain⟨j,hj⟩:=zb7 hz;have F:j<d.cells.length:=by have:=C6 hj;simp only[Array.length_toList,c] at this;exact this
  exact (R j z _ (Ω hj) (zc F)).one (zg.1 hsc _ (zl F))
 refine⟨_,Hr hs c (λj hj=>(A.own b _ (hmine j (by simpa[c] using hj))).2) S,?_⟩;have he:(aj.sto l i f d.cells).apply st.σ=A3 st.σ l (some { q with els:=q.els.set i (K8 x f d.cells),cl:=q.cl&&d.cells.all PV.Z1 }):=by
  simp only[aj.apply,hl,hx]
 rw[he];obtain⟨N,hc2⟩:=pz ((A.el x (zk hx)).1) hf hsc;have hlen:(K8 x f d.cells).cells.length=x.cells.length:=by rw[N];simp;omega
 refine h.write hl hmine Ψ (λe he=>?_) (λH x' j y C hy=>?_) (by simpa[c] using hpos)
 .rcases zay he with p | rfl
  .exact A.el e p
  .exact⟨hc2,by rw[hlen];exact (A.el x (zk hx)).2⟩
 .by_cases e:H=i
  .subst e;have hi:=C6 hx;rw[List.getElem?_set_self hi] at C;cases C;rw[N] at hy;have hj:=C6 hy;simp at hj;by_cases q1:f<=j/\j<f+d.cells.length
   .have hw:=zaw b u.cells.toList (s+H*(g.μ l).z+f) w (λj hj=>(A.own b _ (hmine j hj)).2.1) (j-f) (by simp[c];omega);rw[show s+H*(g.μ l).z+f+(j-f)=s+H*(g.μ l).z+j by omega] at hw;have G:d.cells[j-f]? = some y:=by
     rw[zac,zW Ξ,zX Ξ] at hy;simpa[wn,zcl (show f<=x.cells.length by omega)] using hy
    have hr:=R (j-f) _ y (by rw[<-Array.getElem?_toList];exact zc (by simp[c];omega)) G;refine⟨b,s,_,hA,hw,hr,λp=>Δ,λp=>?_⟩;simp only[zB] at p;exact hr.Z1 (zg.1 p.2 y (zk G))
   .have G:x.cells[j]? = some y:=by
     rcases zI j f with V | V
     .rw[zac,zX Ξ,zas V] at hy;exact hy
     .rw[zW Ξ] at hy;simp only[zA,wn,zao,zcl (show f<=x.cells.length by omega)] at hy;rwa [show f+d.cells.length+(j-(f+d.cells.length))=j by omega] at hy
    obtain⟨u',k1,k2,k3⟩:=h.lX hl hx G hA;refine⟨b,s,u',hA,?_,k2,λp=>Δ,λp=>?_⟩
    .rw[zam b _ _ w _ λ_ _=>by simp[c];omega];exact k1
    .simp only[zB] at p;exact k3 p.1
  .rw[List.getElem?_set_ne (zaz e)] at C;obtain⟨b',s',u',k1,k2,k3,k4,k5⟩:=A.cell H x' j y C hy;rw[hA] at k1;cases k1;refine⟨b,s,u',hA,?_,k3,k4,λp=>?_⟩
   .rw[zam b _ _ w _ λ_ _=>?_];·exact k2
    .simp only[Array.length_toList,c];have hj:=PV.G5 hy;have hz':x'.cells.length=(g.μ l).z:=by rw[A.z];exact (A.el x' (zk C)).2
     rcases Nat.lt_or_gt_of_ne e with V | V
     .left;have:(H+1)*(g.μ l).z<=i*(g.μ l).z:=zp _ Δ;rw[wt,zbc] at this;omega
     .right;have:(i+1)*(g.μ l).z<=H*(g.μ l).z:=zp _ Δ;rw[wt,zbc] at this;omega
   .simp only[zB] at p;exact k5 p.1
end
end Go.Pw
namespace Go.Pw
open Go.RowKit
section
variable{X:Ctx}{g:Gh}{st:St}{a:Act}{w:World}{n:Nat}{K:Act->World->Prop}{Q:Exit->Act->World->Prop}{ρ:Option Nat}
theorem I8.at{σ σF:Nat->Option Row}(hs:I8 σ σF){l:Nat}{r:Row}(hp:∃c,σ l=some c)(hl:σF l=some r) :
  ∃c,σ l=some c/\c.els=r.els/\c.z=r.z/\c.cl=r.cl:=by
 obtain⟨c,h0⟩:=hp;obtain⟨r',e,j,p,q⟩:=hs l c h0;rw[hl] at e;cases e;exact⟨c,h0,j.symm,p.symm,q.symm⟩
theorem fZ{o:Oper}{d:PV}(h:u7 X g st a w)(hnd:∀c,o.op ≠ .defer c)(e:∀t,o.dst=some t->t<X.N)
  (hv:∃u,(execOp a.eval o).run X.P w = .ok (.value u) w/\Rd w g.imm g.μ st.p6 u d)
  (q:∀p j w',u7 X p ⟨Z7 st.env o.dst d,aj.none.apply st.σ⟩ j w'->K j w'):o.wpIn (FX ρ) n X.P a w K Q:=by
 obtain⟨u,hr,hu⟩:=hv;exact I0 hnd hr (q g _ w (h.put e hu))
theorem ry{P:Program}{T off:Nat}{f:Nat}{ft:TypeId}{b o:Nat}(ho:L4 P T f=some (off,ft)) :
  (Instr.fieldAt T (.pointer (some ⟨b,o,none⟩)) f).run P w = .ok (.pointer (some ⟨b,o+off,none⟩)) w:=by
 unfold L4 at ho;cases hu:P.underlying T with
 | none=>rw[hu] at ho;cases ho
 | some D=>
  rw[hu] at ho;cases D <;> first | (simp at ho;done) | skip
  rename_i fs;simp only at ho;cases hf:fs[f]? with
  | none=>rw[hf] at ho;cases ho
  | some fd=>
   rw[hf] at ho;simp only at ho;cases c:u5 P fd.type with
   | none=>rw[c] at ho;cases ho
   | some m=>
    rw[c] at ho;cases m with
    | zero=>cases ho
    | succ m=>
     simp only[wd,Prod.mk.injEq] at ho;obtain⟨rfl,rfl⟩:=ho;simp only[Instr.fieldAt,zy,zR hu,zm,hf,Instr.sureAddr,fieldPlace,J0 c];simp[T2]
variable {P:Program}{T:TypeId}{k:IntKind}{t:TypeId}{op:BinOp}
theorem Te{ft:TypeId}{cs:Array Value}{off n:Nat}(ha:K5 P ft=some true)(hs:u5 P ft=some n) :
  (part ft cs off).run P w = .ok (.agg (cs.extract off (off+n))) w:=by
 simp only[part,zy,pw ha,zm,ut,J0 hs];rfl
theorem sA{ft:TypeId}{cs:Array Value}{off:Nat}{v:Value}(ha:K5 P ft=some false)(hv:cs[off]? = some v) :
  (part ft cs off).run P w = .ok v w:=by
 simp only[part,zy,pw ha,zm,zM,pu,hv];rfl
theorem Iy{P:Program}{T off:Nat}{f:Nat}{ft:TypeId}(ho:L4 P T f=some (off,ft)) :
  ∃fs fd,P.underlying T=some (.struct fs)/\fs[f]? = some fd/\fd.offset=off/\fd.type=ft:=by
 unfold L4 at ho;cases hu:P.underlying T with
 | none=>rw[hu] at ho;cases ho
 | some D=>
  rw[hu] at ho;cases D <;> first | (simp at ho;done) | skip
  rename_i fs;simp only at ho;cases hf:fs[f]? with
  | none=>rw[hf] at ho;cases ho
  | some fd=>
   rw[hf] at ho;simp only at ho;cases c:u5 P fd.type with
   | none=>rw[c] at ho;cases ho
   | some m=>
    rw[c] at ho;cases m with
    | zero=>cases ho
    | succ m=>
     simp only[wd,Prod.mk.injEq] at ho;exact⟨fs,fd,rfl,hf,ho.1,ho.2⟩
theorem P5{E:TypeId}(h:B7 P T=some E):P.underlying T=some (.slice E):=by
 unfold B7 at h;split at h <;> first | (cases h;assumption) | cases h
theorem Tq{E:TypeId}{m:Nat}(h:Tp P T=some (m,E)):P.underlying T=some (.array m E):=by
 unfold Tp at h;split at h <;> first | (cases h;assumption) | cases h
theorem Tr(h:a0a P T=some k):P.underlying T=some (.int k):=by
 unfold a0a at h;split at h <;> first | (cases h;assumption) | cases h
theorem Wv{x y r:Int}(h:Qr k op x y=some r):(binOp op t (.int k x) (.int k y)).run P w = .ok (.int k r) w:=by
 cases op <;> simp only[Qr] at h <;> first | (cases h;done) | skip
 case add=>cases h;simp[binOp,Op.intArith]
 case sub=>cases h;simp[binOp,Op.intArith]
 case mul=>cases h;simp[binOp,Op.intArith]
 case quo=>
  split at h;·cases h
  .rename_i hy;cases h;simp[binOp,Op.intDiv,hy]
 case rem=>
  split at h;·cases h
  .rename_i hy;cases h;simp[binOp,Op.intDiv,hy]
theorem Ww{x y:Int}{r:Bool}(h:QI op x y=some r):(binOp op t (.int k x) (.int k y)).run P w = .ok (.bool r) w:=by
 cases op <;> simp only[QI] at h <;> first | (cases h;done) | skip
 all_goals (cases h;simp[binOp,Op.intCmp])
theorem EZ{P:Program}{op:BinOp}{t:TypeId}{x y:Operand}{v u:Value}(h:(∀cs,v ≠ .agg cs)/\v ≠ .nilIface):(eqGuard op t x y v u).run P w = .ok () w:=by
 unfold eqGuard;cases v <;> first | (exact absurd rfl (h.1 _)) | (exact absurd rfl h.2) | (cases op <;> rfl)
theorem sz{x y:Operand}{v u r:Value}(h:(∀cs,v ≠ .agg cs)/\v ≠ .nilIface)(hb:(binOp op t v u).run P w = .ok r w) :
  (do pure (.value (<-(do eqGuard op t x y v u;binOp op t v u:Sem Value))):Sem Next).run P w = .ok (.value r) w:=
 N8 (by simp only[zy,EZ h,zm,hb])
theorem rv{p q:Bool}(ht:P.underlying t=some .bool):(Op.equal t (.bool p) (.bool q)).run P w = .ok (p==q) w:=by
 have e:Op.maxDepth=9999+1:=rfl;unfold Op.equal;rw[e];generalize 9999=d;rw[Op.equalIn,zy,zR ht];rfl
end
end Go.Pw
namespace Go.Pw
open Go.RowKit
section
variable{X:Ctx}{g:Gh}{st:St}{a:Act}{w:World}
theorem Bx{α:Type}{l:List α}{k j:Nat}{y:α}(h:(l.drop k)[j]? = some y):l[k+j]? = some y:=by rwa [zao] at h
theorem Rd.EY{w:World}{imm:Nat->Nat->Prop}{b o k:Nat}{cs:List PV}{u:Nat->Value}(hsc:cs.all PV.sc=true)
  (hc:∀(j:Nat) y,cs[j]? = some y->imm b (o+j)/\w.cell? ⟨b,o+j,none⟩=some (u j)/\Rd0 w imm (u j) y) :
  Rd0 w imm (.pointer (some ⟨b,o+k,none⟩)) (.rptr (cs.drop k)):=by
 refine .rptr b (o+k) _ (λj=>u (k+j)) ?_ (λj y hy=>?_) (λj y hy=>(hc _ y (Bx hy)).2.2)
 .rw[zg] at hsc |-;exact λc hc=>hsc c (za7 hc)
 .have:=hc _ y (Bx hy);rw[t8];exact⟨this.1,this.2.1⟩
theorem rz{P:Program}{T E:TypeId}{z b s len c:Nat}{k:IntKind}{m:Int}(hE:B7 P T=some E)(hz:u5 P E=some z)(h0:0<=m)(hm:m<len) :
  (Instr.indexAt T (.slice (some ⟨b,s,none⟩) len c) (.int k m)).run P w = .ok (.pointer (some ⟨b,s+m.toNat*z,none⟩)) w:=by
 have hu:=P5 hE;simp only[Instr.indexAt,asIntOf,zy,zau,zm,zR hu];rw[zb ⟨h0,hm⟩];simp only[zy,J0 hz,zm,T2];rfl
theorem pW{P:Program}{T E:TypeId}{z b s len:Nat}{k:IntKind}{m:Int}(hE:Tp P T=some (len,E))(hz:u5 P E=some z)(h0:0<=m)(hm:m<len) :
  (Instr.indexAt T (.pointer (some ⟨b,s,none⟩)) (.int k m)).run P w = .ok (.pointer (some ⟨b,s+m.toNat*z,none⟩)) w:=by
 have hu:=Tq hE;simp only[Instr.indexAt,asIntOf,zy,zau,zm,zR hu,Instr.sureAddr];rw[zb ⟨h0,hm⟩];simp only[zy,J0 hz,zm,T2];rfl
set_option maxHeartbeats 2000000 in
theorem VY {o:Oper} {σF:Nat->Option Row} {d:PV} {e:aj} (h:u7 X g st a w) (hop:G4 X.P σF (B8 st.env) o.dst o.op d e) (hs:I8 st.σ σF)
  (hlook:match o.op with | .move _ | .assign _ | .pick .. | .load .. | .nilCheck _ | .unOp .. | .binOp .. | .convert .. | .fieldAddr .. | .field .. | .indexAddr .. | .extract .. | .makeFunc .. => True | _=>False) :
  e = .none/\∃u,(execOp a.eval o).run X.P w = .ok (.value u) w/\Rd w g.imm g.μ st.p6 u d:=by
 obtain⟨dst,op,ty,pos,after,guard⟩:=o;simp only at hop hlook;cases hop <;> first | (exact hlook.elim) | refine⟨rfl,?_⟩
 case pureV hnd hnl hc=>exact hc _ w g.imm g.μ st.p6 a.eval rfl λx _=>h.eval x
 case move x=>exact⟨_,rfl,h.eval x⟩
 case assign x=>exact⟨_,rfl,h.eval x⟩
 case pick c p q t hc=>
  have hv:=h.eval c;rw[hc] at hv;have hb:=hv.eD;refine⟨if t then a.eval p else a.eval q,?_,?_⟩
  .simp only[execOp,hb];cases t <;> rfl
  .cases t;·exact h.eval q
   .exact h.eval p
 case pQ T x l i f r y m hx hl hy ha G hf=>
  have hv:=h.eval x;rw[hx] at hv;obtain⟨r0,H,h2,h3,h4⟩:=hs.at hv.cM.1 hl;obtain⟨u,hr,hu⟩:=h.pQ hv H ΩW ha G hf;exact⟨u,N8 hr,hu⟩
 case pR T x l i f r y hx hl hy ha hf=>
  have hv:=h.eval x;rw[hx] at hv;obtain⟨r0,H,h2,h3,h4⟩:=hs.at hv.cM.1 hl;obtain⟨u,hr,hu⟩:=h.pR hv H ΩW ha hf;exact⟨u,N8 hr,hu⟩
 case jN T x cs m hx ha G hf=>
  have hv:=h.eval x;rw[hx] at hv;obtain⟨u,hr,hu⟩:=h.jN hv ha G hf;exact⟨u,N8 hr,hu⟩
 case jO T x cs hx ha hf=>
  have hv:=h.eval x;rw[hx] at hv;obtain⟨u,hr,hu⟩:=h.jO hv ha hf;exact⟨u,N8 hr,hu⟩
 case nilCheckP x l i f hx=>
  have hv:=h.eval x;refine⟨_,?_,hv⟩;rw[hx] at hv;obtain⟨_,b,s,_,e⟩:=hv.cM;simp only[execOp,e];rfl
 case nilCheckR x cs hx=>
  have hv:=h.eval x;refine⟨_,?_,hv⟩;rw[hx] at hv;obtain⟨b,s,_,e,_⟩:=hv.gM;simp only[execOp,e];rfl
 case not t x b hx=>
  have hv:=h.eval x;rw[hx] at hv;refine⟨.bool (!b),?_,.cl (.bool _)⟩;simp only[execOp,hv.eD,Op.unary];rfl
 case neg t x k m hx=>
  have hv:=h.eval x;rw[hx] at hv;refine⟨.int k (k.wrap (0-m)),?_,.cl (.int _ _)⟩;simp only[execOp,hv.U3,Op.unary,Op.intArith];rfl
 case ari bop t t2 x y k p q r hx hy hr=>
  have hv:=h.eval x;have hu:=h.eval y;rw[hx] at hv;rw[hy] at hu;refine⟨.int k r,?_,.cl (.int _ _)⟩;simp only[execOp,hv.U3,hu.U3];exact sz ⟨λ_ q=>Γ,λq=>Γ⟩ (Wv hr)
 case cmp bop t t2 x y k p q r hx hy hr=>
  have hv:=h.eval x;have hu:=h.eval y;rw[hx] at hv;rw[hy] at hu;refine⟨.bool r,?_,.cl (.bool _)⟩;simp only[execOp,hv.U3,hu.U3];exact sz ⟨λ_ q=>Γ,λq=>Γ⟩ (Ww hr)
 case eqB t t2 x y p q hx hy ht=>
  have hv:=h.eval x;have hu:=h.eval y;rw[hx] at hv;rw[hy] at hu;refine⟨.bool (p==q),?_,.cl (.bool _)⟩;simp only[execOp,hv.eD,hu.eD];refine sz ⟨λ_ q=>Γ,λq=>Γ⟩ ?_;have e:(binOp .eql t (.bool p) (.bool q):Sem Value)=(do pure (.bool (<-Op.equal t (.bool p) (.bool q)))):=rfl;rw[e,zy,rv ht];rfl
 case neB t t2 x y p q hx hy ht=>
  have hv:=h.eval x;have hu:=h.eval y;rw[hx] at hv;rw[hy] at hu;refine⟨.bool (p != q),?_,.cl (.bool _)⟩;simp only[execOp,hv.eD,hu.eD];refine sz ⟨λ_ q=>Γ,λq=>Γ⟩ ?_;have e:(binOp .neq t (.bool p) (.bool q):Sem Value)=(do pure (.bool (!(<-Op.equal t (.bool p) (.bool q))))):=rfl;rw[e,zy,rv ht];rfl
 case eqS t t2 x y p q hx hy=>
  have hv:=h.eval x;have hu:=h.eval y;rw[hx] at hv;rw[hy] at hu;refine⟨.bool (p.toList==q.toList),?_,.cl (.bool _)⟩;simp only[execOp,hv.pF,hu.pF];exact sz ⟨λ_ q=>Γ,λq=>Γ⟩ (by simp[binOp,Op.stringOp])
 case neS t t2 x y p q hx hy=>
  have hv:=h.eval x;have hu:=h.eval y;rw[hx] at hv;rw[hy] at hu;refine⟨.bool (!(p.toList==q.toList)),?_,.cl (.bool _)⟩;simp only[execOp,hv.pF,hu.pF];exact sz ⟨λ_ q=>Γ,λq=>Γ⟩ (by simp[binOp,Op.stringOp])
 case conv s t x k k' m hx H h2=>
  have hv:=h.eval x;rw[hx] at hv;refine⟨.int k (k.wrap m),?_,.cl (.int _ _)⟩;simp only[execOp,hv.U3];refine N8 ?_;obtain⟨D,hD⟩:=zal.1 H;simp only[convert,zy,zR hD,zR (Tr h2),zm];simp[Conv.intToInt]
 case fieldAddrP T x f l i q off ft hx ho=>
  have hv:=h.eval x;rw[hx] at hv;obtain⟨hp,b,s,hA,e⟩:=hv.cM;refine⟨_,?_,.ptr l i (q+off) b s hp hA⟩;simp only[execOp,e];rw[N8 (ry ho)];rw[t8]
 case fieldAddrR T x f cs off ft hx ho=>
  have hv:=h.eval x;rw[hx] at hv;obtain⟨b,o,u,e,hsc,hc⟩:=hv.gM;refine⟨_,?_,.cl (Rd.EY (k:=off) hsc hc)⟩;simp only[execOp,e];exact N8 (ry ho)
 case fieldA T x f cs off ft m hx ho ha G hn=>
  have hv:=h.eval x;rw[hx] at hv;obtain⟨vs,e,hlen,hc⟩:=hv.iT;obtain⟨fs,fd,H,h2,rfl,rfl⟩:=Iy ho;refine⟨.agg (vs.extract fd.offset (fd.offset+m)),?_,?_⟩
  .simp only[execOp,e];refine N8 ?_;simp only[Instr.field,zy,zR H,zm,h2,asAgg,zau,Te ha G]
  .refine .agg _ _ ?_ Ξ λj v c N R=>?_
   .skip
    have hsc:cs.all PV.sc=true:=hv.Kq;rw[zg] at hsc |-;exact λc hc=>hsc c (za7 (zad hc))
   .have hj:j<m:=by have:=C6 R;simp at this;omega
    rw[zas hj,zao] at R;have:vs[fd.offset+j]? = some v:=by
     rw[Array.getElem?_extract] at N;split at N;·exact N
     .cases N
    exact hc _ v c this R
 case fieldS T x f cs off ft hx ho ha hd=>
  have hv:=h.eval x;rw[hx] at hv;obtain⟨vs,e,hlen,hc⟩:=hv.iT;obtain⟨fs,fd,H,h2,rfl,rfl⟩:=Iy ho;have F:fd.offset<vs.size:=by rw[hlen];exact C6 hd
  refine⟨vs[fd.offset],?_,hc _ _ d (zq F) hd⟩;simp only[execOp,e];refine N8 ?_;simp only[Instr.field,zy,zR H,zm,h2,asAgg,zau,sA ha (zq F)]
 case idxL T x y t xs k m e0 E hx hy h0 he hE hz=>
  have hv:=h.eval x;have hu:=h.eval y;rw[hx] at hv;rw[hy] at hu;obtain⟨A,c,z,u,e,H,h2,h3,h4,h5,h6⟩:=hv.gp;have F:=C6 he;obtain⟨b,s,rfl,h7⟩:=h5 Δ;have hz':=(h4 e0 (zk he)).2;rw[hz'] at hz;refine⟨.pointer (some ⟨b,s+m.toNat*z,none⟩),?_,.cl (.rptr b _ _ (λj=>u m.toNat j) ?_ (λj y S=>h7 m.toNat e0 j y he S) (λj y S=>h6 m.toNat e0 j y he S))⟩
  .simp only[execOp,e,hu.U3];exact N8 (rz hE hz h0 Δ)
  .rw[zg];exact PV.qE (h4 e0 (zk he)).1
 case idxR T x y l r k m E hx hl hy h0 hm hE hz=>
  have hv:=h.eval x;have hu:=h.eval y;rw[hx] at hv;rw[hy] at hu;obtain⟨hp,e⟩:=hv.fC;obtain⟨r0,k1,k2,k3,k4⟩:=hs.at hp hl;have V:=h.rows l r0 k1;obtain⟨b,s,hA⟩:=V.spot (by have:=V.C;have:=V.n;rw[k2] at this;omega);refine⟨_,?_,.ptr l m.toNat 0 b s hp hA⟩;simp only[execOp,e,hu.U3,hA];refine N8 ?_;rw[rz hE hz h0 (by rw[V.n,k2];omega),V.z,k3];rfl
 case idxA T x y l i f k m len E z hx hy h0 hm hE hz=>
  have hv:=h.eval x;have hu:=h.eval y;rw[hx] at hv;rw[hy] at hu;obtain⟨hp,b,s,hA,e⟩:=hv.cM;refine⟨_,?_,.ptr l i (f+m.toNat*z) b s hp hA⟩;simp only[execOp,e,hu.U3];refine N8 ?_;rw[pW hE hz h0 hm,t8]
 case idxRA T x y cs k m len E z hx hy h0 hm hE hz=>
  have hv:=h.eval x;have hu:=h.eval y;rw[hx] at hv;rw[hy] at hu;obtain⟨b,o,u,e,hsc,hc⟩:=hv.gM;refine⟨_,?_,.cl (Rd.EY (k:=m.toNat*z) hsc hc)⟩;simp only[execOp,e,hu.U3];exact N8 (pW hE hz h0 hm)
 case extract x i ds hx hd=>
  have hv:=h.eval x;rw[hx] at hv;obtain⟨vs,e,hlen,hc⟩:=hv.AV;have F:i<vs.size:=by rw[hlen];exact C6 hd
  refine⟨vs[i],?_,hc _ _ d (zq F) hd⟩;simp only[execOp,e];refine N8 ?_;simp only[Instr.extract,zq F];rfl
 case mkFunc fn cap=>
  refine⟨.func fn #[] (cap.map a.eval),by simp[execOp,Instr.makeFunc],.fn fn _ _ Ψ λi v c hv hc=>?_⟩;rw[zch] at hv;rw[zD,Array.getElem?_toList] at hc;cases hq:cap[i]? with
  | none=>rw[hq] at hv;cases hv
  | some x=>
   rw[hq] at hv hc;cases hv;cases hc;exact h.eval x
end
end Go.Pw
namespace Go.Pw
open Go.RowKit
section
variable{X:Ctx}{g:Gh}{st:St}{a:Act}{w:World}{n:Nat}{K:Act->World->Prop}{Q:Exit->Act->World->Prop}{ρ:Option Nat}
theorem Wh{w':World}{imm:Nat->Nat->Prop}{μ:Nat->O0}{p6:Nat->Prop}{l b n C z:Nat}(hp:p6 l)(c:μ l=⟨some ⟨b,0,none⟩,n,C,z⟩) :
  Rd w' imm μ p6 (.pointer (some ⟨b,0,none⟩)) (.ptr l 0 0):=by
 have:=Rd.ptr (w:=w') (imm:=imm) (μ:=μ) (p6:=p6) l 0 0 b 0 hp (by rw[c]);simpa using this
theorem gO{w':World}{imm:Nat->Nat->Prop}{μ:Nat->O0}{p6:Nat->Prop}{l:Nat}{m:O0}(hp:p6 l)(c:μ l=m) :
  Rd w' imm μ p6 (.slice m.A m.n m.C) (.sl l):=by
 have:=Rd.sl (w:=w') (imm:=imm) (μ:=μ) (p6:=p6) l hp;rwa [c] at this
theorem u7.var(h:u7 X g st a w){l:Nat}{v:Value}{d:PV}{T:TypeId}{dst:Option Tmp}(e:∀t,dst=some t->t<X.N)(p:l<MB)(hl:st.σ l=none)(hv:Rd w g.imm g.μ st.p6 v d)(hd:d.el=true){cl:Bool}(hcl:cl=true->d.lM=true) :
  ∃F,u7 X F ⟨Z7 st.env dst (.ptr l 0 0),A3 st.σ l (some ⟨[d],0,false,d.cells.length,cl⟩)⟩ (a.put dst (.pointer (some ⟨w.heap.size,0,none⟩))) (w.alloc (.cells v.cells T)):=by
 obtain⟨A,hc⟩:=hv.cells hd;have c:cl=true->∀(j:Nat) u y,v.cells[j]? = some u->d.cells[j]? = some y->Rd0 w g.imm u y:=by
  intro q j u y hu hy;have h0:=hv.lM (hcl q);exact ((Rd.cl h0:Rd w g.imm g.μ (λ_=>False) v d).cells hd).2 j u y hu hy |>.lM (by
   have hm:=zk hy;have s:=hcl q;by_cases hs:d.sc=true
   .rw[PV.je hs] at hm;simp at hm;subst hm;exact s
   .cases d <;> first | (exact absurd rfl hs) | (exact absurd hd hs) | (exact absurd hm zct) | skip
    rename_i cs;simp only[PV.lM,zg] at s;have:=s y hm;cases y <;> first | rfl | exact this | (simp[PV.Z1] at this) | skip
    all_goals simp_all [PV.lM,PV.Z1])
 have G:=h.xY (l:=l) (els:=[d]) (T:=T) (C:=1) (z:=d.cells.length) (opn:=false) (cl:=cl) v.cells p hl Ψ (by simp[A]) (by simp[hd])
  (λi x j y u hx hy hu=>by
   cases i with
   | zero=>
    simp at hx;subst hx;simp at hu;exact⟨hc j u y hu hy,λq=>c q j u y hu hy⟩
   | succ i=>simp at hx)
 exact⟨_,G.put e (Wh (n:=[d].length) (C:=1) (z:=d.cells.length) ⟨_,p7 _ _ _⟩ (p7 _ _ _))⟩
theorem Zj{o:Oper}{T:TypeId}{x:Operand}(h:u7 X g st a w)(ho:o.op = .box T x){l:Nat}(e:∀t,o.dst=some t->t<X.N)(p:l<MB)(hl:st.σ l=none)(hx:(B8 st.env x).el=true)
  (s:∀j q w',u7 X j ⟨Z7 st.env o.dst (.ptr l 0 0),(aj.new l ⟨[B8 st.env x],0,false,(B8 st.env x).cells.length,(B8 st.env x).lM⟩).apply st.σ⟩ q w'->K q w'):o.wpIn (FX ρ) n X.P a w K Q:=by
 obtain⟨j,h'⟩:=h.var (T:=T) e p hl (h.eval x) hx (cl:=(B8 st.env x).lM) id;refine I0 (v:=.pointer (some ⟨w.heap.size,0,none⟩)) (w':=w.alloc (.cells (a.eval x).cells T)) (λc=>Ωg) ?_ (s j _ _ h');obtain⟨dst,op,ty,pos,after,guard⟩:=o;simp only at ho;subst ho;exact N8 rfl
theorem Se{o:Oper}{T:TypeId}(h:u7 X g st a w)(ho:o.op = .alloc T){l:Nat}{v:Value}(e:∀t,o.dst=some t->t<X.N)(p:l<MB)(hl:st.σ l=none)(hz:A6 X.P T=some v)(hx:(PV.fH v).el=true)
  (hcl:(PV.fH v).lM=true)
  (s:∀j q w',u7 X j ⟨Z7 st.env o.dst (.ptr l 0 0),(aj.new l ⟨[PV.fH v],0,false,(PV.fH v).cells.length,true⟩).apply st.σ⟩ q w'->K q w'):o.wpIn (FX ρ) n X.P a w K Q:=by
 obtain⟨j,h'⟩:=h.var (T:=T) e p hl (.cl (ux w g.imm v)) hx (cl:=true) (λ_=>hcl);refine I0 (v:=.pointer (some ⟨w.heap.size,0,none⟩)) (w':=w.alloc (.cells v.cells T)) (λc=>Ωg) ?_ (s j _ _ h');obtain⟨dst,op,ty,pos,after,guard⟩:=o;simp only at ho;subst ho;refine N8 ?_;simp only[Instr.alloc,zy,nQ hz,zm];rfl
theorem Sd(v:Value):(PV.DJ v).Z1=true:=by
 unfold PV.DJ;split <;> rfl
theorem GJ(v:Value):(PV.fH v).lM=true:=by
 unfold PV.fH;split
 .split
  .simp only[PV.lM,zg];intro y hy;obtain⟨u,_,rfl⟩:=zn.1 hy;exact Sd u
  .rfl
 .split <;> rfl
 .unfold PV.DJ;split <;> rfl
theorem Sl{o:Oper}{T:TypeId}{x y:Operand}{l i f:Nat}(h:u7 X g st a w)(ho:o.op = .store T x y)(e:∀t,o.dst=some t->t<X.N)(hx:B8 st.env x = .ptr l i f){d:PV}(hd:B8 st.env y=d\/(B8 st.env y).w1=d)
  (hy:d.el=true)(hs:u5 X.P T=some d.cells.length)(hpos:0<d.cells.length)(hok:(aj.sto l i f d.cells).ok st.σ)
  (q:∀p j w',u7 X p ⟨Z7 st.env o.dst (.tup []),(aj.sto l i f d.cells).apply st.σ⟩ j w'->K j w'):o.wpIn (FX ρ) n X.P a w K Q:=by
 have hv:=h.eval x;rw[hx] at hv;have hu:Rd w g.imm g.μ st.p6 (a.eval y) d:=by
  rcases hd with rfl | rfl
  .exact h.eval y
  .exact (h.eval y).w1
 obtain⟨w',hr,h'⟩:=h.store hv hu hy hs hpos hok;refine xR (w':=w') (λc=>Ωg) ?_ (q g _ _ (h'.put e (.cl (.tup #[] [] rfl λi v c _ hc=>Ωj))));obtain⟨dst,op,ty,pos,after,guard⟩:=o;simp only at ho;subst ho;exact Nz hr
theorem QO{i j z:Nat}(h:j<z):(i*z+j) / z=i/\(i*z+j) % z=j:=by
 constructor;·rw[zb8,Nat.add_mul_div_right _ _ Δ,Nat.div_eq_of_lt h,zar]
 .rw[zb8,Nat.add_mul_mod_self_right,Nat.mod_eq_of_lt h]
theorem Src.same{σ σF:Nat->Option Row}{d:PV}{ys:List PV}{cl:Bool}(hs:I8 σ σF)(hp:∀l,d = .sl l->∃c,σ l=some c)(h:Src σF d ys cl):Src σ d ys cl:=by
 rcases h with h | ⟨l,r,e,j,p,q⟩
 .exact .inl h
 .obtain⟨c,k1,k2,u,s⟩:=hs.at (hp l e) j;exact .inr ⟨l,c,e,k1,by rw[p,k2],by rw[q,s]⟩
theorem Src.reads(h:u7 X g st a w){v:Value}{d:PV}{ys:List PV}{cl:Bool}{z:Nat}(hv:Rd w g.imm g.μ st.p6 v d)(hd:Src st.σ d ys cl)(hz:∀y∈ys,y.cells.length=z) :
  ∃B c,∃vals:List Value,v = .slice B ys.length c/\(∀x∈ys,x.el=true)/\vals.length=ys.length*z /\
   (∀(i:Nat) x (j:Nat) y u,ys[i]? = some x->x.cells[j]? = some y->vals[i*z+j]? = some u->Rd w g.imm g.μ st.p6 u y/\(cl=true->Rd0 w g.imm u y)) /\
   (∀u∈vals,one u=true)/\(0<ys.length->∃b s,B=some ⟨b,s,none⟩/\∀(j:Nat) u,vals[j]? = some u->w.cell? ⟨b,s+j,none⟩=some u):=by
 have key:∃B c,v = .slice B ys.length c/\(∀x∈ys,x.el=true)/\(0<ys.length->∃b s,B=some ⟨b,s,none⟩ /\
   ∀(i:Nat) x (j:Nat) y,ys[i]? = some x->x.cells[j]? = some y->∃u,w.cell? ⟨b,s+(i*z+j),none⟩=some u/\Rd w g.imm g.μ st.p6 u y/\(cl=true->Rd0 w g.imm u y)):=by
  rcases hd with ⟨t,rfl,rfl⟩ | ⟨l,r,rfl,R,rfl,rfl⟩
  .obtain⟨A,c,z',u,rfl,h1,R,h3,S,h5,V⟩:=hv.gp;refine⟨A,c,rfl,λx hx=>(S x hx).1,λh0=>?_⟩;obtain⟨b,s,hA,h7⟩:=h5 h0;refine⟨b,s,hA,λi x j y hx hy=>?_⟩;have hm:=zk hx;have:z'=z:=by rw[<-(S x hm).2,hz x hm]
   subst this;have:=(h7 i x j y hx hy).2;rw[t8] at this;exact⟨_,this,.cl (V i x j y hx hy),λ_=>V i x j y hx hy⟩
  .obtain⟨hp,e⟩:=hv.fC;have F:=h.rows l r R;refine⟨_,_,by rw[e,F.n],λx hx=>(F.el x hx).1,λh0=>?_⟩;obtain⟨b,s,hA⟩:=F.spot (by have:=F.C;have:=F.n;omega);refine⟨b,s,hA,λi x j y hx hy=>?_⟩;have hm:=zk hx;have:(g.μ l).z=z:=by rw[F.z,<-(F.el x hm).2,hz x hm]
   obtain⟨u,k1,k2,k3⟩:=h.lX R hx hy hA;rw[this,t8] at k1;exact⟨u,k1,k2,k3⟩
 obtain⟨B,c,e,hel,hk⟩:=key;by_cases h0:0<ys.length
 .obtain⟨b,s,hB,hc⟩:=hk h0;have H:∀k,k<ys.length*z->∃u,w.cell? ⟨b,s+k,none⟩=some u/\one u=true:=by
   intro k G;have N:0<z:=Nat.pos_of_ne_zero (λq=>by subst q;omega);have hi:k / z<ys.length:=(Nat.div_lt_iff_lt_mul N).2 G;have hx:=zc hi;have hj:k % z<(ys[k / z]).cells.length:=by rw[hz _ (zl hi)];exact Nat.mod_lt _ N
   obtain⟨u,k1,k2,_⟩:=hc _ _ _ _ hx (zc hj);have:k / z*z+k % z=k:=by rw[Nat.mul_comm];exact Nat.div_add_mod k z
   rw[this] at k1;exact⟨u,k1,k2.one (PV.qE (hel _ (zl hi)) _ (zl hj))⟩
  refine⟨B,c,(List.range (ys.length*z)).map λk=>(w.cell? ⟨b,s+k,none⟩).getD undef,e,hel,Ψ,λi x j y u hx hy hu=>?_,λu hu=>?_,λ_=>⟨b,s,hB,λj u hu=>?_⟩⟩
  .obtain⟨u',k1,k2⟩:=hc i x j y hx hy;have p:=C6 hu;simp at p;simp[p,k1] at hu;subst hu;exact k2
  .obtain⟨k,G,rfl⟩:=zn.1 hu;obtain⟨u',k1,k2⟩:=H k (Ω (G));rw[k1];exact k2
  .have p:=C6 hu;simp at p;obtain⟨u',k1,_⟩:=H j p;simp[p,k1] at hu;rw[k1,hu]
 .have:ys = []:=by cases ys <;> simp_all
  subst this;exact⟨B,c,[],e,hel,Ψ,λi x j y u hx=>by simp at hx,λu hu=>by simp at hu,λq=>absurd q h0⟩
theorem BU{xs ys:List PV}{z:Nat}{A B:List Value}{R:Value->PV->Prop}(hA:A.length=xs.length*z)(hz:∀x∈xs++ys,x.cells.length=z)
  (ha:∀(i:Nat) x (j:Nat) y u,xs[i]? = some x->x.cells[j]? = some y->A[i*z+j]? = some u->R u y)
  (hb:∀(i:Nat) x (j:Nat) y u,ys[i]? = some x->x.cells[j]? = some y->B[i*z+j]? = some u->R u y)(C:List Value)(s:B.length=ys.length*z) :
  ∀(i:Nat) x (j:Nat) y u,(xs++ys)[i]? = some x->x.cells[j]? = some y->(A++B++C)[i*z+j]? = some u->R u y:=by
 intro i x j y u hx hy hu;have hj:j<z:=by rw[<-hz x (zk hx)];exact PV.G5 hy
 have hi:=C6 hx;simp at hi;rcases zI i xs.length with q | q
 .rw[zX q] at hx;have:(i+1)*z<=xs.length*z:=zp _ Δ;rw[wt,zbc] at this;rw[zac,zX Δ] at hu;exact ha i x j y u hx hy hu
 .rw[zW q] at hx;have c:(i-xs.length)*z=i*z-xs.length*z:=Nat.sub_mul _ _ _;have p:xs.length*z<=i*z:=zp _ q;have e:(i+1)*z<=(xs.length+ys.length)*z:=zp _ Δ;rw[wt,zbc,wt] at e;rw[zac,zW Δ,zX Δ] at hu;refine hb (i-xs.length) x j y u hx hy ?_;rw[c,show i*z-xs.length*z+j=i*z+j-A.length by omega];exact hu
end
end Go.Pw
namespace Go.Pw
open Go.RowKit
section
variable{X:Ctx}{g:Gh}{st:St}{a:Act}{w:World}{n:Nat}{K:Act->World->Prop}{Q:Exit->Act->World->Prop}{ρ:Option Nat}{P:Program}
theorem Gp{T:TypeId}{z b:Nat}{v:Value}(c:u5 P T=some z)(e:J7 P T=some b)(j:A6 P T=some v) :
  ∃i,P.info? T=some i/\i.size=z/\i.bytes=b/\i.zero=some v:=by
 unfold u5 at c;unfold J7 at e;unfold A6 at j;cases hi:P.info? T with
 | none=>rw[hi] at c;cases c
 | some i=>rw[hi] at c e j;exact⟨i,rfl,Ω c,Ω e,Ω j⟩
theorem pv{T E:TypeId}{ty:TypeId}{z nS C c:Nat}{base B:Option Addr}(hE:B7 P T=some E)(hz:u5 P E=some z)(e:nS<=C) :
  (Builtin.append_ #[T,T] ty #[.slice base nS C,.slice B 0 c]).run P w = .ok (.slice base nS C) w:=by
 have hu:=P5 hE;unfold u5 at hz;cases hi:P.info? E with
 | none=>rw[hi] at hz;cases hz
 | some i=>
  cases B <;> cases base <;> simp[Builtin.append_,zR hu,sizeOf,typeInfo,hi,Builtin.lenOf,e,Builtin.firstCells,loadCells,loadCellsFrom,storeCells]
theorem nP{T E:TypeId}{ty:TypeId}{z nS C m c b s:Nat}{B:Addr}{vals:List Value}(hE:B7 P T=some E)(hz:u5 P E=some z)(h:nS+m<=C)
  (hl:vals.length=m*z)(hv:∀(j:Nat) u,vals[j]? = some u->w.cell? (B.add j)=some u)(q:∀u∈vals,one u=true)
  (hc:∀j,j<vals.length->(w.cell? ⟨b,s+nS*z+j,none⟩).isSome=true/\w.frozen? ⟨b,s+nS*z+j,none⟩=false) :
  (Builtin.append_ #[T,T] ty #[.slice (some ⟨b,s,none⟩) nS C,.slice (some B) m c]).run P w = .ok (.slice (some ⟨b,s,none⟩) (nS+m) C) (w.setCells b (s+nS*z) vals):=by
 have hu:=P5 hE;unfold u5 at hz;cases hi:P.info? E with
 | none=>rw[hi] at hz;cases hz
 | some i=>
  rw[hi] at hz;have p:i.size=z:=Ω hz
  subst p;have hf:=run_firstCells_some (P:=P) w i.size m B m c vals hl hv;have e:=run_storeCells_cells (P:=P) b (s+nS*i.size) vals 0 w (λj hj=>Ω ((hc j hj).1)) (λj hj=>Ω ((hc j hj).2)) (λu hu=>by rw[<-KU];exact q u hu);simp only[zbf] at e;simp[Builtin.append_,zR hu,sizeOf,typeInfo,hi,Builtin.lenOf,h,hf,T2,e]
theorem WN{α:Type}(f:Nat->α)(k:Nat)(x y:α):A3 (A3 f k x) k y=A3 f k y:=by
 funext i
 unfold A3;split <;> rfl
theorem jj(w:World)(need old:Nat)(e:TypeId):need<=grownCap w need old e:=by
 simp only[grownCap,Question.cut];omega
theorem lE{T E:TypeId}{ty:TypeId}{z nS C m c by_:Nat}{A:Option Addr}{B:Addr}{olds vals:List Value}{zv:Value}(hE:B7 P T=some E)(hz:u5 P E=some z)(hb:J7 P E=some by_)
  (hzv:A6 P E=some zv)(hzz:zv.cells.size=z)(p:C<nS+m)(H:nS<=C)(hnil:A=none->C=0)
  (hlo:olds.length=nS*z)(ho:0<nS->∃b s,A=some ⟨b,s,none⟩/\∀(j:Nat) u,olds[j]? = some u->w.cell? ⟨b,s+j,none⟩=some u)
  (hl:vals.length=m*z)(hv:∀(j:Nat) u,vals[j]? = some u->w.cell? (B.add j)=some u)(hfit:(nS+m)*by_<=140737488355328)(h63:nS+m<=9223372036854775807) :
  ∃C' cs,(Builtin.append_ #[T,T] ty #[.slice A nS C,.slice (some B) m c]).run P w = .ok (.slice (some ⟨w.heap.size,0,none⟩) (nS+m) C') (w.drew.alloc (.cells cs E)) /\
   nS+m<=C'/\cs.size=C'*z/\∃rest,cs.toList=olds++vals++rest:=by
 have hu:=P5 hE;obtain⟨i,hi,rfl,rfl,e⟩:=Gp hz hb hzv;have hm:0<m:=Δ
 cases A with
 | none=>
  have h0:=hnil rfl;subst h0;obtain rfl:nS=0:=Δ
  have:olds = []:=by cases olds <;> simp_all
  subst this;simp only[zar] at hfit h63 p |-;have:=run_append_nil (P:=P) w T ty E i zv hu hi e B m c vals hl hv hm Δ Δ;refine⟨_,_,this,jj _ _ _ _,?_,?_⟩
  .simp only[zbt,size_zeroCells,List.size_toArray,hl,hzz];rw[<-wt];congr 1;have:=jj w m 0 E;omega
  .exact⟨(Builtin.zeroCells zv.cells (grownCap w m 0 E-m)).toList,by rw[Array.toList_append];simp⟩
 | some F=>
  have h:∀(j:Nat) u,olds[j]? = some u->w.cell? (F.add j)=some u:=by
   intro j u hj;have h0:0<nS:=by
    rcases zah nS with q | q
    .subst q;have:=C6 hj;omega
    .exact q
   obtain⟨b,s,hA,G⟩:=ho h0;cases hA;rw[T2];exact G j u hj
  have:=run_append_grow (P:=P) w T ty E i zv hu hi e F nS C olds hlo h B m c vals hl hv p Δ (growslice_fits p hfit);refine⟨_,_,this,jj _ _ _ _,?_,?_⟩
  .simp only[zbt,size_zeroCells,List.size_toArray,hl,hlo,hzz];rw[<-wt,<-wt];congr 1;have:=jj w (nS+m) C E;omega
  .exact⟨(Builtin.zeroCells zv.cells (grownCap w (nS+m) C E-(nS+m))).toList,by rw[Array.toList_append,Array.toList_append]⟩
theorem u7.grown(h:u7 X g st a w){l:Nat}{xs ys:List PV}{C z:Nat}{cl:Bool}{E:TypeId}{cs:Array Value}{olds vals rest:List Value}(p:l<MB)(hl:st.σ l=none)
  (N:(xs++ys).length<=C)(e:cs.size=C*z)(hrest:cs.toList=olds++vals++rest)(hel:∀x∈xs++ys,x.el=true/\x.cells.length=z)
  (hA:olds.length=xs.length*z)(H:vals.length=ys.length*z)
  (ha:∀(i:Nat) x (j:Nat) y u,xs[i]? = some x->x.cells[j]? = some y->olds[i*z+j]? = some u->Rd w g.imm g.μ st.p6 u y/\(cl=true->Rd0 w g.imm u y))
  (hb:∀(i:Nat) x (j:Nat) y u,ys[i]? = some x->x.cells[j]? = some y->vals[i*z+j]? = some u->Rd w g.imm g.μ st.p6 u y/\(cl=true->Rd0 w g.imm u y)) :
  ∃A,u7 X A ⟨st.env,A3 st.σ l (some ⟨xs++ys,xs.length,true,z,cl⟩)⟩ a (w.drew.alloc (.cells cs E))/\A.μ l=⟨some ⟨w.heap.size,0,none⟩,(xs++ys).length,C,z⟩:=by
 have G:=h.drew.xY (l:=l) (els:=xs++ys) (T:=E) (C:=C) (z:=z) (opn:=true) (cl:=cl) cs p hl N e hel (λi x j y u hx hy hu=>by
  have s:(olds++vals++rest)[i*z+j]? = some u:=by rw[<-hrest];simpa using hu
  have:=BU (R:=λu y=>Rd w g.imm g.μ st.p6 u y/\(cl=true->Rd0 w g.imm u y)) hA (λx hx=>(hel x hx).2) ha hb rest H i x j y u hx hy s;have c:Ext w g.imm w.drew g.imm:=⟨λ_ _ q=>q,λ_ _ _=>rfl,λ_ _ _ _ q _=>q⟩;exact⟨this.1.mono c λ_ q=>⟨q,rfl⟩,λq=>(this.2 q).mono c⟩)
 have F:=G.oe (l:=l) (p7 _ _ _) xs.length (zU _) Ψ true (λ_=>rfl);simp only[WN] at F;exact⟨_,F,p7 _ _ _⟩
end
end Go.Pw
namespace Go.Pw
open Go.RowKit
section
variable{X:Ctx}{g:Gh}{st:St}{a:Act}{w:World}{n:Nat}{K:Act->World->Prop}{Q:Exit->Act->World->Prop}{ρ:Option Nat}{P:Program}
variable {o:Oper}{x y:Operand}
theorem aY{ts:Array TypeId}(ho:o.op = .call { callee:=.builtin .append,args:=#[x,y],argTypes:=ts }){v:Value}{w':World}
  (h:(Builtin.append_ ts o.type #[a.eval x,a.eval y]).run P w = .ok v w'):(execOp a.eval o).run P w = .ok (.value v) w':=by
 obtain⟨dst,op,ty,pos,after,guard⟩:=o;simp only at ho;subst ho;have e:Array.map a.eval #[x,y] = #[a.eval x,a.eval y]:=Ψ
 rw[<-e] at h;exact N8 h
theorem u7.wH(h:u7 X g st a w){l:Nat}{A:Option Addr}{xs:List PV}{z:Nat}(p:l<MB)(hl:st.σ l=none)(hA:A=none->xs.length=0)
  (hel:∀x∈xs,x.el=true/\x.cells.length=z)
  (hc:0<xs.length->∃b s,A=some ⟨b,s,none⟩/\∀(i:Nat) x (j:Nat) y,xs[i]? = some x->x.cells[j]? = some y->∃u,g.imm b (s+i*z+j)/\w.cell? ⟨b,s+i*z+j,none⟩=some u/\Rd0 w g.imm u y)(cl:Bool) :
  u7 X ⟨g.imm,A3 g.μ l ⟨A,xs.length,xs.length,z⟩⟩ ⟨st.env,A3 st.σ l (some ⟨xs,xs.length,true,z,cl⟩)⟩ a w:=by
 have c:∀b o,¬M1 ⟨A,xs.length,xs.length,z⟩ ⟨xs,xs.length,true,z,cl⟩ b o:=by
  rintro b o ⟨s,_,F,G⟩;simp only[ut] at F G;omega
 refine h.row p hl ⟨rfl,rfl,zC _,zC _,hel,hA,λq=>?_,λi x j y hx hy=>?_,λb o q=>absurd q (c b o)⟩ (λ_ _ b o _ _=>c b o) (λb o q=>absurd q (c b o))
 .obtain⟨b,s,e,_⟩:=hc q;exact⟨b,s,e⟩
 .obtain⟨b,s,e,k⟩:=hc (by have:=C6 hx;simp only at this;omega);obtain⟨u,k1,k2,C⟩:=k i x j y hx hy;exact⟨b,s,u,e,k2,.cl C,λ_=>k1,λ_=>C⟩
theorem VR{T E:TypeId}{xs ys:List PV}{cl:Bool}{z by_ l:Nat}{zv:Value}(h:u7 X g st a w)
  (ho:o.op = .call { callee:=.builtin .append,args:=#[x,y],argTypes:=#[T,T] })(p:∀t,o.dst=some t->t<X.N)(G:l<MB)(hl:st.σ l=none)
  (hx:B8 st.env x = .lst true xs)(hy:Src st.σ (B8 st.env y) ys cl)(hE:B7 X.P T=some E)(hz:u5 X.P E=some z)(hb:J7 X.P E=some by_)(hzv:A6 X.P E=some zv)(hzz:zv.cells.size=z)
  (hel:∀e∈xs++ys,e.cells.length=z)(hfit:(xs.length+ys.length)*by_<=140737488355328)(h63:xs.length+ys.length<=9223372036854775807)
  (hK:∀F a' w',u7 X F ⟨Z7 st.env o.dst (.sl l),(aj.new l ⟨xs++ys,xs.length,true,z,cl⟩).apply st.σ⟩ a' w'->K a' w'):o.wpIn (FX ρ) n X.P a w K Q:=by
 have hnd:∀c,o.op ≠ .defer c:=λc=>by rw[ho];simp
 have hv:=h.eval x;have hu:=h.eval y;rw[hx] at hv;obtain⟨A,c,z',u,e,h1,h2,h3,h4,h5,h6⟩:=hv.gp;have hc:=h2 rfl;subst hc;obtain⟨B,cB,vals,eB,V,H,hvr,hone,hvc⟩:=Src.reads h hu hy (z:=z) (λy hy=>hel y (t6 _ hy));rcases zah ys.length with hm | hm
 .have:ys = []:=by cases ys <;> simp_all
  subst this;simp only[za9] at hel hK;have hr:(execOp a.eval o).run X.P w = .ok (.value (.slice A xs.length xs.length)) w:=
   aY ho (by rw[e,eB];exact pv hE hz (zC _))
  have hs:=h.wH (l:=l) (A:=A) (xs:=xs) (z:=z) G hl h3 (λx hx=>⟨(h4 x hx).1,hel x hx⟩) (λh0=>by
   obtain⟨b,s,hA,h7⟩:=h5 h0;refine⟨b,s,hA,λi x j y hx hy=>?_⟩;have hmx:=zk hx;have:z'=z:=by rw[<-(h4 x hmx).2,hel x hmx]
   subst this;exact⟨_,(h7 i x j y hx hy).1,(h7 i x j y hx hy).2,h6 i x j y hx hy⟩) cl
  exact I0 hnd hr (hK _ _ _ (hs.put p (gO ⟨_,p7 _ _ _⟩ (p7 _ _ _))))
 .obtain⟨bB,sB,rfl,hBc⟩:=hvc hm;obtain⟨A',cA,olds,eA,S,hlo,R,_,hoc⟩:=Src.reads h hv (.inl ⟨true,rfl,rfl⟩:Src st.σ (.lst true xs) xs true) (z:=z) (λy hy=>hel y (rx _ hy));rw[e] at eA;cases eA;obtain⟨C',cs,hr,hC',hcs,rest,hrest⟩:=lE (P:=X.P) (w:=w) (ty:=o.type) (c:=cB) (B:=⟨bB,sB,none⟩) (m:=ys.length) hE hz hb hzv hzz Δ (zC _) h3 hlo (λq=>hoc q) H
   (λj u hj=>ΩC) hfit h63
  obtain⟨F,hs,hμ⟩:=h.grown (l:=l) (xs:=xs) (ys:=ys) (C:=C') (z:=z) (cl:=cl) (E:=E) G hl (Ω (hC')) hcs hrest
   (λe he=>⟨(zH.1 he).elim (S e) (V e),hel e he⟩) hlo H (λi x j y u hx hy hu=>⟨(R i x j y u hx hy hu).1,λ_=>(R i x j y u hx hy hu).2 rfl⟩) hvr
  refine I0 hnd (aY ho (by rw[e,eB];exact hr)) (hK F _ _ (hs.put p ?_));have:=gO (w':=w.drew.alloc (.cells cs E)) (imm:=F.imm) (μ:=F.μ) (p6:=St.p6 ⟨st.env,A3 st.σ l (some ⟨xs++ys,xs.length,true,z,cl⟩)⟩) ⟨_,p7 _ _ _⟩ hμ;simpa using this
theorem VQ{T E:TypeId}{ys:List PV}{cl:Bool}{z by_ l s:Nat}{r:Row}{zv:Value}(h:u7 X g st a w)
  (ho:o.op = .call { callee:=.builtin .append,args:=#[x,y],argTypes:=#[T,T] })(hdst:∀t,o.dst=some t->t<X.N)(hlm:l<MB)(hl:st.σ l=none)
  (hx:B8 st.env x = .sl s)(p:st.σ s=some r)(hop:r.opn=true)(hy:Src st.σ (B8 st.env y) ys cl)(hE:B7 X.P T=some E)(hz:u5 X.P E=some z)(hb:J7 X.P E=some by_)(hzv:A6 X.P E=some zv)
  (hzz:zv.cells.size=z)(hel:∀e∈r.els++ys,e.cells.length=z)(hrz:r.z=z)(hfit:(r.els.length+ys.length)*by_<=140737488355328)(h63:r.els.length+ys.length<=9223372036854775807)
  (hK:∀g' a' w',u7 X g' ⟨Z7 st.env o.dst (.sl l),(aj.app s l ⟨r.els++ys,r.els.length,true,z,r.cl&&cl⟩).apply st.σ⟩ a' w'->K a' w'):o.wpIn (FX ρ) n X.P a w K Q:=by
 have hnd:∀c,o.op ≠ .defer c:=λc=>by rw[ho];simp
 have hsl:s≠l:=λq=>by rw[q,hl] at p;cases p
 simp only[aj.apply,p] at hK;have hv:=h.eval x;have hu:=h.eval y;rw[hx] at hv;obtain⟨hp,e⟩:=hv.fC;have G:=h.rows s r p;obtain⟨B,cB,vals,eB,hyel,hlv,hvr,hone,hvc⟩:=Src.reads h hu hy (z:=z) (λy hy=>hel y (t6 _ hy));have hF:=h.oe p r.els.length (by have:=G.lo;have:=G.n;omega) (zC _) false (λq=>Γ);have hFl:A3 st.σ s (some { r with lo:=r.els.length,opn:=false }) l=none:=by rw[o0 _ _ (zaz hsl)];exact hl
 have V:Ext w g.imm w (qH g st.σ s r.els.length):=⟨λ_ _ q=>.inl q,λ_ _ _=>rfl,λ_ _ _ _ q _=>q⟩;have hpF:∀l',st.p6 l'->St.p6 ⟨st.env,A3 st.σ s (some { r with lo:=r.els.length,opn:=false })⟩ l'/\g.μ l'=g.μ l':=by
  rintro l' ⟨r',hr'⟩;refine⟨?_,rfl⟩;by_cases q:l'=s
  .exact⟨_,by rw[q];exact p7 _ _ _⟩
  .exact⟨r',by rw[show (St.mk st.env (A3 st.σ s (some { r with lo:=r.els.length,opn:=false }))).σ l'=st.σ l' from o0 _ _ q];exact hr'⟩
 have hRF:=hF.rows s { r with lo:=r.els.length,opn:=false } (p7 _ _ _);have hmz:(g.μ s).z=z:=by rw[G.z,hrz]
 rcases zI (g.μ s).C ((g.μ s).n+ys.length) with hbig | hroom
 .-- a new block
  have hm:0<ys.length:=by have:=G.C;omega
  obtain⟨bB,sB,rfl,hBc⟩:=hvc hm;obtain⟨A',cA,olds,eA,hxel,hlo,hor,_,hoc⟩:=Src.reads h hv (.inr ⟨s,r,rfl,p,rfl,rfl⟩:Src st.σ (.sl s) r.els r.cl) (z:=z) (λy hy=>hel y (rx _ hy));rw[e] at eA;simp only[Value.slice.injEq] at eA;obtain⟨rfl,hn',rfl⟩:=eA;rw[hn'] at e hbig;obtain⟨C',cs,hr,hC',hcs,rest,hrest⟩:=lE (P:=X.P) (w:=w) (ty:=o.type) (c:=cB) (B:=⟨bB,sB,none⟩) (m:=ys.length) hE hz hb hzv hzz hbig (by rw[<-hn'];exact G.C) G.nil hlo (λq=>hoc q) hlv
   (λj u hj=>ΩC) hfit h63
  obtain⟨g',hs,hμ⟩:=hF.grown (l:=l) (xs:=r.els) (ys:=ys) (C:=C') (z:=z) (cl:=r.cl&&cl) (E:=E) hlm hFl (Ω (hC')) hcs hrest
   (λe he=>⟨(zH.1 he).elim (hxel e) (hyel e),hel e he⟩) hlo hlv
   (λi x j y u hx hy hu=>⟨(hor i x j y u hx hy hu).1.mono V hpF,λq=>((hor i x j y u hx hy hu).2 (by simp at q;exact q.1)).mono V⟩)
   (λi x j y u hx hy hu=>⟨(hvr i x j y u hx hy hu).1.mono V hpF,λq=>((hvr i x j y u hx hy hu).2 (by simp at q;exact q.2)).mono V⟩)
  refine I0 hnd (aY ho (by rw[e,eB];exact hr)) (hK g' _ _ (hs.put hdst ?_));have:=gO (w':=w.drew.alloc (.cells cs E)) (imm:=g'.imm) (μ:=g'.μ)
   (p6:=St.p6 ⟨st.env,A3 (A3 st.σ s (some { r with lo:=r.els.length,opn:=false })) l (some ⟨r.els++ys,r.els.length,true,z,r.cl&&cl⟩)⟩) ⟨_,p7 _ _ _⟩ hμ
  simpa using this
 .-- in place
  have hn:=G.n;have hT:∀b s',(g.μ s).A=some ⟨b,s',none⟩->∀o',s'+(g.μ s).n*z<=o'->o'<s'+(g.μ s).C*z->M1 (g.μ s) r b o':=λb s' hA o' q1 q2=>
   ⟨s',hA,by have:r.lo*(g.μ s).z<=(g.μ s).n*(g.μ s).z:=zp _ G.lo;rw[hmz] at *;omega,Δh⟩
  have hTi:∀b o',(∃s',(g.μ s).A=some ⟨b,s',none⟩/\s'+(g.μ s).n*z<=o'/\o'<s'+(g.μ s).C*z)->¬qH g st.σ s r.els.length b o':=by
   rintro b o' ⟨s',hA,q1,q2⟩ (q | ⟨r2,s2,hr2,_,S,q3⟩);·exact h.ownimm s r b o' p (hT b s' hA o' q1 q2) q
   .rw[hA] at S;cases S;rw[hmz,<-hn] at q3;omega
  have hnew:∀(w':World) (v':Value),(Builtin.append_ #[T,T] o.type #[.slice (g.μ s).A (g.μ s).n (g.μ s).C,a.eval y]).run X.P w = .ok (.slice (g.μ s).A ((g.μ s).n+ys.length) (g.μ s).C) w' ->
    (w'=w/\ys.length=0\/∃b s',(g.μ s).A=some ⟨b,s',none⟩/\w'=w.setCells b (s'+(g.μ s).n*z) vals)->o.wpIn (FX ρ) n X.P a w K Q:=by
   intro w' v' hrun R;have hcell:∀b o',¬(∃s',(g.μ s).A=some ⟨b,s',none⟩/\s'+(g.μ s).n*z<=o'/\o'<s'+(g.μ s).C*z)->w'.cell? ⟨b,o',none⟩=w.cell? ⟨b,o',none⟩/\w'.frozen? ⟨b,o',none⟩=w.frozen? ⟨b,o',none⟩:=by
    intro b o' q;rcases R with ⟨rfl,_⟩ | ⟨F,s',hA,rfl⟩;·exact⟨rfl,rfl⟩
    .refine⟨zam F vals _ w ⟨b,o',none⟩ λq1 _=>?_,zbk F vals _ w _⟩;simp only at q1 |-;subst q1;rcases zI o' (s'+(g.μ s).n*z) with q2 | q2
     .exact .inl q2
     .right;rcases zI o' (s'+(g.μ s).n*z+vals.length) with q3 | q3
      .exfalso;refine q ⟨s',hA,q2,?_⟩;have:((g.μ s).n+ys.length)*z<=(g.μ s).C*z:=zp _ hroom;rw[wt] at this;omega
      .exact q3
   have hxw:Ext w (qH g st.σ s r.els.length) w' (qH g st.σ s r.els.length):=⟨λ_ _ q=>q,λb o' q=>(hcell b o' λq'=>hTi b o' q' q).1,λk _ x _ hx hc=>by
    rcases R with ⟨rfl,_⟩ | ⟨F,s',hA,rfl⟩;·exact hx
    .exact (H8 F vals _ w).same k x hx (R1 hc)⟩
   have hlw:w'.heap.size=w.heap.size:=by
    rcases R with ⟨rfl,_⟩ | ⟨F,s',hA,rfl⟩;·rfl
    .exact jb _ _ _ _
   have hbw:nb X.w0.heap.size X.w0 w':=by
    rcases R with ⟨rfl,_⟩ | ⟨F,s',hA,rfl⟩;·exact h.below
    .rcases zah vals.length with q | q
     .have:vals = []:=ul q;subst this;exact h.below
     .refine fX F ?_ vals _ w h.below;refine (h.fz p (hT F s' hA (s'+(g.μ s).n*z) (zC _) ?_)).1;have:((g.μ s).n+ys.length)*z<=(g.μ s).C*z:=zp _ hroom;rw[wt] at this;omega
   have hother:∀l' r' b o',A3 st.σ s (some { r with lo:=r.els.length,opn:=false }) l'=some r'->M1 (g.μ l') r' b o'->¬∃s',(g.μ s).A=some ⟨b,s',none⟩/\s'+(g.μ s).n*z<=o'/\o'<s'+(g.μ s).C*z:=by
    rintro l' r' b o' q H ⟨s',hA,q1,q2⟩;by_cases el:l'=s
    .subst el;rw[p7] at q;cases q;obtain⟨s2,S,k1,k2⟩:=H;simp only[zM,pu] at k1 k2;rw[hn] at k2;omega
    .rw[o0 _ _ el] at q;exact h.disj l' s r' r el q p b o' H (hT b s' hA o' q1 q2)
   have hM:=hF.move (w':=w') (imm':=qH g st.σ s r.els.length) hxw (λl' r' b o' q H=>⟨(hcell b o' (hother l' r' b o' q H)).1,(hcell b o' (hother l' r' b o' q H)).2,hF.ownimm l' r' b o' q H⟩)
    (λb o' q=>by rw[hlw];exact hF.immlt b o' q) hF.immsub hbw (λk x hx hc=>by
     rcases R with ⟨rfl,_⟩ | ⟨F,s',hA,rfl⟩;·exact hx
     .exact (H8 F vals _ w).same k x hx hc) (λ_ _ _ q _ _=>q)
   have hown:∀b o',M1 ⟨(g.μ s).A,(g.μ s).n+ys.length,(g.μ s).C,z⟩ ⟨r.els++ys,r.els.length,true,z,r.cl&&cl⟩ b o'->∃s',(g.μ s).A=some ⟨b,s',none⟩/\s'+(g.μ s).n*z<=o'/\o'<s'+(g.μ s).C*z:=by
    rintro b o' ⟨s',hA,q1,q2⟩;simp only[ut] at q1 q2;exact⟨s',hA,by rw[hn];exact q1,q2⟩
   have hN:=hM.row (l:=l) (m:=⟨(g.μ s).A,(g.μ s).n+ys.length,(g.μ s).C,z⟩) (r:=⟨r.els++ys,r.els.length,true,z,r.cl&&cl⟩) hlm hFl
    ⟨by simp[hn],rfl,hroom,ΩH,λe he=>⟨(zH.1 he).elim (λq=>(G.el e q).1) (hyel e),hel e he⟩,G.nil,G.spot,λi x j y hx hy=>?_,λb o' q=>?_⟩
    (λl' r' b o' q H k=>hother l' r' b o' q H (hown b o' k)) (λb o' q=>hTi b o' (hown b o' q))
   .refine I0 hnd (aY ho (by rw[e];exact hrun)) (hK _ _ _ (hN.put hdst ?_));exact gO (l:=l) (m:=⟨(g.μ s).A,(g.μ s).n+ys.length,(g.μ s).C,z⟩) ⟨_,p7 _ _ _⟩ (p7 _ _ _)
   .simp only at hx |-;have hi:=C6 hx;simp at hi;have hxz:x.cells.length=z:=hel x (zk hx);have hj:=PV.G5 hy;rcases zI i r.els.length with q | q
    .rw[zX q] at hx;obtain⟨b,s',u,k1,k2,k3,k4,k5⟩:=hRF.cell i x j y hx hy;simp only at k1 k2 k4 k5;rw[hmz] at k2 k4;have hi':=k4 q;exact⟨b,s',u,k1,by rw[hxw.cl b _ hi'];exact k2,k3.mono hxw λ_ q=>⟨q,rfl⟩,λ_=>hi',λq'=>(k5 (by simp at q';exact q'.1)).mono hxw⟩
    .rw[zW q] at hx;have hm:0<ys.length:=by omega
     rcases R with ⟨_,q0⟩ | ⟨F,s',hA,rfl⟩;·omega
     .have e1:(i-r.els.length)*z=i*z-r.els.length*z:=Nat.sub_mul _ _ _;have e2:r.els.length*z<=i*z:=zp _ q;have e3:(i-r.els.length+1)*z<=ys.length*z:=zp _ Δ;rw[wt,zbc] at e3;have hlt:(i-r.els.length)*z+j<vals.length:=by omega
      have hu':=zc hlt;have hrd:=hvr _ x j y _ hx hy hu';have hin:=zaw F vals (s'+(g.μ s).n*z) w (λj' hj'=>(G.own F _ (hT F s' hA _ Δ (by
       have:((g.μ s).n+ys.length)*z<=(g.μ s).C*z:=zp _ hroom;rw[wt] at this;omega))).2.1) _ hlt
      rw[show s'+(g.μ s).n*z+((i-r.els.length)*z+j)=s'+i*z+j by rw[hn];omega] at hin;exact⟨F,s',_,hA,hin,(hrd.1.mono V hpF).mono hxw λ_ q=>⟨q,rfl⟩,λq'=>Δ,λq'=>((hrd.2 (by simp at q';exact q'.2)).mono V).mono hxw⟩
   .obtain⟨s',hA,q1,q2⟩:=hown b o' q;obtain⟨k1,k2,k3⟩:=G.own b o' (hT b s' hA o' q1 q2);refine⟨k1,?_,?_⟩
    .rcases R with ⟨rfl,_⟩ | ⟨F,s2,S,rfl⟩;·exact k2
     .rw[hA] at S;cases S;by_cases q3:o'<s'+(g.μ s).n*z+vals.length
      .have:=zaw b vals (s'+(g.μ s).n*z) w (λj' hj'=>(G.own b _ (hT b s' hA _ Δ (by
        have:((g.μ s).n+ys.length)*z<=(g.μ s).C*z:=zp _ hroom;rw[wt] at this;omega))).2.1) (o'-(s'+(g.μ s).n*z)) Δ
       rw[show s'+(g.μ s).n*z+(o'-(s'+(g.μ s).n*z))=o' by omega] at this;rw[this];rfl
      .rw[zam b vals _ w ⟨b,o',none⟩ λ_ _=>ΩH];exact k2
    .rcases R with ⟨rfl,_⟩ | ⟨F,s2,S,rfl⟩;·exact k3
     .rw[zbk];exact k3
  rcases zah ys.length with hm | hm
  .refine hnew w undef ?_ (.inl ⟨rfl,hm⟩);rw[eB,hm];exact pv hE hz G.C
  .obtain⟨bB,sB,rfl,hBc⟩:=hvc hm;obtain⟨b,s',hA⟩:=G.spot Δ;refine hnew _ undef ?_ (.inr ⟨b,s',hA,rfl⟩);rw[eB,hA];refine nP hE hz hroom hlv (λj u hj=>ΩC) hone λj hj=>(G.own b _ (hT b s' hA _ Δ (by
    have:((g.μ s).n+ys.length)*z<=(g.μ s).C*z:=zp _ hroom;rw[wt] at this;omega))).2
end
end Go.Pw
namespace Go.Pw
open Go.RowKit
section
variable{X:Ctx}{g:Gh}{st:St}{a:Act}{w:World}{n:Nat}{K:Act->World->Prop}{Q:Exit->Act->World->Prop}{ρ:Option Nat}{P:Program}
def ED(off:Nat)(cells:Array Value)(l:List (Value × Nat)):Array Value:=l.foldl (λcs (c,j)=>cs.setIfInBounds (off+j) c) cells
theorem BX(off:Nat):∀(l:List (Value × Nat)) (cells:Array Value),(ED off cells l).size=cells.size
 | [],_=>rfl
 | _::l,cells=>by
  show (ED off (cells.setIfInBounds _ _) l).size=_;rw[BX off l];simp
theorem EE(off:Nat):∀(vs:List Value) (c:Nat) (cells:Array Value),off+c+vs.length<=cells.size->∀k,
  (ED off cells (vs.zipIdx c))[k]? = if off+c<=k/\k<off+c+vs.length then vs[k-(off+c)]? else cells[k]?
 | [],c,cells,_,k=>by
  rw[za (by simp only[zag];omega)];rfl
 | v::vs,c,cells,h,k=>by
  simp only[zF] at h;have ih:=EE off vs (c+1) (cells.setIfInBounds (off+c) v) Ξ k;rw[List.zipIdx_cons];show (ED off (cells.setIfInBounds (off+c) v) (vs.zipIdx (c+1)))[k]? = _;rw[ih];by_cases e:k=off+c
  .subst e;rw[za Δ,zb ⟨Δ,by simp only[zF];omega⟩,Nat.sub_self];simp only[za6,za0,ut];rw[zb Δ]
  .by_cases q:off+(c+1)<=k/\k<off+(c+1)+vs.length
   .rw[zb q,zb (by simp only[zF];omega)];rw[show k-(off+c)=(k-(off+(c+1)))+1 by omega,zbu]
   .rw[za q,za (by simp only[zF];omega)];simp only[za0];rw[za (zaz e)]
def b7(R:Value->PV->Prop)(cs:Array Value)(ps:List PV):Prop:=cs.size=ps.length/\∀(k:Nat) v p,cs[k]? = some v->ps[k]? = some p->R v p
theorem oG{w:World}{imm:Nat->Nat->Prop}{μ:Nat->O0}{p6:Nat->Prop}(place:Nat->Option (Nat × Nat)):∀(parts:List (Nat × Value)) (pp:List (Nat × PV)) (cs:Array Value) (ps h:List PV),
  parts.length=pp.length->(∀(k:Nat) i v j d,parts[k]? = some (i,v)->pp[k]? = some (j,d)->i=j/\Rd w imm μ p6 v d)->b7 (Rd w imm μ p6) cs ps->pM place ps pp=some h ->
  ∃A,Instr.fill place cs parts=some A/\b7 (Rd w imm μ p6) A h
 | [],[],cs,ps,h,_,_,hc,hf=>by
  simp only[pM,wd] at hf;subst hf;exact⟨cs,rfl,hc⟩
 | (i,v)::parts,(j,d)::pp,cs,ps,h,hl,hp,hc,hf=>by
  obtain⟨rfl,hv⟩:=hp 0 i v j d rfl rfl;simp only[pM] at hf;simp only[Instr.fill];cases gY:place i with
  | none=>rw[gY] at hf;cases hf
  | some q=>
   obtain⟨off,size⟩:=q;rw[gY] at hf;simp only at hf |-;split at hf;·cases hf
   .rename_i hn;have R:d.cells.length=size:=by
     rcases Nat.decEq d.cells.length size with q | q
     .exact absurd (.inl q) hn
     .exact q
    have S:off+d.cells.length<=ps.length:=by
     rcases zI ps.length (off+d.cells.length) with q | q
     .exact absurd (.inr (.inl q)) hn
     .exact q
    have G:d.el=true:=by
     cases q:d.el;·exact absurd (.inr (.inr q)) hn
     .rfl
    obtain⟨hs,C⟩:=hv.cells G;have e:¬(v.cells.size≠size\/off+v.cells.size > cs.size):=by rw[hs,hc.1];omega
    have N:(decide (v.cells.size≠size)||decide (off+v.cells.size > cs.size))=false:=by
     simp only[Bool.or_eq_false_iff,decide_eq_false_iff_not];omega
    rw[za (Ω (N))];refine oG place parts pp _ _ h (Ω hl) (λk=>hp (k+1)) ?_ hf;have hz:v.cells.zipIdx.foldl (λcs (x:Value × Nat)=>cs.setIfInBounds (off+x.2) x.1) cs=ED off cs (v.cells.toList.zipIdx 0):=by
     rw[<-Array.foldl_toList,Array.toList_zipIdx];rfl
    refine⟨?_,λk u p hu c=>?_⟩
    .have:(v.cells.zipIdx.foldl (λcs (x:Value × Nat)=>cs.setIfInBounds (off+x.2) x.1) cs).size=cs.size:=by rw[hz];exact BX off _ _
     rw[show (v.cells.zipIdx.foldl _ cs).size=cs.size from this,hc.1];simp;omega
    .have s:(ED off cs (v.cells.toList.zipIdx 0))[k]? = some u:=by rw[<-hz];exact hu
     rw[EE off v.cells.toList 0 cs Ξ] at s;simp only[zbf,Array.length_toList,hs] at s;split at s
     .rename_i q;rw[zac,zW Ξ,zX Ξ] at c;simp only[wn,zcl (show off<=ps.length by omega)] at c;exact C _ u p (Ω (s)) c
     .rename_i q;refine hc.2 k u p s ?_;rcases zI k off with H | H
      .rw[zac,zX Ξ,zas H] at c;exact c
      .have F:=C6 c;simp at F;rw[zW Ξ] at c;simp only[zA,wn,zao,zcl (show off<=ps.length by omega)] at c;rwa [show off+d.cells.length+(k-(off+d.cells.length))=k by omega] at c
theorem Lu{T:TypeId}{pl:Nat->Option (Nat × Nat)}{z:Value}{parts:Array (Nat × Value)}{cells:Array Value}(gY:D4 P T=some pl)(hz:A6 P T=some z)
  (hf:Instr.fill pl z.cells parts.toList=some cells):(Instr.build T parts).run P w = .ok (.agg cells) w:=by
 refine run_build w T parts cells ?_;unfold Program.built;unfold D4 at gY;unfold A6 at hz;cases j:P.info? T with
 | none=>rw[j] at hz;cases hz
 | some it=>
  rw[j] at hz;have p:it.zero=some z:=Ω hz
  cases hu:P.underlying T with
  | none=>rw[hu] at gY;cases gY
  | some D=>
   rw[hu] at gY;cases D <;> first | (cases gY;done) | skip
   case array m e=>
    simp only at gY |-;cases c:P.info? e with
    | none=>rw[c] at gY;cases gY
    | some ie=>
     rw[c] at gY;simp only[rg,wd] at gY;simp only[p];rw[show (λi=>some (i*ie.size,ie.size))=pl from gY];exact hf
   case struct fs=>
    simp only at gY |-;cases hm:fs.toList.mapM (λf=>(P.info? f.type).map λi=>(f.offset,i.size)) with
    | none=>rw[hm] at gY;cases gY
    | some places=>
     rw[hm] at gY;simp only[rg,wd] at gY;simp only[p];rw[show (places.toArray[·]?)=pl from gY];exact hf
theorem xS(h:u7 X g st a w)(parts:Array (Nat × Operand)):∀(k:Nat) i v j d,((parts.map λ(i,x)=>(i,a.eval x)).toList)[k]? = some (i,v)->(parts.toList.map λp=>(p.1,(B8 st.env p.2).w1))[k]? = some (j,d) ->
  i=j/\Rd w g.imm g.μ st.p6 v d:=by
 intro k i v j d c e;rw[Array.toList_map,zD] at c;rw[zD] at e;cases hk:parts.toList[k]? with
 | none=>rw[hk] at c;cases c
 | some p=>
  rw[hk] at c e;simp only[rg,wd,Prod.mk.injEq] at c e;obtain⟨rfl,rfl⟩:=c;obtain⟨rfl,rfl⟩:=e;exact⟨rfl,(h.eval _).w1⟩
variable {o:Oper}{T:TypeId}{parts:Array (Nat × Operand)}{E:TypeId}{z:Nat}
theorem Sf{pl:Nat->Option (Nat × Nat)}{z:Value}{zs cs:List PV}(h:u7 X g st a w)(ho:o.op = .build T parts)(gY:D4 X.P T=some pl)(hz:A6 X.P T=some z)
  (hzs:PV.fH z = .agg zs)(hf:pM pl zs (parts.toList.map λp=>(p.1,(B8 st.env p.2).w1))=some cs)(hsc:cs.all PV.sc=true) :
  ∃u,(execOp a.eval o).run X.P w = .ok (.value u) w/\Rd w g.imm g.μ st.p6 u (.agg cs):=by
 have hr:=ux w g.imm z;rw[hzs] at hr;have hcells:b7 (Rd w g.imm g.μ st.p6) z.cells zs:=by
  obtain⟨vs,e,hn,hc⟩:=(Rd.cl hr:Rd w g.imm g.μ st.p6 z (.agg zs)).iT;subst e;exact⟨hn,hc⟩
 obtain⟨c,j,q,s⟩:=oG pl ((parts.map λ(i,x)=>(i,a.eval x)).toList) (parts.toList.map λp=>(p.1,(B8 st.env p.2).w1)) z.cells zs cs Ψ (xS h parts) hcells hf;refine⟨.agg c,?_,.agg _ _ hsc q s⟩;obtain⟨dst,op,ty,pos,after,guard⟩:=o;simp only at ho;subst ho;exact N8 (Lu gY hz j)
theorem BI{R:Value->PV->Prop}{z:Nat}:∀ {els:List PV} {cs:Array Value},(∀x∈els,x.cells.length=z)->b7 R cs (els.flatMap PV.cells) ->
  ∀(i:Nat) x (j:Nat) y u,els[i]? = some x->x.cells[j]? = some y->cs[i*z+j]? = some u->R u y:=by
 intro els cs hz hc i x j y u hx hy hu;refine hc.2 _ _ _ hu ?_;clear hc hu;induction els generalizing i with
 | nil=>simp at hx
 | cons e els ih=>
  cases i with
  | zero=>
   simp at hx;subst hx;simp only[zcu,zar,zbv];rw[zX (PV.G5 hy)];exact hy
  | succ i=>
   have he:=hz e Ψ;simp only[zbv];rw[wt,zbc,zW Δ,show i*z+z+j-e.cells.length=i*z+j by omega];exact ih (λx hx=>hz x (by simp[hx])) i (Ω hx)
theorem BH{z:Nat}:∀ {els:List PV},(∀x∈els,x.cells.length=z)->(els.flatMap PV.cells).length=els.length*z
 | [],_=>by simp
 | e::els,h=>by
  rw[zbv,zA,BH (λx hx=>h x (by simp[hx])),h e Ψ,zF,wt];omega
theorem DK{len l:Nat}{zv:Value}{els:List PV}{cl:Bool}(h:u7 X g st a w)(ho:o.op = .buildSlice T len parts)(F:∀t,o.dst=some t->t<X.N)(R:l<MB)(hl:st.σ l=none)
  (hE:B7 X.P T=some E)(hz:u5 X.P E=some z)(hzv:A6 X.P E=some zv)(hlen:els.length=len)(hel:∀x∈els,x.el=true/\x.cells.length=z)(hbig:len*z<=2 ^ 24)
  (hf:pM (λi=>some (i*z,z)) (List.replicate (len*z) .junk) (parts.toList.map λp=>(p.1,(B8 st.env p.2).w1))=some (els.flatMap PV.cells))(hcl:cl=true->els.all (λx=>x.cells.all PV.Z1)=true)
  (hK:∀V S w',u7 X V ⟨Z7 st.env o.dst (.sl l),(aj.new l ⟨els,0,true,z,cl⟩).apply st.σ⟩ S w'->K S w'):o.wpIn (FX ρ) n X.P a w K Q:=by
 subst hlen;have hcells:∀e:Array Value,e.size=els.length*z->b7 (Rd w g.imm g.μ st.p6) e (List.replicate (els.length*z) .junk):=λe hs=>⟨by simp[hs],λk v p _ hp=>by
  have:=zk hp;rw[zbi] at this;rw[this.2];exact .cl (.junk v)⟩
 have key:∀e:Array Value,e.size=els.length*z->∃cs,Instr.fill (λi=>some (i*z,z)) e (parts.map λ(i,x)=>(i,a.eval x)).toList=some cs/\b7 (Rd w g.imm g.μ st.p6) cs (els.flatMap PV.cells):=λe hs=>
  oG (λi=>some (i*z,z)) ((parts.map λ(i,x)=>(i,a.eval x)).toList) (parts.toList.map λp=>(p.1,(B8 st.env p.2).w1)) e _ _ Ψ (xS h parts) (hcells e hs) hf
 have G:∃cs,(Instr.buildSlice T els.length (parts.map λ(i,x)=>(i,a.eval x))).run X.P w = .ok (.slice (some ⟨w.heap.size,0,none⟩) els.length els.length) (w.alloc (.cells cs E))/\b7 (Rd w g.imm g.μ st.p6) cs (els.flatMap PV.cells):=by
  have hu:=P5 hE;have s:¬els.length*z > 2 ^ 24:=Δ
  by_cases h0:els.length*z=0
  .obtain⟨cs,A,H⟩:=key ((Array.range (els.length*z)).map (λx=>(#[]:Array Value)[x % (#[]:Array Value).size]!)) Ψ;refine⟨cs,?_,H⟩;simp only[Instr.buildSlice,zy,zR hu,zm,J0 hz,za s,zb h0,zau,A];rfl
  .obtain⟨cs,A,H⟩:=key ((Array.range (els.length*z)).map (λx=>zv.cells[x % zv.cells.size]!)) Ψ;refine⟨cs,?_,H⟩;simp only[Instr.buildSlice,zy,zR hu,zm,J0 hz,za s,za h0,zau,nQ hzv,A];rfl
 obtain⟨cs,hr,hc⟩:=G;have hfl:=BH (els:=els) (λx hx=>(hel x hx).2);have A:=h.xY (l:=l) (els:=els) (T:=E) (C:=els.length) (z:=z) (opn:=true) (cl:=cl) cs R hl (zC _) (by rw[hc.1,hfl]) hel (λi x j y u hx hy hu=>by
  have:=BI (λx hx=>(hel x hx).2) hc i x j y u hx hy hu;refine⟨this,λq=>this.Z1 ?_⟩;have:=zg.1 (hcl q) x (zk hx);exact zg.1 this y (zk hy))
 refine I0 (λc=>Ωg) ?_ (hK _ _ _ (A.put F (gO ⟨_,p7 _ _ _⟩ (p7 _ _ _))));obtain⟨dst,op,ty,pos,after,guard⟩:=o;simp only at ho;subst ho;exact N8 hr
theorem u7.Ya(h:u7 X g st a w)(cs:Array Value)(T:TypeId):u7 X ⟨λb o=>g.imm b o\/b=w.heap.size,g.μ⟩ st a (w.alloc (.cells cs T)):=by
 have c:=h.alloc (.cells cs T);refine c.move (imm':=λb o=>g.imm b o\/b=w.heap.size) ⟨λ_ _ q=>.inl q,λ_ _ _=>rfl,λ_ _ _ _ q _=>q⟩ (λl r b o hl ho=>⟨rfl,rfl,?_⟩) (λb o q=>?_) (λb o q=>?_) c.below (λk x hx _=>hx) (λb o x q hx hm=>q.elim id λq=>by
  subst q;rw[World.alloc_heap_new] at hx;cases hx;cases hm)
 .rintro (q | q);·exact h.ownimm l r b o hl ho q
  .have:=(h.fz hl ho).2;omega
 .rcases q with q | q
  .exact c.immlt b o q
  .subst q;simp
 .rcases q with q | q
  .exact h.immsub b o q
  .right;have:=h.below.size;omega
theorem OT{len:Nat}{zv:Value}{els:List PV}(h:u7 X g st a w)(ho:o.op = .buildSlice T len parts)(C:∀t,o.dst=some t->t<X.N)
  (hE:B7 X.P T=some E)(hz:u5 X.P E=some z)(hzv:A6 X.P E=some zv)(hlen:els.length=len)(hel:∀x∈els,x.el=true/\x.cells.length=z)(hbig:len*z<=2 ^ 24)
  (hf:pM (λi=>some (i*z,z)) (List.replicate (len*z) .junk) (parts.toList.map λp=>(p.1,(B8 st.env p.2).w1))=some (els.flatMap PV.cells))(hcl:els.all (λx=>x.cells.all PV.Z1)=true)
  (hK:∀g' V w',u7 X g' ⟨Z7 st.env o.dst (.lst true els),st.σ⟩ V w'->K V w'):o.wpIn (FX ρ) n X.P a w K Q:=by
 subst hlen;have hcells:∀e:Array Value,e.size=els.length*z->b7 (Rd w g.imm g.μ st.p6) e (List.replicate (els.length*z) .junk):=λe hs=>⟨by simp[hs],λk v p _ hp=>by
  have:=zk hp;rw[zbi] at this;rw[this.2];exact .cl (.junk v)⟩
 have key:∀e:Array Value,e.size=els.length*z->∃cs,Instr.fill (λi=>some (i*z,z)) e (parts.map λ(i,x)=>(i,a.eval x)).toList=some cs/\b7 (Rd w g.imm g.μ st.p6) cs (els.flatMap PV.cells):=λe hs=>
  oG (λi=>some (i*z,z)) ((parts.map λ(i,x)=>(i,a.eval x)).toList) (parts.toList.map λp=>(p.1,(B8 st.env p.2).w1)) e _ _ Ψ (xS h parts) (hcells e hs) hf
 have G:∃cs,(Instr.buildSlice T els.length (parts.map λ(i,x)=>(i,a.eval x))).run X.P w = .ok (.slice (some ⟨w.heap.size,0,none⟩) els.length els.length) (w.alloc (.cells cs E))/\b7 (Rd w g.imm g.μ st.p6) cs (els.flatMap PV.cells):=by
  have hu:=P5 hE;have s:¬els.length*z > 2 ^ 24:=Δ
  by_cases h0:els.length*z=0
  .obtain⟨cs,R,S⟩:=key ((Array.range (els.length*z)).map (λx=>(#[]:Array Value)[x % (#[]:Array Value).size]!)) Ψ;refine⟨cs,?_,S⟩;simp only[Instr.buildSlice,zy,zR hu,zm,J0 hz,za s,zb h0,zau,R];rfl
  .obtain⟨cs,R,S⟩:=key ((Array.range (els.length*z)).map (λx=>zv.cells[x % zv.cells.size]!)) Ψ;refine⟨cs,?_,S⟩;simp only[Instr.buildSlice,zy,zR hu,zm,J0 hz,za s,za h0,zau,nQ hzv,R];rfl
 obtain⟨cs,hr,hc⟩:=G;have hfl:=BH (els:=els) (λx hx=>(hel x hx).2);have hS:=h.Ya cs E;have A:∀(i:Nat) x (j:Nat) y,els[i]? = some x->x.cells[j]? = some y->∃u,cs[i*z+j]? = some u/\Rd0 w g.imm u y:=λi x j y hx hy=>by
  have H:=zk hx;have hj:=PV.G5 hy;rw[(hel x H).2] at hj;have hi:=C6 hx;have F:i*z+j<cs.size:=by
   rw[hc.1,hfl];have:(i+1)*z<=els.length*z:=zp _ Δ;rw[wt,zbc] at this;omega
  refine⟨_,zq F,?_⟩;have:=BI (λx hx=>(hel x hx).2) hc i x j y _ hx hy (zq F);exact this.Z1 (zg.1 (zg.1 hcl x H) y (zk hy))
 have hX:Ext w g.imm (w.alloc (.cells cs E)) (λb o=>g.imm b o\/b=w.heap.size):=by
  have e1:=Ext.alloc (w:=w) (imm:=g.imm) h.immlt (.cells cs E);exact⟨λb o q=>.inl q,e1.cl,e1.ob⟩
 refine I0 (λc=>Ωg) ?_ (hK _ _ _ (hS.put C (v:=.slice (some ⟨w.heap.size,0,none⟩) els.length els.length) ?_))
 .obtain⟨dst,op,ty,pos,after,guard⟩:=o;simp only at ho;subst ho;exact N8 hr
 .refine .cl (.lst (some ⟨w.heap.size,0,none⟩) els.length z true els (λi j=>(cs[i*z+j]?).getD undef) (zC _) (λ_=>rfl) (λq=>Γ) hel (λh0=>⟨w.heap.size,0,rfl,λi x j y hx hy=>⟨.inr rfl,?_⟩⟩) (λi x j y hx hy=>?_))
  .obtain⟨u,k1,_⟩:=A i x j y hx hy;rw[k1,zar];simp only[un];rw[World.cell?_alloc_new];exact k1
  .obtain⟨u,k1,k2⟩:=A i x j y hx hy;rw[k1];exact k2.mono hX
theorem KV{x y:Operand}{l b:Nat}{k k':IntKind}{m:Int}{v:Value}(h:u7 X g st a w)(ho:o.op = .makeSlice T x y)(F:∀t,o.dst=some t->t<X.N)(hlm:l<MB)(hl:st.σ l=none)
  (hx:B8 st.env x = .int k m)(hy:B8 st.env y = .int k' m)(h0:0<=m)(hE:B7 X.P T=some E)(hz:u5 X.P E=some z)(hv:A6 X.P E=some v)
  (hel:((PV.fH v).w1).el=true)(hvz:((PV.fH v).w1).cells.length=z)(hb:J7 X.P E=some b)(hbm:b*m<=281474976710656)(hm:m<=9223372036854775807)
  (hK:∀g' a' w',u7 X g' ⟨Z7 st.env o.dst (.sl l),(aj.new l ⟨List.replicate m.toNat ((PV.fH v).w1),0,true,z,true⟩).apply st.σ⟩ a' w'->K a' w'):o.wpIn (FX ρ) n X.P a w K Q:=by
 obtain⟨i,hi,rfl,rfl,V⟩:=Gp hz hb hv;have hr:=run_make w T E i v (P5 hE) hi V k k' m m h0 (zan _) hbm hm;have hrd:Rd w g.imm g.μ st.p6 v (PV.fH v).w1:=.cl (ux w g.imm v).w1;obtain⟨hs,A⟩:=hrd.cells hel;have q:∀f cap,(PV.fH v).w1 ≠ .fn f cap:=λf cap e=>by
  have:PV.fH v = .fn f cap:=by cases hd:PV.fH v <;> rw[hd] at e <;> first | exact e | cases e
  unfold PV.fH at this;split at this;·split at this <;> cases this
  .split at this <;> cases this
  .unfold PV.DJ at this;split at this <;> cases this
 have p:((PV.fH v).w1).lM=true:=by
  have S:=GJ v;cases hd:PV.fH v <;> rw[hd] at S <;> first | exact S | skip
  simp only[PV.w1,PV.lM,zg,zn] at S |-;rintro y ⟨c,hc,rfl⟩;have:=S c hc;cases c <;> first | rfl | exact this
 have s:∀(j:Nat) u y,v.cells[j]? = some u->((PV.fH v).w1).cells[j]? = some y->Rd0 w g.imm u y:=λj u y hu hy=>(A j u y hu hy).Z1 (by
  have hm:=zk hy;revert q p hel hm
  generalize (PV.fH v).w1=d;intro hel q p hm;cases d;case agg cs=>exact zg.1 (show cs.all PV.Z1=true from p) y hm
  case fn f cap=>exact absurd rfl (q _ _)
  case tup cs=>cases hel
  case junk=>cases hel
  all_goals first | (obtain rfl:=zu.1 hm;first | exact p | rfl) | exact absurd hm zct)
 have h1:=h.xY (l:=l) (els:=List.replicate m.toNat ((PV.fH v).w1)) (T:=E) (C:=m.toNat) (z:=i.size) (opn:=true) (cl:=true) (madeCells v.cells (m.toNat*i.size)) hlm hl Ψ (by simp[madeCells])
  (λx hx=>by rw[zbi] at hx;rw[hx.2];exact⟨hel,hvz⟩) (λi' x j y u hx hy hu=>by
   have R:=zk hx;rw[zbi] at R;obtain⟨_,rfl⟩:=R;have hj:=PV.G5 hy;rw[hvz] at hj;have hlt:i'*i.size+j<m.toNat*i.size:=by
    have:=C6 hx;simp at this;have:(i'+1)*i.size<=m.toNat*i.size:=zp _ Δ;rw[wt,zbc] at this;omega
   have hsz:v.cells.size=i.size:=by rw[hs,hvz]
   have H:v.cells[j]? = some u:=by
    simp only[madeCells,zch,Array.getElem?_range,hlt,ut,rg,wd,hsz,(QO (i:=i') hj).2] at hu;rw[<-hu,getElem!_pos v.cells j Δ];exact zq Δ
   exact⟨A j u y H hy,λ_=>s j u y H hy⟩)
 have e1:a.eval x = .int k m:=by have:=h.eval x;rw[hx] at this;exact this.U3
 have e2:a.eval y = .int k' m:=by have:=h.eval y;rw[hy] at this;exact this.U3
 have G:=h1.put F (v:=.slice (some ⟨w.heap.size,0,none⟩) m.toNat m.toNat) (d:=.sl l) (by
  have:=gO (w':=w.alloc (.cells (madeCells v.cells (m.toNat*i.size)) E)) (imm:=g.imm) (μ:=A3 g.μ l ⟨some ⟨w.heap.size,0,none⟩,(List.replicate m.toNat ((PV.fH v).w1)).length,m.toNat,i.size⟩)
   (p6:=St.p6 ⟨st.env,A3 st.σ l (some ⟨List.replicate m.toNat ((PV.fH v).w1),0,true,i.size,true⟩)⟩) (l:=l) ⟨_,p7 _ _ _⟩ (p7 _ _ _)
  simpa using this)
 refine I0 (λc=>Ωg) ?_ (hK _ _ _ G);obtain⟨dst,op,ty,pos,after,guard⟩:=o;simp only at ho;subst ho;simp only[execOp,e1,e2];exact N8 hr
end
end Go.Pw
namespace Go.Pw
open Go.RowKit
section
variable{X:Ctx}{g:Gh}{st:St}{a:Act}{w:World}{n:Nat}{K:Act->World->Prop}{Q:Exit->Act->World->Prop}{ρ:Option Nat}{P:Program}
theorem uH.val(h:u7 X g st a w){x:Option Operand}{d m:Nat}(hb:uH (B8 st.env) x d m):(x.map a.eval=none/\m=d)\/∃k,x.map a.eval=some (.int k m):=by
 cases x with
 | none=>exact .inl ⟨rfl,hb⟩
 | some y=>
  obtain⟨k,hk⟩:=hb;have:=h.eval y;rw[hk] at this;exact .inr ⟨k,by simp[this.U3]⟩
theorem rA{k:IntKind}{i y:Nat}{code:BoundsCode}(h:i<=y):(Instr.sliceBound (.int k i) y code).run P w = .ok i w:=by
 simp only[Instr.sliceBound,asIntOf,zy,zau,zm];rw[zb ⟨Δ,Δ⟩];rfl
theorem Am (h : u7 X g st a w) {lo hi mx : Option Operand} {len cap i j k : Nat} (hlo : uH (B8 st.env) lo 0 i) (hhi : uH (B8 st.env) hi len j) (hmx : uH (B8 st.env) mx cap k)
    (hmh : mx.isSome = true -> hi.isSome = true) (hij : i <= j) (hjk : j <= k) (hk : k <= cap) :
    (Instr.sliceBounds true len cap (lo.map a.eval) (hi.map a.eval) (mx.map a.eval)).run P w = .ok (i, j, k) w := by
  rcases uH.val h hlo with ⟨c, e1'⟩ | ⟨k1, c⟩ <;> rcases uH.val h hhi with ⟨e, e2'⟩ | ⟨k2, e⟩ <;> rcases uH.val h hmx with ⟨p, e3'⟩ | ⟨u, p⟩ <;> rw [c, e, p] <;>
    first
      | (exfalso
         have q : mx.isSome = true := by cases mx <;> simp_all
         have s := hmh q;cases hi <;> simp_all
         done)
      | (simp only [Instr.sliceBounds, zy, zau, zm, rA, hij, hjk, hk]
         try subst e1'
         try subst e2'
         try subst e3'
         try simp only [rA, hij, hjk, zm]
         try rfl)
theorem px(h:u7 X g st a w){T E:TypeId}{z:Nat}{A:Option Addr}{lo hi mx:Option Operand}{len cap i j k:Nat}(hE:B7 P T=some E)(hz:u5 P E=some z)
  (hlo:uH (B8 st.env) lo 0 i)(hhi:uH (B8 st.env) hi len j)(hmx:uH (B8 st.env) mx cap k)
  (hmh:mx.isSome=true->hi.isSome=true)(hij:i<=j)(hjk:j<=k)(hk:k<=cap) :
  (Instr.sliceAt T (.slice A len cap) (lo.map a.eval) (hi.map a.eval) (mx.map a.eval)).run P w = .ok (.slice (if k=i then A else A.map (·.add (i*z))) (j-i) (k-i)) w:=by
 have hu:=P5 hE;have hb:=Am (P:=P) h hlo hhi hmx hmh hij hjk hk;simp only[Instr.sliceAt,Instr.slice,zy,zR hu,zm,hb,J0 hz];rfl
theorem mV{α:Type}{xs:List α}{i j p:Nat}{x:α}(h:((xs.take j).drop i)[p]? = some x):i+p<j/\xs[i+p]? = some x:=by
 rw[zao] at h;have:=C6 h;simp at this;rw[zas Δ] at h;exact⟨Δ,h⟩
theorem OV{o:Oper}{T E:TypeId}{z:Nat}{x:Operand}{lo hi mx:Option Operand}{t:Bool}{xs:List PV}{i j k:Nat}(h:u7 X g st a w)(ho:o.op = .slice T x lo hi mx)
  (hx:B8 st.env x = .lst t xs)(hE:B7 X.P T=some E)(hz:u5 X.P E=some z)(hel:∀e∈xs,e.cells.length=z)(hlo:uH (B8 st.env) lo 0 i)(hhi:uH (B8 st.env) hi xs.length j)
  (hmx:uH (B8 st.env) mx xs.length k)(hmh:mx.isSome=true->hi.isSome=true)(hij:i<=j)(hjk:j<=k)(hk:k<=xs.length) :
  ∃u,(execOp a.eval o).run X.P w = .ok (.value u) w/\Rd w g.imm g.μ st.p6 u (.lst (if mx.isSome then decide (j=k) else t&&decide (j=xs.length)) ((xs.take j).drop i)):=by
 have hv:=h.eval x;rw[hx] at hv;obtain⟨A,c,z',u,e,h1,h2,h3,S,h5,h6⟩:=hv.gp;obtain⟨m,hm,G,H,N⟩:∃m,uH (B8 st.env) mx c m/\j<=m/\m<=c/\((if mx.isSome then decide (j=k) else t&&decide (j=xs.length))=true->m=j):=by
  cases mx with
  | none=>
   refine⟨c,rfl,Δ,zC _,λq=>?_⟩;simp at q;have:=h2 q.1;omega
  | some y=>exact⟨k,hmx,hjk,Δ,λq=>by simp at q;omega⟩
 have hr:=px (P:=X.P) h (A:=A) hE hz hlo hhi hm hmh hij G H;have hlen:((xs.take j).drop i).length=j-i:=by simp;omega
 refine⟨.slice (if m=i then A else A.map (·.add (i*z))) (j-i) (m-i),?_,?_⟩
 .obtain⟨dst,op,ty,pos,after,guard⟩:=o;simp only at ho;subst ho;simp only[execOp,e];exact N8 hr
 .rw[<-hlen];refine .cl (.lst _ _ z _ _ (λp q=>u (i+p) q) Δ (λq=>by have:=N q;omega) (λq=>?_) (λx' C=>?_) (λh0=>?_) (λp x' q y C hy=>?_))
  .have:A=none:=by
    split at q;·exact q
    .cases A;·rfl
     .cases q
   have:=h3 this;omega
  .have:=zad (za7 C);exact⟨(S x' this).1,hel x' this⟩
  .have R:¬m=i:=by omega
   obtain⟨b,s,rfl,h7⟩:=h5 Δ;rw[za R];refine⟨b,s+i*z,by simp[T2],λp x' q y C hy=>?_⟩;obtain⟨_,V⟩:=mV C;have F:=zk V;have:z'=z:=by rw[<-(S x' F).2,hel x' F]
   subst this;have:=h7 (i+p) x' q y V hy;rw[wt,<-t8 s] at this;exact this
  .exact h6 _ _ _ _ (mV C).2 hy
theorem OW{o:Oper}{T E:TypeId}{z:Nat}{x:Operand}{lo:Option Operand}{s l i:Nat}{r:Row}(h:u7 X g st a w)(ho:o.op = .slice T x lo none none)(hdst:∀t,o.dst=some t->t<X.N)(hlm:l<MB)(hl:st.σ l=none)
  (hx:B8 st.env x = .sl s)(hs:st.σ s=some r)(hop:r.opn=true)(hE:B7 X.P T=some E)(hz:u5 X.P E=some z)(hrz:r.z=z)(hlo:uH (B8 st.env) lo 0 i)(hi:i<=r.els.length)
  (hK:∀g' a' w',u7 X g' ⟨Z7 st.env o.dst (.sl l),(aj.app s l ⟨r.els.drop i,r.els.length-i,true,z,r.cl⟩).apply st.σ⟩ a' w'->K a' w'):o.wpIn (FX ρ) n X.P a w K Q:=by
 have hsl:s≠l:=λq=>by rw[q,hl] at hs;cases hs
 simp only[aj.apply,hs] at hK;have hv:=h.eval x;rw[hx] at hv;obtain⟨hp,e⟩:=hv.fC;have G:=h.rows s r hs;have hn:=G.n;have hC:=G.C;have S:(g.μ s).z=z:=by rw[G.z,hrz]
 have hr:=px (P:=X.P) (mx:=none) (hi:=none) h (A:=(g.μ s).A) (len:=(g.μ s).n) (cap:=(g.μ s).C) (j:=(g.μ s).n) (k:=(g.μ s).C) hE hz hlo rfl rfl (λq=>Γ) Δ hC (zC _);have hF:=h.oe hs r.els.length (by have:=G.lo;omega) (zC _) false (λq=>Γ);have hFl:A3 st.σ s (some { r with lo:=r.els.length,opn:=false }) l=none:=by rw[o0 _ _ (zaz hsl)];exact hl
 have hRF:=hF.rows s { r with lo:=r.els.length,opn:=false } (p7 _ _ _);generalize H:(if (g.μ s).C=i then (g.μ s).A else (g.μ s).A.map (·.add (i*z)))=A' at hr;have hAt:∀b s',A'=some ⟨b,s',none⟩->i<(g.μ s).C->∃s0,(g.μ s).A=some ⟨b,s0,none⟩/\s'=s0+i*z:=by
  intro b s' q R;obtain⟨b0,s0,hA⟩:=G.spot Δ;rw[<-H,za Δ,hA] at q;simp only[rg,wd,T2,Addr.mk.injEq] at q;exact⟨s0,by rw[hA,q.1],q.2.1.symm⟩
 have F:∀b o',M1 ⟨A',(g.μ s).n-i,(g.μ s).C-i,z⟩ ⟨r.els.drop i,r.els.length-i,true,z,r.cl⟩ b o'->M1 (g.μ s) r b o'/\∃s0,(g.μ s).A=some ⟨b,s0,none⟩/\s0+r.els.length*z<=o':=by
  rintro b o' ⟨s',hA,q1,q2⟩;simp only[ut] at q1 q2;have R:i<(g.μ s).C:=by
   rcases zI i (g.μ s).C with q | q
   .exact q
   .have:(g.μ s).C-i=0:=by omega
    rw[this] at q2;omega
  obtain⟨s0,h0,rfl⟩:=hAt b s' hA R;have e1:(r.els.length-i)*z=r.els.length*z-i*z:=Nat.sub_mul _ _ _;have e2:i*z<=r.els.length*z:=zp _ hi;have e3:((g.μ s).C-i)*z=(g.μ s).C*z-i*z:=Nat.sub_mul _ _ _;have e4:i*z<=(g.μ s).C*z:=zp _ Δ;have e5:r.lo*z<=r.els.length*z:=zp _ (by have:=G.lo;omega);refine⟨⟨s0,h0,?_,?_⟩,s0,h0,Δ⟩;·rw[S];omega
  .rw[hop,zb rfl,S];omega
 have hN:=hF.row (l:=l) (m:=⟨A',(g.μ s).n-i,(g.μ s).C-i,z⟩) (r:=⟨r.els.drop i,r.els.length-i,true,z,r.cl⟩) hlm hFl
  ⟨by simp[hn],rfl,ΩH,ΩH,λe he=>by rw[<-hrz];exact G.el e (za7 he),λq=>?_,λq=>?_,λp x' q y V hy=>?_,λb o' q=>G.own b o' (F b o' q).1⟩
  (λl' r' b o' q ho' k=>?_) (λb o' q k=>?_)
 .refine I0 (λc=>Ωg) ?_ (hK _ _ _ (hN.put hdst (gO (l:=l) (m:=⟨A',(g.μ s).n-i,(g.μ s).C-i,z⟩) ⟨_,p7 _ _ _⟩ (p7 _ _ _))));obtain⟨dst,op,ty,pos,after,guard⟩:=o;simp only at ho;subst ho;simp only[execOp,e];exact N8 hr
 .simp only at q |-;have hAn:(g.μ s).A=none:=by
   rw[<-H] at q;split at q;·exact q
   .cases hA:(g.μ s).A;·rfl
    .rw[hA] at q;cases q
  have:=G.nil hAn;omega
 .simp only at q |-;obtain⟨b0,s0,hA⟩:=G.spot Δ;rw[<-H,za Δ,hA];exact⟨b0,s0+i*z,by simp[T2]⟩
 .simp only at V |-;rw[zao] at V;have R:=C6 V;obtain⟨b,s0,u,k1,k2,k3,k4,k5⟩:=hRF.cell (i+p) x' q y V hy;simp only at k1 k2 k4 k5;rw[S,wt,<-t8 s0] at k2 k4;refine⟨b,s0+i*z,u,?_,k2,k3,λ_=>k4 R,k5⟩;rw[<-H,za Δ,k1];simp[T2]
 .obtain⟨k1,s0,h0,k2⟩:=F b o' k;by_cases el:l'=s
  .subst el;simp only[p7] at q;cases q;obtain⟨s2,hA2,m1,m2⟩:=ho';simp only[zM,pu] at m1 m2;rw[hn] at m2;omega
  .simp only[o0 _ _ el] at q;exact h.disj l' s r' r el q hs b o' ho' k1
 .obtain⟨k1,s0,h0,k2⟩:=F b o' q;rcases k with k | ⟨r2,s2,hr2,_,hA2,k3⟩
  .exact h.ownimm s r b o' hs k1 k
  .rw[h0] at hA2;cases hA2;rw[S] at k3;omega
theorem OU{o:Oper}{T E:TypeId}{z:Nat}{x:Operand}{lo hi:Option Operand}{s i j:Nat}{r:Row}(h:u7 X g st a w)(ho:o.op = .slice T x lo hi none)(H:∀t,o.dst=some t->t<X.N)
  (hx:B8 st.env x = .sl s)(hs:st.σ s=some r)(hcl:r.cl=true)(hE:B7 X.P T=some E)(hz:u5 X.P E=some z)(hrz:r.z=z)(hlo:uH (B8 st.env) lo 0 i)(hhi:uH (B8 st.env) hi r.els.length j)(hij:i<=j)(hj:j<=r.els.length)
  (hK:∀g' a' w',u7 X g' ⟨Z7 st.env o.dst (.lst false ((r.els.take j).drop i)),(aj.oe [s]).apply st.σ⟩ a' w'->K a' w'):o.wpIn (FX ρ) n X.P a w K Q:=by
 have hv:=h.eval x;rw[hx] at hv;obtain⟨hp,e⟩:=hv.fC;have G:=h.rows s r hs;have hn:=G.n;have hC:=G.C;have V:(g.μ s).z=z:=by rw[G.z,hrz]
 have hr:=px (P:=X.P) (mx:=none) h (A:=(g.μ s).A) (len:=(g.μ s).n) (cap:=(g.μ s).C) (k:=(g.μ s).C) hE hz hlo (by rw[hn];exact hhi) rfl (λq=>Γ) hij Δ (zC _);obtain⟨imm',hF,hX,S⟩:=h.V1 [s];have hsh:=S s Ψ r hs;have hlen:((r.els.take j).drop i).length=j-i:=by simp;omega
 refine I0 (λc=>Ωg) (v:=.slice (if (g.μ s).C=i then (g.μ s).A else (g.μ s).A.map (·.add (i*z))) (j-i) ((g.μ s).C-i)) (w':=w) ?_ (hK _ _ _ (hF.put H ?_))
 .obtain⟨dst,op,ty,pos,after,guard⟩:=o;simp only at ho;subst ho;simp only[execOp,e];exact N8 hr
 .rw[<-hlen];have hcell:∀(p:Nat) x' (q:Nat) y b s0,((r.els.take j).drop i)[p]? = some x'->x'.cells[q]? = some y->(g.μ s).A=some ⟨b,s0,none⟩ ->
    imm' b (s0+i*z+p*z+q)/\∃u,w.cell? ⟨b,s0+i*z+p*z+q,none⟩=some u/\Rd0 w imm' u y:=by
   intro p x' q y b s0 F hy hA;obtain⟨_,hg⟩:=mV F;obtain⟨u,k1,_,k3⟩:=h.lX hs hg hy hA;have k4:=hsh (i+p) x' q y b s0 hg hy hA;rw[V,wt,<-t8 s0] at k1 k4;exact⟨k4,u,k1,(k3 hcl).mono hX⟩
  refine .cl (.lst _ _ z _ _ (λp q=>match (g.μ s).A with | some ⟨b,s0,_⟩=>(w.cell? ⟨b,s0+i*z+p*z+q,none⟩).getD undef | none=>undef) Δ (λq=>Γ) (λq=>?_) (λx' F=>?_) (λh0=>?_) (λp x' q y F hy=>?_))
  .have R:(g.μ s).A=none:=by
    split at q;·exact q
    .cases hA:(g.μ s).A;·rfl
     .rw[hA] at q;cases q
   have:=G.nil R;omega
  .rw[<-hrz];exact G.el x' (zad (za7 F))
  .obtain⟨b,s0,hA⟩:=G.spot Δ;refine⟨b,s0+i*z,by rw[za Δ,hA];simp[T2],λp x' q y F hy=>?_⟩;obtain⟨k1,u,k2,_⟩:=hcell p x' q y b s0 F hy hA;refine⟨k1,?_⟩;rw[hA];simp only[k2,un]
  .have h0:=C6 F;obtain⟨b,s0,hA⟩:=G.spot Δ;obtain⟨k1,u,k2,k3⟩:=hcell p x' q y b s0 F hy hA;rw[hA];simp only[k2,un];exact k3
end
end Go.Pw
