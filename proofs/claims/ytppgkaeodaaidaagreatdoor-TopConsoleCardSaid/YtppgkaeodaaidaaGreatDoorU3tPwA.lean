/-
 Several texts of one kind, one behind the other.
-/
import Derived.OrdersIn
import Derived.TacticsIn
import Derived.Below
import Derived.RangeFuncOwn
import Derived.Lib.LaidTab
import Derived.Lib.ItoaNum
import Derived.Laws.IdiomCopy
import Derived.Laws.Append
import Derived.Laws.MakeOwn
import Derived.IntWalk
import Derived.Laws.AppendOwn
set_option linter.unusedVariables false
set_option linter.unusedSimpArgs false
set_option linter.unusedSectionVars false
namespace Go.Pw
open Go.RowKit
inductive PV where
 | bool (b:Bool)
 | int (k:IntKind) (n:Int)
 | str (s:ByteArray)
 | agg (cs:List PV)
 | tup (vs:List PV)
 | lst (tight:Bool) (xs:List PV)
 | sl (l:Nat)
 | mp (l:Nat)
 | mapc (es:List PV)
 | ptr (l i f:Nat)
 | rptr (cs:List PV)
 | fn (f:Fn) (cap:List PV)
 | nilfn
 | abs (R:World→(Nat→Nat→Prop)→Value→Prop)
 | junk
def PV.cells:PV→List PV
 | .agg cs=>cs
 | .mapc _=>[]
 | d=>[d]
def PV.sc:PV→Bool
 | .agg _ | .tup _ | .junk | .mapc _=>false
 | _=>true
def PV.el:PV→Bool
 | .agg cs=>cs.all PV.sc
 | .mapc _=>true
 | d=>d.sc
theorem PV.a4W{d:PV}(h:d.el=true):∀y∈d.cells,y.sc=true:=by
 cases d <;> simp[PV.el,PV.cells,PV.sc] at * <;> exact h
structure A6 where
 A:Option Addr
 n:Nat
 C:Nat
 z:Nat
def O3:Obj→Bool
 | .map .. | .stringIter .. => true
 | _=>false
theorem C9{o:Obj}(h:O3 o=true):o.isCells=false:=by cases o <;> first | rfl | cases h
structure Ext (w:World) (imm:Nat→Nat→Prop) (w':World) (imm':Nat→Nat→Prop):Prop where
 im:∀b o,imm b o→imm' b o
 cl:∀b o,imm b o→w'.cell? ⟨b,o,none⟩=w.cell? ⟨b,o,none⟩
 ob:∀b o x,imm b o→w.heap[b]? = some x→O3 x=true→w'.heap[b]? = some x
theorem Ext.refl(w:World)(imm:Nat→Nat→Prop):Ext w imm w imm:=⟨λ_ _ h=>h,λ_ _ _=>rfl,λ_ _ _ _ h _=>h⟩
theorem Ext.trans{w w' w'':World}{i i' i'':Nat→Nat→Prop}(h:Ext w i w' i')(k:Ext w' i' w'' i''):Ext w i w'' i'':=
 ⟨λb o q=>k.im b o (h.im b o q),λb o q=>(k.cl b o (h.im b o q)).trans (h.cl b o q),
  λb o x q hx hc=>k.ob b o x (h.im b o q) (h.ob b o x q hx hc) hc⟩
def one:Value→Bool
 | .agg _ | .tuple _=>false
 | _=>true
inductive Rd0 (w:World) (imm:Nat→Nat→Prop):Value→PV→Prop
 | bool (b:Bool):Rd0 w imm (.bool b) (.bool b)
 | int (k:IntKind) (n:Int):Rd0 w imm (.int k n) (.int k n)
 | str (s:ByteArray):Rd0 w imm (.string s) (.str s)
 | agg (vs:Array Value) (cs:List PV) (hsc:cs.all PV.sc=true) (hn:vs.size=cs.length)
   (h:∀(i:Nat) v c,vs[i]? = some v→cs[i]? = some c→Rd0 w imm v c):Rd0 w imm (.agg vs) (.agg cs)
 | tup (vs:Array Value) (cs:List PV) (hn:vs.size=cs.length)
   (h:∀(i:Nat) v c,vs[i]? = some v→cs[i]? = some c→Rd0 w imm v c):Rd0 w imm (.tuple vs) (.tup cs)
 | lst (A:Option Addr) (c z:Nat) (t:Bool) (xs:List PV) (u:Nat→Nat→Value) (hc:xs.length≤c) (ht:t=true→c=xs.length)
   (hnil:A=none→c=0) (hel:∀x∈xs,x.el=true∧x.cells.length=z)
   (hA:0<xs.length→∃b s,A=some ⟨b,s,none⟩∧∀(i:Nat) x (j:Nat) y,xs[i]? = some x→x.cells[j]? = some y →
    imm b (s+i*z+j)∧w.cell? ⟨b,s+i*z+j,none⟩=some (u i j))
   (h:∀(i:Nat) x (j:Nat) y,xs[i]? = some x→x.cells[j]? = some y→Rd0 w imm (u i j) y):Rd0 w imm (.slice A xs.length c) (.lst t xs)
 | rptr (b o:Nat) (cs:List PV) (u:Nat→Value) (hsc:cs.all PV.sc=true)
   (hA:∀(j:Nat) y,cs[j]? = some y→imm b (o+j)∧w.cell? ⟨b,o+j,none⟩=some (u j))
   (h:∀(j:Nat) y,cs[j]? = some y→Rd0 w imm (u j) y):Rd0 w imm (.pointer (some ⟨b,o,none⟩)) (.rptr cs)
 | fn (f:Fn) (vs:Array Value) (cap:List PV) (hn:vs.size=cap.length)
   (h:∀(i:Nat) v c,vs[i]? = some v→cap[i]? = some c→Rd0 w imm v c):Rd0 w imm (.func f #[] vs) (.fn f cap)
 | nilfn:Rd0 w imm .nilFunc .nilfn
 | abs (R:World→(Nat→Nat→Prop)→Value→Prop) (v:Value) (ho:one v=true) (h:∀w' imm',Ext w imm w' imm'→R w' imm' v):Rd0 w imm v (.abs R)
 | junk (v:Value):Rd0 w imm v .junk
def a0G(w:World)(imm:Nat→Nat→Prop)(b:Nat)(es:List PV):Prop:=
 (∃ents clock,w.heap[b]? = some (.map ents clock)∧ents.size=es.length∧∀(i:Nat) e,ents[i]? = some e→∃k v,es[i]? = some (.tup [k,v])∧Rd0 w imm e.key k∧Rd0 w imm e.val v) ∨
 ∃s pos,w.heap[b]? = some (.stringIter s pos)∧es = [.str s,.int .i64 (pos:Nat)]
theorem a0G.obj{w:World}{imm:Nat→Nat→Prop}{b:Nat}{es:List PV}(h:a0G w imm b es):∃o,w.heap[b]? = some o∧O3 o=true:=by
 rcases h with ⟨ents,clock,h1,_⟩ | ⟨s,pos,h1,_⟩;·exact⟨_,h1,rfl⟩
 ·exact⟨_,h1,rfl⟩
abbrev MB:Nat:=5000000
theorem Rd0.mono{w:World}{imm:Nat→Nat→Prop}{w':World}{imm':Nat→Nat→Prop}
  (he:Ext w imm w' imm'){v:Value}{d:PV}(h:Rd0 w imm v d):Rd0 w' imm' v d:=by
 induction h with
 | bool b=>exact .bool b
 | int k n=>exact .int k n
 | str s=>exact .str s
 | agg vs cs hsc hn _ ih=>exact .agg vs cs hsc hn ih
 | tup vs cs hn _ ih=>exact .tup vs cs hn ih
 | lst A c z t xs u hc ht hnil hel hA _ ih=>
  refine .lst A c z t xs u hc ht hnil hel (λh0=>?_) ih;obtain⟨b,s,rfl,hcell⟩:=hA h0;exact⟨b,s,rfl,λi x j y hx hy=>⟨he.im _ _ (hcell i x j y hx hy).1,(he.cl _ _ (hcell i x j y hx hy).1).trans (hcell i x j y hx hy).2⟩⟩
 | rptr b o cs u hsc hA _ ih=>
  exact .rptr b o cs u hsc (λj y hy=>⟨he.im _ _ (hA j y hy).1,(he.cl _ _ (hA j y hy).1).trans (hA j y hy).2⟩) ih
 | fn f vs cap hn _ ih=>exact .fn f vs cap hn ih
 | nilfn=>exact .nilfn
 | abs R v ho h=>exact .abs R v ho λw'' imm'' h'=>h w'' imm'' (he.trans h')
 | junk v=>exact .junk v
theorem Rd0.one{w:World}{imm:Nat→Nat→Prop}{v:Value}{d:PV}(h:Rd0 w imm v d)(hs:d.sc=true):one v=true:=by
 cases h <;> first | rfl | assumption | (simp[PV.sc] at hs)
theorem a0G.mono{w:World}{imm:Nat→Nat→Prop}{w':World}{imm':Nat→Nat→Prop}(he:Ext w imm w' imm'){b:Nat}{es:List PV}(h:a0G w imm b es)(hb:∀o,w.heap[b]? = some o→O3 o=true→w'.heap[b]? = some o):a0G w' imm' b es:=by
 rcases h with ⟨ents,clock,h1,h2,h3⟩ | ⟨s,pos,h1,h2⟩
 ·refine .inl ⟨ents,clock,hb _ h1 rfl,h2,λi e hi=>?_⟩;obtain⟨k,v,k1,k2,k3⟩:=h3 i e hi;exact⟨k,v,k1,k2.mono he,k3.mono he⟩
 ·exact .inr ⟨s,pos,hb _ h1 rfl,h2⟩
def I0(es:List PV)(w:World)(imm:Nat→Nat→Prop)(v:Value):Prop:=∃b,v = .map (some b)∧imm b 0∧a0G w imm b es
theorem b0e{w:World}{imm:Nat→Nat→Prop}{v:Value}{es:List PV}(h:I0 es w imm v):Rd0 w imm v (.abs (I0 es)):=by
 obtain⟨b,rfl,h1,h2⟩:=h;refine .abs _ _ rfl λw' imm' he=>⟨b,rfl,he.im _ _ h1,h2.mono he λo h3 h4=>he.ob _ _ _ h1 h3 h4⟩
inductive Rd (w:World) (imm:Nat→Nat→Prop) (μ:Nat→A6) (j2:Nat→Prop):Value→PV→Prop
 | cl {v:Value} {d:PV} (h:Rd0 w imm v d):Rd w imm μ j2 v d
 | agg (vs:Array Value) (cs:List PV) (hsc:cs.all PV.sc=true) (hn:vs.size=cs.length)
   (h:∀(i:Nat) v c,vs[i]? = some v→cs[i]? = some c→Rd w imm μ j2 v c):Rd w imm μ j2 (.agg vs) (.agg cs)
 | tup (vs:Array Value) (cs:List PV) (hn:vs.size=cs.length)
   (h:∀(i:Nat) v c,vs[i]? = some v→cs[i]? = some c→Rd w imm μ j2 v c):Rd w imm μ j2 (.tuple vs) (.tup cs)
 | fn (f:Fn) (vs:Array Value) (cap:List PV) (hn:vs.size=cap.length)
   (h:∀(i:Nat) v c,vs[i]? = some v→cap[i]? = some c→Rd w imm μ j2 v c):Rd w imm μ j2 (.func f #[] vs) (.fn f cap)
 | sl (l:Nat) (hp:j2 l):Rd w imm μ j2 (.slice (μ l).A (μ l).n (μ l).C) (.sl l)
 | mp (l b:Nat) (hp:j2 l) (hl:MB≤l) (hA:(μ l).A=some ⟨b,0,none⟩):Rd w imm μ j2 (.map (some b)) (.mp l)
 | ptr (l i f b s:Nat) (hp:j2 l) (hA:(μ l).A=some ⟨b,s,none⟩):Rd w imm μ j2 (.pointer (some ⟨b,s+i*(μ l).z+f,none⟩)) (.ptr l i f)
theorem Rd.mono{w:World}{imm:Nat→Nat→Prop}{μ:Nat→A6}{j2:Nat→Prop}{w':World}{imm':Nat→Nat→Prop}{μ':Nat→A6}{pres':Nat→Prop}
  (he:Ext w imm w' imm')(hp:∀l,j2 l→pres' l∧μ' l=μ l){v:Value}{d:PV}(h:Rd w imm μ j2 v d):Rd w' imm' μ' pres' v d:=by
 induction h with
 | cl h=>exact .cl (h.mono he)
 | agg vs cs hsc hn _ ih=>exact .agg vs cs hsc hn ih
 | tup vs cs hn _ ih=>exact .tup vs cs hn ih
 | fn f vs cap hn _ ih=>exact .fn f vs cap hn ih
 | sl l hl=>rw[←(hp l hl).2];exact .sl l (hp l hl).1
 | mp l b hl h1 hA=>exact .mp l b (hp l hl).1 h1 (by rw[(hp l hl).2];exact hA)
 | ptr l i f b s hl hA=>rw[←(hp l hl).2] at hA ⊢;exact .ptr l i f b s (hp l hl).1 hA
theorem Rd.one{w:World}{imm:Nat→Nat→Prop}{μ:Nat→A6}{j2:Nat→Prop}{v:Value}{d:PV}(h:Rd w imm μ j2 v d)(hs:d.sc=true):one v=true:=by
 cases h <;> first | rfl | (rename_i h;exact h.one hs) | (simp[PV.sc] at hs)
theorem a4Q{v:Value}(h:one v=true):v.cells = #[v]:=by
 cases v <;> first | rfl | (simp[one] at h)
theorem PV.X4{d:PV}(h:d.sc=true):d.cells = [d]:=by cases d <;> first | rfl | (simp[PV.sc] at h)
theorem Rd.T4{w:World}{imm:Nat→Nat→Prop}{μ:Nat→A6}{j2:Nat→Prop}{v:Value}{cs:List PV}(h:Rd w imm μ j2 v (.agg cs)) :
  ∃vs:Array Value,v = .agg vs∧vs.size=cs.length∧∀(i:Nat) v c,vs[i]? = some v→cs[i]? = some c→Rd w imm μ j2 v c:=by
 cases h with
 | cl h=>cases h with | agg vs _ hsc hn h=>exact⟨vs,rfl,hn,λi v c hv hc=>.cl (h i v c hv hc)⟩
 | agg vs _ hsc hn h=>exact⟨vs,rfl,hn,h⟩
theorem Rd.a6O{w:World}{imm:Nat→Nat→Prop}{μ:Nat→A6}{j2:Nat→Prop}{v:Value}{cs:List PV}(h:Rd w imm μ j2 v (.tup cs)) :
  ∃vs:Array Value,v = .tuple vs∧vs.size=cs.length∧∀(i:Nat) v c,vs[i]? = some v→cs[i]? = some c→Rd w imm μ j2 v c:=by
 cases h with
 | cl h=>cases h with | tup vs _ hn h=>exact⟨vs,rfl,hn,λi v c hv hc=>.cl (h i v c hv hc)⟩
 | tup vs _ hn h=>exact⟨vs,rfl,hn,h⟩
theorem Rd.b4f{w:World}{imm:Nat→Nat→Prop}{μ:Nat→A6}{j2:Nat→Prop}{v:Value}{es:List PV}(h:Rd w imm μ j2 v (.mapc es)):False:=by
 cases h with
 | cl h=>cases h
theorem Rd.cells{w:World}{imm:Nat→Nat→Prop}{μ:Nat→A6}{j2:Nat→Prop}{v:Value}{d:PV}(h:Rd w imm μ j2 v d)(hs:d.el=true) :
  v.cells.size=d.cells.length∧∀(j:Nat) u y,v.cells[j]? = some u→d.cells[j]? = some y→Rd w imm μ j2 u y:=by
 by_cases hd:d.sc=true
 ·rw[a4Q (h.one hd),PV.X4 hd];refine⟨rfl,λj u y hu hy=>?_⟩;cases j with
  | zero=>simp at hu hy;subst hu hy;exact h
  | succ j=>simp at hy
 ·cases d <;> first | (exact absurd rfl hd) | (exact absurd hs hd) | (exact h.b4f.elim) | skip
  obtain⟨vs,rfl,hn,hc⟩:=h.T4;exact⟨hn,hc⟩
def PV.K1:PV→Bool
 | .sl _ | .ptr .. | .agg _ | .tup _ | .mp _=>false
 | .fn _ cap=>cap.isEmpty
 | _=>true
def PV.Y3:PV→Bool
 | .agg cs | .tup cs | .fn _ cs=>cs.all PV.K1
 | d=>d.K1
theorem Rd.K1{w:World}{imm:Nat→Nat→Prop}{μ:Nat→A6}{j2:Nat→Prop}{v:Value}{d:PV}(h:Rd w imm μ j2 v d)(hs:d.K1=true):Rd0 w imm v d:=by
 cases h with
 | cl h=>exact h
 | fn f vs cap hn h=>
  have:cap = []:=by simpa[PV.K1] using hs
  subst this;exact .fn f vs [] hn λi v c _ hc=>by simp at hc
 | _=>simp[PV.K1] at hs
theorem Rd.Y3{w:World}{imm:Nat→Nat→Prop}{μ:Nat→A6}{j2:Nat→Prop}{v:Value}{d:PV}(h:Rd w imm μ j2 v d)(hs:d.Y3=true):Rd0 w imm v d:=by
 cases h with
 | cl h=>exact h
 | agg vs cs hsc hn h=>exact .agg vs cs hsc hn λi v c hv hc=>(h i v c hv hc).K1 (by simp[PV.Y3] at hs;exact hs c (List.mem_of_getElem? hc))
 | tup vs cs hn h=>exact .tup vs cs hn λi v c hv hc=>(h i v c hv hc).K1 (by simp[PV.Y3] at hs;exact hs c (List.mem_of_getElem? hc))
 | fn f vs cs hn h=>exact .fn f vs cs hn λi v c hv hc=>(h i v c hv hc).K1 (by simp[PV.Y3] at hs;exact hs c (List.mem_of_getElem? hc))
 | sl l hp=>simp[PV.Y3,PV.K1] at hs
 | mp l b hp=>simp[PV.Y3,PV.K1] at hs
 | ptr l i f b s hp hA=>simp[PV.Y3,PV.K1] at hs
structure Row where
 els:List PV
 lo:Nat
 opn:Bool
 z:Nat
 cl:Bool
def A2(m:A6)(r:Row)(b o:Nat):Prop:=
 ∃s,m.A=some ⟨b,s,none⟩∧s+r.lo*m.z≤o∧o<s+(if r.opn then m.C else m.n)*m.z
structure a2K (base:Nat) (w:World) (imm:Nat→Nat→Prop) (μ:Nat→A6) (j2:Nat→Prop) (m:A6) (r:Row):Prop where
 n:m.n=r.els.length
 z:m.z=r.z
 C:m.n≤m.C
 lo:r.lo≤m.n
 el:∀x∈r.els,x.el=true∧x.cells.length=r.z
 nil:m.A=none→m.C=0
 spot:0<m.C→∃b s,m.A=some ⟨b,s,none⟩
 cell:∀(i:Nat) x (j:Nat) y,r.els[i]? = some x→x.cells[j]? = some y→∃b s u,m.A=some ⟨b,s,none⟩∧w.cell? ⟨b,s+i*m.z+j,none⟩=some u ∧
  Rd w imm μ j2 u y∧(i<r.lo→imm b (s+i*m.z+j))∧(r.cl=true→Rd0 w imm u y)
 own:∀b o,A2 m r b o→base≤b∧(w.cell? ⟨b,o,none⟩).isSome=true∧w.frozen? ⟨b,o,none⟩=false
structure a01 (base:Nat) (w:World) (imm:Nat→Nat→Prop) (μ:Nat→A6) (σ:Nat→Option Row):Prop where
 at_:∀l r,MB≤l→σ l=some r→∃b es,r.els = [.mapc es]∧(μ l).A=some ⟨b,0,none⟩∧base≤b∧a0G w imm b es∧(r.cl=false→∀o,¬imm b o)∧(r.cl=true→imm b 0)
 apart:∀l l' r r',MB≤l→MB≤l'→l≠l'→σ l=some r→σ l'=some r'→r.cl=false→(μ l).A≠(μ l').A
structure St where
 env:Nat→PV
 σ:Nat→Option Row
def o0{α:Type}(f:Nat→α)(k:Nat)(x:α):Nat→α:=λi=>if i=k then x else f i
theorem j4{α:Type}(f:Nat→α)(k:Nat)(x:α):o0 f k x k=x:=if_pos rfl
theorem e6{α:Type}(f:Nat→α){k i:Nat}(x:α)(h:i≠k):o0 f k x i=f i:=if_neg h
theorem V2{α:Type}(f:Nat→α){k l:Nat}(x y:α)(h:k≠l):o0 (o0 f k x) l y=o0 (o0 f l y) k x:=by
 funext i
 unfold o0;by_cases h1:i=k <;> by_cases h2:i=l <;> simp[h1,h2] <;> omega
def F3(env:Nat→PV)(dst:Option Tmp)(d:PV):Nat→PV:=
 match dst with
 | some t=>o0 env t d
 | none=>env
structure Bel (B:Nat) (w w':World):Prop extends Below B w w' where
 dr:w.drawn≤w'.drawn
theorem Bel.refl(B:Nat)(w:World):Bel B w w:=⟨Below.refl B w,Nat.le_refl _⟩
theorem Bel.trans{B:Nat}{a b c:World}(h:Bel B a b)(k:Bel B b c):Bel B a c:=⟨h.toBelow.trans k.toBelow,Nat.le_trans h.dr k.dr⟩
def b6E:Nat:=1
def b0j(P:Program):String:=((P.globals[b6E]?).map λg=>g.name).getD "none"
def b6s:Option Nat:=some 0
def GT(P:Program)(w:World):Prop:=(∀g,P.globalNamed (b0j P)=some g→Lib.TabIs P w (b0j P) .u64 Lib.pow10Tab)∧∀g,b6s=some g→∃m,w.cell? ⟨g,0,none⟩=some (.int .i64 m)
theorem GT.heap{P:Program}{w w':World}(h:GT P w)(hb:∀k,k<w.heap.size→w'.heap[k]? = w.heap[k]?):GT P w':=by
 refine⟨λg hg=>?_,λg hg=>?_⟩
 ·have h1:=h.1 g hg;unfold Lib.TabIs World.var? at h1 ⊢;rw[hg] at h1 ⊢;simp only[Option.bind_some] at h1 ⊢;have hlt:g<w.heap.size:=by
   rcases Nat.lt_or_ge g w.heap.size with q | q
   ·exact q
   ·rw[Array.getElem?_eq_none q] at h1;cases h1
  rw[hb g hlt];exact h1
 ·obtain⟨m,hm⟩:=h.2 g hg;have hlt:g<w.heap.size:=World.block_lt_of_cell? _ _ hm;exact⟨m,by rw[World.cell?_of_block (hb g hlt)];exact hm⟩
theorem GT.bel{P:Program}{w w':World}{B:Nat}(h:GT P w)(hB:w.heap.size≤B)(hb:Bel B w w'):GT P w':=h.heap λk hk=>hb.toBelow.block k (by omega)
abbrev WG(P:Program):={w:World // GT P w}
structure Ctx where
 P:Program
 N:Nat
 ρ:Option Nat
 w0:World
 imm0:Nat→Nat→Prop
 ext:Nat→Value:=λ_=>undef
 obs:List (Nat × Obj):=[]
 calm:Bool:=false
 tab:GT P w0
def Ctx.val(X:Ctx)(a:Act)(i:Nat):Value:=if i<1000000 then a.tmps.getD i undef else X.ext i
structure Gh where
 imm:Nat→Nat→Prop
 μ:Nat→A6
def St.j2(st:St)(l:Nat):Prop:=∃r,st.σ l=some r
def Marks(base:Nat)(ds:List Deferred)(w:World):Prop:=
 ∃rs:List Nat,rs.Nodup∧ds=rs.map (λr=>{ target:=.collected r,args:=#[] })∧∀r∈rs,w.heap[r]? = some (.deferred (some []))∧base≤r
theorem Marks.mono{base:Nat}{ds:List Deferred}{w w':World}(h:Marks base ds w)(hk:∀(k:Nat) (o:Obj),w.heap[k]? = some o→o.isCells=false→w'.heap[k]? = some o):Marks base ds w':=by
 obtain⟨rs,h1,h2,h3⟩:=h;exact⟨rs,h1,h2,λr hr=>⟨hk r _ (h3 r hr).1 rfl,(h3 r hr).2⟩⟩
theorem Bel.mono{B B':Nat}{w w':World}(h:Bel B w w')(hB:B'≤B):Bel B' w w':=⟨h.toBelow.mono hB,h.dr⟩
theorem Bel.drew{B:Nat}{a w:World}(h:Bel B a w):Bel B a w.drew:=⟨h.toBelow.drew,Nat.le_succ_of_le h.dr⟩
theorem Bel.alloc{B:Nat}{a w:World}(h:Bel B a w)(hB:B≤w.heap.size)(o:Obj):Bel B a (w.alloc o):=⟨h.toBelow.alloc hB o,h.dr⟩
theorem Bel.setCell{B:Nat}{a w:World}(h:Bel B a w){p:Addr}(hp:B≤p.block)(u:Value):Bel B a (w.setCell p u):=⟨h.toBelow.setCell hp u,h.dr⟩
structure r7 (X:Ctx) (g:Gh) (st:St) (a:Act) (w:World):Prop where
 size:a.tmps.size=X.N
 env:∀i,Rd w g.imm g.μ st.j2 (X.val a i) (st.env i)
 rows:∀l r,st.σ l=some r→a2K X.w0.heap.size w g.imm g.μ st.j2 (g.μ l) r
 disj:∀l l' r r',l≠l'→st.σ l=some r→st.σ l'=some r'→∀b o,A2 (g.μ l) r b o→¬A2 (g.μ l') r' b o
 ownimm:∀l r b o,st.σ l=some r→A2 (g.μ l) r b o→¬g.imm b o
 immlt:∀b o,g.imm b o→b<w.heap.size
 immsub:∀b o,g.imm b o→X.imm0 b o∨X.w0.heap.size≤b
 immsup:∀b o,X.imm0 b o→g.imm b o
 below:Bel X.w0.heap.size X.w0 w
 marks:Marks X.w0.heap.size a.defers w
 obs:∀p∈X.obs,w.heap[p.1]? = some p.2∧p.2.isCells=false∧O3 p.2=false
 big:X.N≤1000000∧(X.calm=true→a.defers = [])
 maps:a01 X.w0.heap.size w g.imm g.μ st.σ
theorem r7.gt{X:Ctx}{g:Gh}{st:St}{a:Act}{w:World}(h:r7 X g st a w):GT X.P w:=X.tab.bel (Nat.le_refl _) h.below
end Go.Pw
namespace Go.Pw
open Go.RowKit
variable{X:Ctx}{g:Gh}{st:St}{a:Act}{w:World}
theorem PV.u7{d:PV}{y:PV}{j:Nat}(h:d.cells[j]? = some y):j<d.cells.length:=by
 rcases Nat.lt_or_ge j d.cells.length with h' | h'
 ·exact h'
 ·rw[List.getElem?_eq_none h'] at h;cases h
theorem a2K.b4d{base:Nat}{w:World}{imm:Nat→Nat→Prop}{μ:Nat→A6}{j2:Nat→Prop}{m:A6}{r:Row}(h:a2K base w imm μ j2 m r)
  {i j:Nat}{x y:PV}(hx:r.els[i]? = some x)(hy:x.cells[j]? = some y){b s:Nat}(hA:m.A=some ⟨b,s,none⟩)(hi:¬i<r.lo):A2 m r b (s+i*m.z+j):=by
 have hlen:i<r.els.length:=by
  rcases Nat.lt_or_ge i r.els.length with h' | h'
  ·exact h'
  ·rw[List.getElem?_eq_none h'] at hx;cases hx
 have hz:x.cells.length=m.z:=by rw[h.z];exact (h.el x (List.mem_of_getElem? hx)).2
 have hj:=PV.u7 hy;rw[hz] at hj;refine⟨s,hA,?_,?_⟩
 ·have:r.lo*m.z≤i*m.z:=Nat.mul_le_mul_right _ (by omega);omega
 ·have hn:=h.n;have hC:=h.C;have h1:(i+1)*m.z≤m.n*m.z:=Nat.mul_le_mul_right _ (by omega);have h2:m.n*m.z≤(if r.opn then m.C else m.n)*m.z:=Nat.mul_le_mul_right _ (by split <;> omega);rw[Nat.add_mul,Nat.one_mul] at h1;omega
theorem a2K.mono{base:Nat}{w:World}{imm:Nat→Nat→Prop}{μ:Nat→A6}{j2:Nat→Prop}{m:A6}{r:Row}(h:a2K base w imm μ j2 m r)
  {w':World}{imm':Nat→Nat→Prop}{μ':Nat→A6}{pres':Nat→Prop}(he:Ext w imm w' imm')(hp:∀l,j2 l→pres' l∧μ' l=μ l)
  (hown:∀b o,A2 m r b o→w'.cell? ⟨b,o,none⟩=w.cell? ⟨b,o,none⟩∧w'.frozen? ⟨b,o,none⟩=w.frozen? ⟨b,o,none⟩):a2K base w' imm' μ' pres' m r where
 n:=h.n
 z:=h.z
 C:=h.C
 lo:=h.lo
 el:=h.el
 nil:=h.nil
 spot:=h.spot
 cell i x j y hx hy:=by
  obtain⟨b,s,u,hA,hc,hr,hi,hcl⟩:=h.cell i x j y hx hy
  refine⟨b,s,u,hA,?_,hr.mono he hp,λq=>he.im _ _ (hi q),λq=>(hcl q).mono he⟩
  by_cases hlo:i<r.lo
  ·rw[he.cl _ _ (hi hlo)];exact hc
  ·rw[(hown _ _ (h.b4d hx hy hA hlo)).1];exact hc
 own b o ho:=by
  obtain⟨h1,h2,h3⟩:=h.own b o ho
  obtain⟨k1,k2⟩:=hown b o ho
  exact⟨h1,by rw[k1];exact h2,by rw[k2];exact h3⟩
theorem a01.move{base:Nat}{imm:Nat→Nat→Prop}{μ:Nat→A6}{σ:Nat→Option Row}(h:a01 base w imm μ σ){w':World}{imm':Nat→Nat→Prop}(he:Ext w imm w' imm')
  (hmi:∀b o x,imm' b o→w.heap[b]? = some x→O3 x=true→imm b o)(hk:∀(k:Nat) (o:Obj),w.heap[k]? = some o→O3 o=true→w'.heap[k]? = some o):a01 base w' imm' μ σ where
 at_ l r hl hr:=by
  obtain⟨b,es,h1,h2,h3,h4,h5,h6⟩:=h.at_ l r hl hr
  refine⟨b,es,h1,h2,h3,h4.mono he λo q1 q2=>hk b o q1 q2,λq o k=>?_,λq=>he.im _ _ (h6 q)⟩
  obtain⟨x,k1,k2⟩:=h4.obj
  exact h5 q o (hmi b o _ k k1 k2)
 apart:=h.apart
theorem a11{base:Nat}{w:World}{imm:Nat→Nat→Prop}{μ:Nat→A6}{j2:Nat→Prop}{m:A6}{r:Row}(h:a2K base w imm μ j2 m r){b o:Nat}(ho:A2 m r b o){x:Obj}(hx:w.heap[b]? = some x):O3 x=false:=by
 obtain⟨_,h2,_⟩:=h.own b o ho;obtain⟨u,hu⟩:=Option.isSome_iff_exists.1 h2;obtain⟨o2,k1,k2⟩:=cells_of_cell hu;simp only at k1;rw[hx] at k1;cases k1;cases x <;> first | rfl | cases k2
theorem a01.o0{base:Nat}{imm:Nat→Nat→Prop}{μ:Nat→A6}{σ:Nat→Option Row}(h:a01 base w imm μ σ){l:Nat}{r r':Row}(hl:σ l=some r)(he:MB≤l→r'.els=r.els)(hc:MB≤l→r'.cl=r.cl):a01 base w imm μ (o0 σ l (some r')) where
 at_ l' q hl' hr:=by
  by_cases e:l'=l
  ·subst e
   rw[j4] at hr
   cases hr
   obtain⟨b,es,h1,h2⟩:=h.at_ l' r hl' hl
   exact⟨b,es,by rw[he hl'];exact h1,by rw[hc hl'];exact h2⟩
  ·rw[e6 _ _ e] at hr
   exact h.at_ l' q hl' hr
 apart l1 l2 r1 r2 h1 h2 hne q1 q2 q3:=by
  have f:∀l' q,MB≤l'→Pw.o0 σ l (some r') l'=some q→∃q',σ l'=some q'∧q'.cl=q.cl:=λl' q hl' hr=>by
   by_cases e:l'=l
   ·subst e
    rw[j4] at hr
    cases hr
    exact⟨r,hl,(hc hl').symm⟩
   ·rw[e6 _ _ e] at hr
    exact⟨q,hr,rfl⟩
  obtain⟨s1,k1,k2⟩:=f l1 r1 h1 q1
  obtain⟨s2,k3,_⟩:=f l2 r2 h2 q2
  exact h.apart l1 l2 s1 s2 h1 h2 hne k1 k3 (by rw[k2];exact q3)
theorem a01.new{base:Nat}{imm:Nat→Nat→Prop}{μ:Nat→A6}{σ:Nat→Option Row}(h:a01 base w imm μ σ){l:Nat}{m:A6}{r:Option Row}(hl:l<MB):a01 base w imm (Pw.o0 μ l m) (Pw.o0 σ l r) where
 at_ l' q hl' hr:=by
  have e:l'≠l:=λe=>by subst e;exact absurd hl (Nat.not_lt.2 hl')
  rw[e6 _ _ e] at hr ⊢
  exact h.at_ l' q hl' hr
 apart l1 l2 r1 r2 h1 h2 hne q1 q2 q3:=by
  have e1:l1≠l:=λe=>by subst e;exact absurd hl (Nat.not_lt.2 h1)
  have e2:l2≠l:=λe=>by subst e;exact absurd hl (Nat.not_lt.2 h2)
  rw[e6 _ _ e1] at q1
  rw[e6 _ _ e2] at q2
  rw[e6 _ _ e1,e6 _ _ e2]
  exact h.apart l1 l2 r1 r2 h1 h2 hne q1 q2 q3
theorem r7.move(h:r7 X g st a w){w':World}{imm':Nat→Nat→Prop}(he:Ext w g.imm w' imm')
  (hown:∀l r b o,st.σ l=some r→A2 (g.μ l) r b o→w'.cell? ⟨b,o,none⟩=w.cell? ⟨b,o,none⟩∧w'.frozen? ⟨b,o,none⟩=w.frozen? ⟨b,o,none⟩∧¬imm' b o)
  (hlt:∀b o,imm' b o→b<w'.heap.size)(hsub:∀b o,imm' b o→X.imm0 b o∨X.w0.heap.size≤b)(hb:Bel X.w0.heap.size X.w0 w')
  (hk:∀(k:Nat) (o:Obj),w.heap[k]? = some o→o.isCells=false→w'.heap[k]? = some o)
  (hmi:∀b o x,imm' b o→w.heap[b]? = some x→O3 x=true→g.imm b o):r7 X ⟨imm',g.μ⟩ st a w' where
 size:=h.size
 env i:=(h.env i).mono he λ_ hl=>⟨hl,rfl⟩
 rows l r hl:=(h.rows l r hl).mono he (λ_ hl=>⟨hl,rfl⟩) λb o ho=>⟨(hown l r b o hl ho).1,(hown l r b o hl ho).2.1⟩
 disj:=h.disj
 ownimm l r b o hl ho:=(hown l r b o hl ho).2.2
 immlt:=hlt
 immsub:=hsub
 immsup b o q:=he.im _ _ (h.immsup b o q)
 below:=hb
 marks:=h.marks.mono hk
 obs p hp:=⟨hk _ _ (h.obs p hp).1 (h.obs p hp).2.1,(h.obs p hp).2⟩
 big:=h.big
 maps:=h.maps.move he hmi λk o q1 q2=>hk k o q1 (C9 q2)
theorem r7.O4(h:r7 X g st a w){l:Nat}{r:Row}(hl:st.σ l=some r){b o:Nat}(ho:A2 (g.μ l) r b o):X.w0.heap.size≤b∧b<w.heap.size:=by
 obtain⟨h1,h2,_⟩:=(h.rows l r hl).own b o ho;obtain⟨u,hu⟩:=Option.isSome_iff_exists.1 h2;exact⟨h1,World.block_lt_of_cell? _ _ hu⟩
theorem Ext.alloc{imm:Nat→Nat→Prop}(hlt:∀b o,imm b o→b<w.heap.size)(o:Obj):Ext w imm (w.alloc o) imm where
 im _ _ h:=h
 cl b i h:=World.cell?_alloc_lt _ _ _ (hlt b i h)
 ob b i x h hx _:=(Below.heap_alloc w o b (hlt b i h)).trans hx
theorem r7.alloc(h:r7 X g st a w)(o:Obj):r7 X g st a (w.alloc o):=
 h.move (Ext.alloc h.immlt o) (λl r b i hl ho=>⟨World.cell?_alloc_lt _ _ _ (h.O4 hl ho).2,World.frozen?_alloc_old _ _ _ (Nat.ne_of_lt (h.O4 hl ho).2),h.ownimm l r b i hl ho⟩)
  (λb i q=>by rw[World.size_alloc];exact Nat.lt_succ_of_lt (h.immlt b i q)) h.immsub (h.below.alloc h.below.size o) (KeepsOthers.alloc w o).same (λ_ _ _ q _ _=>q)
theorem r7.drew(h:r7 X g st a w):r7 X g st a w.drew:=
 h.move ⟨λ_ _ q=>q,λ_ _ _=>rfl,λ_ _ _ _ q _=>q⟩ (λl r b i hl ho=>⟨rfl,rfl,h.ownimm l r b i hl ho⟩) h.immlt h.immsub h.below.drew (λ_ _ q _=>q) (λ_ _ _ q _ _=>q)
theorem r7.put(h:r7 X g st a w){v:Value}{d:PV}{dst:Option Tmp}(hd:∀t,dst=some t→t<X.N)(hv:Rd w g.imm g.μ st.j2 v d) :
  r7 X g ⟨F3 st.env dst d,st.σ⟩ (a.put dst v) w:=by
 cases dst with
 | none=>exact⟨h.size,h.env,h.rows,h.disj,h.ownimm,h.immlt,h.immsub,h.immsup,h.below,h.marks,h.obs,h.big,h.maps⟩
 | some t=>
  have ht:=hd t rfl;rw[←h.size] at ht;refine⟨by simpa[Act.put] using h.size,λi=>?_,h.rows,h.disj,h.ownimm,h.immlt,h.immsub,h.immsup,h.below,h.marks,h.obs,h.big,h.maps⟩;simp only[F3,o0];by_cases h6:i<1000000
  ·have hv0:=h.env i;simp only[Ctx.val,Act.put,if_pos h6] at hv0 ⊢;by_cases hi:i=t
   ·subst hi;rw[if_pos rfl];simp only[Array.getD_eq_getD_getElem?,Array.getElem?_setIfInBounds,if_true,ht];exact hv
   ·rw[if_neg hi];simp only[Array.getD_eq_getD_getElem?,Array.getElem?_setIfInBounds,if_neg (Ne.symm hi)];rw[←Array.getD_eq_getD_getElem?];exact hv0
  ·have hv0:=h.env i;simp only[Ctx.val,if_neg h6] at hv0 ⊢;have hi:i≠t:=λe=>absurd (Nat.lt_of_lt_of_le (hd t rfl) h.big.1) (by subst e;exact h6);rw[if_neg hi];exact hv0
theorem r7.row(h:r7 X g st a w){l:Nat}{m:A6}{r:Row}(hlm:l<MB)(hl:st.σ l=none)(hr:a2K X.w0.heap.size w g.imm g.μ st.j2 m r)
  (hd:∀l' r' b o,st.σ l'=some r'→A2 (g.μ l') r' b o→¬A2 m r b o)(hi:∀b o,A2 m r b o→¬g.imm b o) :
  r7 X ⟨g.imm,o0 g.μ l m⟩ ⟨st.env,o0 st.σ l (some r)⟩ a w:=by
 have hp:∀l',st.j2 l'→St.j2 ⟨st.env,o0 st.σ l (some r)⟩ l'∧o0 g.μ l m l'=g.μ l':=by
  rintro l' ⟨r',hr'⟩;have hne:l'≠l:=λe=>by subst e;rw[hl] at hr';cases hr'
  exact⟨⟨r',by simpa[e6 _ _ hne] using hr'⟩,e6 _ _ hne⟩
 have hcase:∀l' r',o0 st.σ l (some r) l'=some r'→(l'=l∧r'=r)∨(l'≠l∧st.σ l'=some r'):=by
  intro l' r' q;by_cases e:l'=l
  ·subst e;rw[j4] at q;cases q;exact .inl ⟨rfl,rfl⟩
  ·rw[e6 _ _ e] at q;exact .inr ⟨e,q⟩
 refine⟨h.size,λi=>(h.env i).mono (Ext.refl _ _) hp,λl' r' q=>?_,λl1 l2 r1 r2 hne q1 q2 b o ho=>?_,λl' r' b o q ho=>?_,h.immlt,h.immsub,h.immsup,h.below,h.marks,h.obs,h.big,h.maps.new hlm⟩
 ·rcases hcase l' r' q with ⟨rfl,rfl⟩ | ⟨e,q'⟩
  ·simp only[j4];exact hr.mono (Ext.refl _ _) hp λ_ _ _=>⟨rfl,rfl⟩
  ·simp only[e6 _ _ e];exact (h.rows l' r' q').mono (Ext.refl _ _) hp λ_ _ _=>⟨rfl,rfl⟩
 ·rcases hcase l1 r1 q1 with ⟨rfl,rfl⟩ | ⟨e1,q1'⟩ <;> rcases hcase l2 r2 q2 with ⟨rfl,rfl⟩ | ⟨e2,q2'⟩
  ·exact absurd rfl hne
  ·simp only[j4,e6 _ _ e2] at ho ⊢;exact λk=>hd _ _ b o q2' k ho
  ·simp only[j4,e6 _ _ e1] at ho ⊢;exact hd _ _ b o q1' ho
  ·simp only[e6 _ _ e1,e6 _ _ e2] at ho ⊢;exact h.disj l1 l2 r1 r2 hne q1' q2' b o ho
 ·rcases hcase l' r' q with ⟨rfl,rfl⟩ | ⟨e,q'⟩
  ·simp only[j4] at ho;exact hi b o ho
  ·simp only[e6 _ _ e] at ho;exact h.ownimm l' r' b o q' ho
theorem r7.a5S(h:r7 X g st a w){l:Nat}{els:List PV}{T C z:Nat}{opn cl:Bool}(cs:Array Value)(hlm:l<MB)(hl:st.σ l=none)
  (hC:els.length≤C)(hcs:cs.size=C*z)(hel:∀x∈els,x.el=true∧x.cells.length=z)
  (hcell:∀(i:Nat) x (j:Nat) y u,els[i]? = some x→x.cells[j]? = some y→cs[i*z+j]? = some u→Rd w g.imm g.μ st.j2 u y∧(cl=true→Rd0 w g.imm u y)) :
  r7 X ⟨g.imm,o0 g.μ l ⟨some ⟨w.heap.size,0,none⟩,els.length,C,z⟩⟩ ⟨st.env,o0 st.σ l (some ⟨els,0,opn,z,cl⟩)⟩ a (w.alloc (.cells cs T)):=by
 have h1:=h.alloc (.cells cs T);have hown:∀b o,A2 ⟨some ⟨w.heap.size,0,none⟩,els.length,C,z⟩ ⟨els,0,opn,z,cl⟩ b o→b=w.heap.size∧o<cs.size:=by
  rintro b o ⟨s,hA,h2,h3⟩;simp only[Option.some.injEq,Addr.mk.injEq] at hA;obtain⟨rfl,rfl,_⟩:=hA;refine⟨rfl,?_⟩;have:(if opn then C else els.length)*z≤C*z:=Nat.mul_le_mul_right _ (by split <;> omega);rw[hcs];simp only at h3;omega
 refine h1.row hlm hl ?_ ?_ ?_
 ·refine⟨rfl,rfl,hC,Nat.zero_le _,hel,(λq=>by cases q),λ_=>⟨_,_,rfl⟩,λi x j y hx hy=>?_,λb o ho=>?_⟩
  ·have hi:i<els.length:=by
    rcases Nat.lt_or_ge i els.length with q | q
    ·exact q
    ·rw[List.getElem?_eq_none q] at hx;cases hx
   have hj:j<z:=by rw[←(hel x (List.mem_of_getElem? hx)).2];exact PV.u7 hy
   have hlt:i*z+j<cs.size:=by
    have:(i+1)*z≤C*z:=Nat.mul_le_mul_right _ (by omega);rw[Nat.add_mul,Nat.one_mul] at this;omega
   have hu:cs[i*z+j]? = some cs[i*z+j]:=Array.getElem?_eq_getElem hlt;have hr:=hcell i x j y _ hx hy hu;have hx1:Ext w g.imm (w.alloc (.cells cs T)) g.imm:=Ext.alloc h.immlt _;refine⟨w.heap.size,0,cs[i*z+j],rfl,?_,hr.1.mono hx1 λ_ q=>⟨q,rfl⟩,λq=>absurd q (Nat.not_lt_zero _),λq=>(hr.2 q).mono hx1⟩;rw[World.cell?_alloc_new,Nat.zero_add];exact hu
  ·obtain⟨rfl,ho'⟩:=hown b o ho;refine⟨h.below.size,?_,?_⟩;·rw[World.cell?_alloc_new];simp[ho']
   ·simp
 ·intro l' r' b o hl' ho k;have:=(h.O4 hl' ho).2;have:=(hown b o k).1;omega
 ·intro b o ho q;have:=h.immlt b o q;have:=(hown b o ho).1;omega
end Go.Pw
namespace Go.Pw
open Go.RowKit
variable{X:Ctx}{g:Gh}{st:St}{a:Act}{w:World}
theorem w7(b:Nat):∀(vs:List Value) (o:Nat) (w:World),KeepsOthers w (w.setCells b o vs)
 | [],_,w=>KeepsOthers.refl w
 | _::r,o,w=>(KeepsOthers.setCell w _ _).trans (w7 b r (o+1) _)
theorem size_setCells(b:Nat):∀(vs:List Value) (o:Nat) (w:World),(w.setCells b o vs).heap.size=w.heap.size
 | [],_,_=>rfl
 | _::r,o,w=>by rw[World.setCells,size_setCells b r,World.size_setCell]
theorem T5{B:Nat}{w0:World}(b:Nat)(hb:B≤b):∀(vs:List Value) (o:Nat) (w:World),Bel B w0 w→Bel B w0 (w.setCells b o vs)
 | [],_,_,h=>h
 | _::r,o,_,h=>T5 b hb r (o+1) _ (h.setCell (p:=⟨b,o,none⟩) hb _)
theorem a9r(v:Value):one v=v.oneCell':=by cases v <;> rfl
theorem r6{α:Type}{l:List α}{i:Nat}{x:α}(h:l[i]? = some x):i<l.length:=by
 rcases Nat.lt_or_ge i l.length with q | q
 ·exact q
 ·rw[List.getElem?_eq_none q] at h;cases h
theorem r7.write(h:r7 X g st a w){l:Nat}{r:Row}{b o:Nat}{vs:List Value}{els:List PV}{cl:Bool}(hl:st.σ l=some r)
  (hmine:∀j,j<vs.length→A2 (g.μ l) r b (o+j))(hlen:els.length=r.els.length)(hel:∀x∈els,x.el=true∧x.cells.length=r.z)
  (hcell:∀(i:Nat) x (j:Nat) y,els[i]? = some x→x.cells[j]? = some y→∃b' s u,(g.μ l).A=some ⟨b',s,none⟩ ∧
   (w.setCells b o vs).cell? ⟨b',s+i*(g.μ l).z+j,none⟩=some u∧Rd w g.imm g.μ st.j2 u y∧(i<r.lo→g.imm b' (s+i*(g.μ l).z+j))∧(cl=true→Rd0 w g.imm u y))
  (hne:0<vs.length) :
  r7 X g ⟨st.env,o0 st.σ l (some { r with els:=els,cl:=cl })⟩ a (w.setCells b o vs):=by
 have hmine':∀x,o≤x→x<o+vs.length→A2 (g.μ l) r b x:=λx h1 h2=>by
  have:=hmine (x-o) (by omega);rwa [show o+(x-o)=x by omega] at this
 have hb:X.w0.heap.size≤b:=(h.O4 hl (hmine 0 hne)).1;have hout:∀b' o',¬A2 (g.μ l) r b' o'→(w.setCells b o vs).cell? ⟨b',o',none⟩=w.cell? ⟨b',o',none⟩:=λb' o' hn=>
  World.cell?_setCells_out b vs o w ⟨b',o',none⟩ λe _=>by
   simp only at e ⊢;subst e;rcases Nat.lt_or_ge o' o with q | q
   ·exact .inl q
   ·rcases Nat.lt_or_ge o' (o+vs.length) with q' | q'
    ·exact absurd (hmine' o' q q') hn
    ·exact .inr q'
 have hx:Ext w g.imm (w.setCells b o vs) g.imm:=⟨λ_ _ q=>q,λb' o' q=>hout b' o' λk=>h.ownimm l r b' o' hl k q,
  λk _ x _ hx hc=>(w7 b vs o w).same k x hx (C9 hc)⟩
 have hp:∀l',st.j2 l'→St.j2 ⟨st.env,o0 st.σ l (some { r with els:=els,cl:=cl })⟩ l'∧g.μ l'=g.μ l':=by
  rintro l' ⟨r',hr'⟩;refine⟨?_,rfl⟩;by_cases e:l'=l
  ·exact⟨_,by rw[e];exact j4 _ _ _⟩
  ·exact⟨r',by rw[show (St.mk st.env (o0 st.σ l (some { r with els:=els,cl:=cl }))).σ l'=st.σ l' from e6 _ _ e];exact hr'⟩
 have hcase:∀l' r',o0 st.σ l (some { r with els:=els,cl:=cl }) l'=some r'→(l'=l∧r'={ r with els:=els,cl:=cl })∨(l'≠l∧st.σ l'=some r'):=by
  intro l' r' q;by_cases e:l'=l
  ·subst e;rw[j4] at q;cases q;exact .inl ⟨rfl,rfl⟩
  ·rw[e6 _ _ e] at q;exact .inr ⟨e,q⟩
 have hR:=h.rows l r hl;have nomap:MB≤l→False:=λq=>by
  obtain⟨b',es,h1,_⟩:=h.maps.at_ l r q hl;have hz:r.z=0:=by
   have:=(hR.el (.mapc es) (by rw[h1];exact List.mem_cons_self ..)).2;rw[←this];rfl
  obtain⟨s,_,k1,k2⟩:=hmine 0 hne;rw[hR.z,hz] at k1 k2;simp only[Nat.mul_zero] at k1 k2;omega
 refine⟨h.size,λi=>(h.env i).mono hx hp,λl' r' q=>?_,λl1 l2 r1 r2 hne q1 q2 b' o' ho=>?_,λl' r' b' o' q ho=>?_,
  λb' o' q=>by rw[size_setCells];exact h.immlt b' o' q,h.immsub,h.immsup,T5 b hb vs o w h.below,h.marks.mono (w7 b vs o w).same,λp hp'=>⟨(w7 b vs o w).same _ _ (h.obs p hp').1 (h.obs p hp').2.1,(h.obs p hp').2⟩,h.big,
  (h.maps.move hx (λ_ _ _ q _ _=>q) λk o q1 q2=>(w7 b vs _ w).same k o q1 (C9 q2)).o0 hl (λq=>(nomap q).elim) λq=>(nomap q).elim⟩
 ·rcases hcase l' r' q with ⟨rfl,rfl⟩ | ⟨e,q'⟩
  ·refine⟨by rw[hR.n];exact hlen.symm,hR.z,hR.C,hR.lo,hel,hR.nil,hR.spot,λi x j y hx' hy=>?_,λb' o' ho=>?_⟩
   ·obtain⟨b',s,u,h1,h2,h3,h4,h5⟩:=hcell i x j y hx' hy;exact⟨b',s,u,h1,h2,h3.mono hx hp,h4,λq=>(h5 q).mono hx⟩
   ·obtain⟨h1,h2,h3⟩:=hR.own b' o' ho;refine⟨h1,?_,by rw[World.frozen?_setCells];exact h3⟩;by_cases q:b'=b∧o≤o'∧o'<o+vs.length
    ·obtain⟨rfl,q1,q2⟩:=q;have:=World.cell?_setCells_in b' vs o w (λj hj=>(hR.own b' (o+j) (hmine j hj)).2.1) (o'-o) (by omega);rw[show o+(o'-o)=o' by omega] at this;rw[this];rfl
    ·rw[World.cell?_setCells_out b vs o w ⟨b',o',none⟩ λe _=>by simp only at e ⊢;omega];exact h2
  ·refine (h.rows l' r' q').mono hx hp λb' o' ho=>⟨hout b' o' λk=>h.disj l' l r' r e q' hl b' o' ho k,World.frozen?_setCells b vs o w _⟩
 ·rcases hcase l1 r1 q1 with ⟨rfl,rfl⟩ | ⟨e1,q1'⟩ <;> rcases hcase l2 r2 q2 with ⟨rfl,rfl⟩ | ⟨e2,q2'⟩
  ·exact absurd rfl hne
  ·exact λk=>h.disj l1 l2 r r2 hne hl q2' b' o' ho k
  ·exact λk=>h.disj l1 l2 r1 r hne q1' hl b' o' ho k
  ·exact h.disj l1 l2 r1 r2 hne q1' q2' b' o' ho
 ·rcases hcase l' r' q with ⟨rfl,rfl⟩ | ⟨e,q'⟩;·exact h.ownimm l' r b' o' hl ho
  ·exact h.ownimm l' r' b' o' q' ho
def a1b(σ:Nat→Option Row)(l:Nat):Nat→Option Row:=
 match σ l with
 | some r=>o0 σ l (some { r with lo:=r.els.length })
 | none=>σ
def F6(σ:Nat→Option Row)(ls:List Nat):Nat→Option Row:=ls.foldl a1b σ
def a2U(g:Gh)(σ:Nat→Option Row)(l lo:Nat):Nat→Nat→Prop:=
 λb o=>g.imm b o∨∃r s,σ l=some r∧A2 (g.μ l) r b o∧(g.μ l).A=some ⟨b,s,none⟩∧o<s+lo*(g.μ l).z
theorem r7.frz(h:r7 X g st a w){l:Nat}{r:Row}(hl:st.σ l=some r)(lo:Nat)(h1:r.lo≤lo)(h2:lo≤r.els.length)(opn:Bool)(hop:opn=true→r.opn=true) :
  r7 X ⟨a2U g st.σ l lo,g.μ⟩ ⟨st.env,o0 st.σ l (some { r with lo:=lo,opn:=opn })⟩ a w:=by
 have hR:=h.rows l r hl;have hx:Ext w g.imm w (a2U g st.σ l lo):=⟨λ_ _ q=>.inl q,λ_ _ _=>rfl,λ_ _ _ _ q _=>q⟩;have hp:∀l',st.j2 l'→St.j2 ⟨st.env,o0 st.σ l (some { r with lo:=lo,opn:=opn })⟩ l'∧g.μ l'=g.μ l':=by
  rintro l' ⟨r',hr'⟩;refine⟨?_,rfl⟩;by_cases e:l'=l
  ·exact⟨_,by rw[e];exact j4 _ _ _⟩
  ·exact⟨r',by rw[show (St.mk st.env (o0 st.σ l (some { r with lo:=lo,opn:=opn }))).σ l'=st.σ l' from e6 _ _ e];exact hr'⟩
 have hcase:∀l' r',o0 st.σ l (some { r with lo:=lo,opn:=opn }) l'=some r'→(l'=l∧r'={ r with lo:=lo,opn:=opn })∨(l'≠l∧st.σ l'=some r'):=by
  intro l' r' q;by_cases e:l'=l
  ·subst e;rw[j4] at q;cases q;exact .inl ⟨rfl,rfl⟩
  ·rw[e6 _ _ e] at q;exact .inr ⟨e,q⟩
 have hsub:∀b o,A2 (g.μ l) { r with lo:=lo,opn:=opn } b o→A2 (g.μ l) r b o∧∀s,(g.μ l).A=some ⟨b,s,none⟩→s+lo*(g.μ l).z≤o:=by
  rintro b o ⟨s,hA,k1,k2⟩;have e1:r.lo*(g.μ l).z≤lo*(g.μ l).z:=Nat.mul_le_mul_right _ h1;have e2:(if opn then (g.μ l).C else (g.μ l).n)*(g.μ l).z≤(if r.opn then (g.μ l).C else (g.μ l).n)*(g.μ l).z:=Nat.mul_le_mul_right _ (by
   have:=hR.C;cases opn;·simp only[Bool.false_eq_true,if_false];split <;> omega
   ·rw[hop rfl];exact Nat.le_refl _)
  simp only at k1 k2;refine⟨⟨s,hA,by omega,by omega⟩,λs' hA'=>?_⟩;rw[hA] at hA';cases hA';exact k1
 refine⟨h.size,λi=>(h.env i).mono hx hp,λl' r' q=>?_,λl1 l2 r1 r2 hne q1 q2 b' o' ho=>?_,λl' r' b' o' q ho=>?_,
  λb o q=>?_,λb o q=>?_,λb o q=>.inl (h.immsup b o q),h.below,h.marks,h.obs,h.big,
  (h.maps.move hx (λb o x q hx' hm=>q.elim id λ⟨r2,s,hr2,k,_,_⟩=>by rw[a11 (h.rows l r2 hr2) k hx'] at hm;cases hm) (λ_ _ q _=>q)).o0 hl (λ_=>rfl) λ_=>rfl⟩
 ·rcases hcase l' r' q with ⟨rfl,rfl⟩ | ⟨e,q'⟩
  ·refine⟨hR.n,hR.z,hR.C,by rw[hR.n];exact h2,hR.el,hR.nil,hR.spot,λi x j y hx' hy=>?_,λb o ho=>hR.own b o (hsub b o ho).1⟩;obtain⟨b,s,u,k1,k2,k3,k4,k5⟩:=hR.cell i x j y hx' hy;refine⟨b,s,u,k1,k2,k3.mono hx hp,λhi'=>?_,λq=>(k5 q).mono hx⟩;by_cases hi:i<r.lo
   ·exact .inl (k4 hi)
   ·refine .inr ⟨r,s,hl,hR.b4d hx' hy k1 hi,k1,?_⟩;have hz:x.cells.length=(g.μ l').z:=by rw[hR.z];exact (hR.el x (List.mem_of_getElem? hx')).2
    have hj:=PV.u7 hy;simp only at hi';have:(i+1)*(g.μ l').z≤lo*(g.μ l').z:=Nat.mul_le_mul_right _ (by omega);rw[Nat.add_mul,Nat.one_mul] at this;show s+i*(g.μ l').z+j<s+lo*(g.μ l').z;omega
  ·exact (h.rows l' r' q').mono hx hp λ_ _ _=>⟨rfl,rfl⟩
 ·rcases hcase l1 r1 q1 with ⟨rfl,rfl⟩ | ⟨e1,q1'⟩ <;> rcases hcase l2 r2 q2 with ⟨rfl,rfl⟩ | ⟨e2,q2'⟩
  ·exact absurd rfl hne
  ·exact λk=>h.disj l1 l2 r r2 hne hl q2' b' o' (hsub _ _ ho).1 k
  ·exact λk=>h.disj l1 l2 r1 r hne q1' hl b' o' ho (hsub _ _ k).1
  ·exact h.disj l1 l2 r1 r2 hne q1' q2' b' o' ho
 ·rintro (k | ⟨r2,s,hr2,k,kA,k'⟩)
  ·rcases hcase l' r' q with ⟨rfl,rfl⟩ | ⟨e,q'⟩;·exact h.ownimm l' r b' o' hl (hsub _ _ ho).1 k
   ·exact h.ownimm l' r' b' o' q' ho k
  ·rw[hl] at hr2;cases hr2;rcases hcase l' r' q with ⟨rfl,rfl⟩ | ⟨e,q'⟩
   ·have:=(hsub _ _ ho).2 s kA;omega
   ·exact h.disj l' l r' r e q' hl b' o' ho k
 ·rcases q with q | ⟨r2,s,hr2,k,_,_⟩
  ·exact h.immlt b o q
  ·rw[hl] at hr2;cases hr2;exact (h.O4 hl k).2
 ·rcases q with q | ⟨r2,s,hr2,k,_,_⟩
  ·exact h.immsub b o q
  ·rw[hl] at hr2;cases hr2;exact .inr (h.O4 hl k).1
def Shown(imm:Nat→Nat→Prop)(m:A6)(r:Row):Prop:=
 ∀(i:Nat) x (j:Nat) y b s,r.els[i]? = some x→x.cells[j]? = some y→m.A=some ⟨b,s,none⟩→imm b (s+i*m.z+j)
theorem r7.F6(h:r7 X g st a w):∀(ls:List Nat),∃imm',r7 X ⟨imm',g.μ⟩ ⟨st.env,Pw.F6 st.σ ls⟩ a w∧Ext w g.imm w imm' ∧
  ∀l∈ls,∀r,st.σ l=some r→Shown imm' (g.μ l) r:=by
 intro ls;induction ls generalizing g st with
 | nil=>exact⟨g.imm,h,Ext.refl _ _,λ_ q=>by simp at q⟩
 | cons l ls ih=>
  cases hl:st.σ l with
  | none=>
   have e:Pw.F6 st.σ (l::ls)=Pw.F6 st.σ ls:=by simp[Pw.F6,a1b,hl]
   obtain⟨imm',h1,h2,h3⟩:=ih h;refine⟨imm',by rw[e];exact h1,h2,λl' q r hr=>?_⟩;rcases List.mem_cons.1 q with rfl | q
   ·rw[hl] at hr;cases hr
   ·exact h3 l' q r hr
  | some r=>
   have e:Pw.F6 st.σ (l::ls)=Pw.F6 (o0 st.σ l (some { r with lo:=r.els.length,opn:=r.opn })) ls:=by simp[Pw.F6,a1b,hl]
   have h0:=h.frz hl r.els.length (by have:=(h.rows l r hl).lo;have:=(h.rows l r hl).n;omega) (Nat.le_refl _) r.opn id;obtain⟨imm',h1,h2,h3⟩:=ih h0;have hx:Ext w g.imm w (a2U g st.σ l r.els.length):=⟨λ_ _ q=>.inl q,λ_ _ _=>rfl,λ_ _ _ _ q _=>q⟩;refine⟨imm',by rw[e];exact h1,hx.trans h2,λl' q r' hr=>?_⟩;have hself:∀r2,st.σ l=some r2→Shown imm' (g.μ l) r2:=by
    intro r2 hr2 i x j y b s hx' hy hA;rw[hl] at hr2;cases hr2;have hrow:=h0.rows l { r with lo:=r.els.length,opn:=r.opn } (j4 _ _ _);obtain⟨b',s',u,k1,_,_,k4,_⟩:=hrow.cell i x j y hx' hy;rw[hA] at k1;cases k1;exact h2.im _ _ (k4 (r6 hx'))
   by_cases el:l'=l
   ·subst el;exact hself r' hr
   ·rcases List.mem_cons.1 q with q | q
    ·exact absurd q el
    ·exact h3 l' q r' (by rw[show (St.mk st.env (o0 st.σ l (some { r with lo:=r.els.length,opn:=r.opn }))).σ l'=st.σ l' from e6 _ _ el];exact hr)
def PV.v0(σ:Nat→Option Row):PV→PV
 | .sl l=>match σ l with
  | some r=>.lst false r.els
  | none=>.junk
 | d=>d
def PV.R8(σ:Nat→Option Row):PV→Bool
 | .sl l=>match σ l with
  | some r=>r.cl
  | none=>false
 | d=>d.K1
def PV.O9:PV→List Nat
 | .sl l=>[l]
 | _=>[]
def PV.v2(σ:Nat→Option Row):PV→PV
 | .ptr l i f=>match σ l with
  | some r=>match r.els[i]? with
   | some x=>.rptr ((x.cells.drop f).map (PV.v0 σ))
   | none=>.junk
  | none=>.junk
 | d=>d.v0 σ
def PV.a1A(σ:Nat→Option Row):PV→Bool
 | .ptr l i f=>match σ l with
  | some r=>match r.els[i]? with
   | some x=>(x.cells.drop f).all λy=>y.R8 σ&&y.sc
   | none=>false
  | none=>false
 | d=>d.R8 σ
def PV.E7(σ:Nat→Option Row):PV→List Nat
 | .ptr l i f=>l::(match σ l with
  | some r=>match r.els[i]? with
   | some x=>(x.cells.drop f).flatMap PV.O9
   | none=>[]
  | none=>[])
 | d=>d.O9
def PV.v3(σ:Nat→Option Row):PV→PV
 | .agg cs=>.agg (cs.map (PV.v0 σ))
 | .fn f cap=>.fn f (cap.map (PV.v2 σ))
 | d=>d.v2 σ
def PV.a2m(σ:Nat→Option Row):PV→Bool
 | .agg cs=>cs.all λy=>y.R8 σ&&y.sc
 | .fn _ cap=>cap.all (PV.a1A σ)
 | d=>d.a1A σ
def PV.K0(σ:Nat→Option Row):PV→List Nat
 | .agg cs=>cs.flatMap PV.O9
 | .fn _ cap=>cap.flatMap (PV.E7 σ)
 | d=>d.E7 σ
def PV.view(σ:Nat→Option Row):PV→PV
 | .tup cs=>.tup (cs.map (PV.v3 σ))
 | d=>d.v3 σ
def PV.vok(σ:Nat→Option Row):PV→Bool
 | .tup cs=>cs.all (PV.a2m σ)
 | d=>d.a2m σ
def PV.D0(σ:Nat→Option Row):PV→List Nat
 | .tup cs=>cs.flatMap (PV.K0 σ)
 | d=>d.K0 σ
theorem PV.b41{σ:Nat→Option Row}{d:PV}(h:d.R8 σ=true)(hs:d.sc=true):(d.v0 σ).sc=true:=by
 cases d <;> first | (exact hs) | skip
 rename_i l;simp only[PV.v0,PV.R8] at *;cases hl:σ l with
 | none=>rw[hl] at h;cases h
 | some r=>rfl
section
variable{imm2:Nat→Nat→Prop}{v:Value}{d:PV}
theorem r7.v0(h:r7 X g st a w)(hx:Ext w g.imm w imm2)(hr:Rd w g.imm g.μ st.j2 v d)(hok:d.R8 st.σ=true)
  (hs:∀l∈d.O9,∀r,st.σ l=some r→Shown imm2 (g.μ l) r):Rd0 w imm2 v (d.v0 st.σ):=by
 by_cases hd:∃l,d = .sl l
 ·obtain⟨l,rfl⟩:=hd;cases hr with
  | cl h=>cases h
  | sl _ hp=>
   obtain⟨r,hl⟩:=hp;have hR:=h.rows l r hl;simp only[PV.v0,hl];simp only[PV.R8,hl] at hok;rw[hR.n];refine .lst (g.μ l).A (g.μ l).C (g.μ l).z false r.els (λi j=>match (g.μ l).A with | some ⟨b,s,_⟩=>(w.cell? ⟨b,s+i*(g.μ l).z+j,none⟩).getD undef | none=>undef)
    (by rw[←hR.n];exact hR.C) (λq=>by cases q) hR.nil (λx q=>by rw[hR.z];exact hR.el x q) (λh0=>?_) (λi x j y hx' hy=>?_)
   ·obtain⟨b,s,hA⟩:=hR.spot (by have:=hR.C;have:=hR.n;omega);refine⟨b,s,hA,λi x j y hx' hy=>⟨hs l (by simp[PV.O9]) r hl i x j y b s hx' hy hA,?_⟩⟩;obtain⟨b',s',u,k1,k2,_⟩:=hR.cell i x j y hx' hy;rw[hA] at k1;cases k1;rw[hA];simp only[k2,Option.getD_some]
   ·obtain⟨b',s',u,k1,k2,_,_,k5⟩:=hR.cell i x j y hx' hy;rw[k1];simp only[k2,Option.getD_some];exact (k5 hok).mono hx
 ·have e:d.v0 st.σ=d:=by cases d <;> first | rfl | exact absurd ⟨_,rfl⟩ hd
  have e':d.R8 st.σ=d.K1:=by cases d <;> first | rfl | exact absurd ⟨_,rfl⟩ hd
  rw[e];rw[e'] at hok;exact (hr.K1 hok).mono hx
theorem r7.v2(h:r7 X g st a w)(hx:Ext w g.imm w imm2)(hr:Rd w g.imm g.μ st.j2 v d)(hok:d.a1A st.σ=true)
  (hs:∀l∈d.E7 st.σ,∀r,st.σ l=some r→Shown imm2 (g.μ l) r):Rd0 w imm2 v (d.v2 st.σ):=by
 by_cases hd:∃l i f,d = .ptr l i f
 ·obtain⟨l,i,f,rfl⟩:=hd;cases hr with
  | cl h=>cases h
  | ptr _ _ _ b s hp hA=>
   obtain⟨r,hl⟩:=hp;have hR:=h.rows l r hl;simp only[PV.a1A,hl] at hok;simp only[PV.E7,hl] at hs;simp only[PV.v2,hl];cases hx':r.els[i]? with
   | none=>rw[hx'] at hok;cases hok
   | some x=>
    rw[hx'] at hok;simp only[hx'] at hs;simp only;have hget:∀(j:Nat) y,((x.cells.drop f).map (PV.v0 st.σ))[j]? = some y→∃y0,x.cells[f+j]? = some y0∧y=y0.v0 st.σ∧y0.R8 st.σ=true∧y0.sc=true∧(∀l'∈y0.O9,l'∈(x.cells.drop f).flatMap PV.O9):=by
     intro j y hy;rw[List.getElem?_map,List.getElem?_drop] at hy;cases hy0:x.cells[f+j]? with
     | none=>rw[hy0] at hy;cases hy
     | some y0=>
      rw[hy0] at hy;have hmem:y0∈x.cells.drop f:=List.mem_of_getElem? (by rw[List.getElem?_drop];exact hy0:(x.cells.drop f)[j]? = some y0);have hok':=List.all_eq_true.1 hok y0 hmem;simp only[Bool.and_eq_true] at hok';exact⟨y0,rfl,by simpa using hy.symm,hok'.1,hok'.2,λl' hl'=>List.mem_flatMap.2 ⟨y0,hmem,hl'⟩⟩
    refine .rptr b (s+i*(g.μ l).z+f) _ (λj=>(w.cell? ⟨b,s+i*(g.μ l).z+f+j,none⟩).getD undef) ?_ (λj y hy=>?_) (λj y hy=>?_)
    ·rw[List.all_eq_true];intro y hy;obtain⟨j,hj⟩:=List.getElem?_of_mem hy;obtain⟨y0,_,rfl,k2,k3,_⟩:=hget j y hj;exact PV.b41 k2 k3
    ·obtain⟨y0,k0,rfl,k2,k3,_⟩:=hget j y hy;obtain⟨b',s',u,q1,q2,_⟩:=hR.cell i x (f+j) y0 hx' k0;rw[hA] at q1;cases q1;have:=hs l (by simp) r hl i x (f+j) y0 b s hx' k0 hA;rw[←Nat.add_assoc] at q2 this;exact⟨this,by rw[q2];rfl⟩
    ·obtain⟨y0,k0,rfl,k2,k3,k4⟩:=hget j y hy;obtain⟨b',s',u,q1,q2,q3,_⟩:=hR.cell i x (f+j) y0 hx' k0;rw[hA] at q1;cases q1;rw[←Nat.add_assoc] at q2;simp only[q2,Option.getD_some];exact h.v0 hx q3 k2 λl' hl' r' hr'=>hs l' (List.mem_cons_of_mem _ (k4 l' hl')) r' hr'
 ·have e:d.v2 st.σ=d.v0 st.σ:=by cases d <;> first | rfl | exact absurd ⟨_,_,_,rfl⟩ hd
  have e':d.a1A st.σ=d.R8 st.σ:=by cases d <;> first | rfl | exact absurd ⟨_,_,_,rfl⟩ hd
  have e'':d.E7 st.σ=d.O9:=by cases d <;> first | rfl | exact absurd ⟨_,_,_,rfl⟩ hd
  rw[e];rw[e'] at hok;rw[e''] at hs;exact h.v0 hx hr hok hs
theorem r7.v3(h:r7 X g st a w)(hx:Ext w g.imm w imm2)(hr:Rd w g.imm g.μ st.j2 v d)(hok:d.a2m st.σ=true)
  (hs:∀l∈d.K0 st.σ,∀r,st.σ l=some r→Shown imm2 (g.μ l) r):Rd0 w imm2 v (d.v3 st.σ):=by
 cases d;case agg cs=>
  obtain⟨vs,rfl,hn,hc⟩:=hr.T4;simp only[PV.a2m,List.all_eq_true,Bool.and_eq_true] at hok;simp only[PV.K0] at hs;refine .agg vs _ ?_ (by simpa using hn) λi v c hv hc'=>?_
  ·rw[List.all_eq_true];intro y hy;obtain⟨y0,h0,rfl⟩:=List.mem_map.1 hy;exact PV.b41 (hok y0 h0).1 (hok y0 h0).2
  ·rw[List.getElem?_map] at hc';cases hc0:cs[i]? with
   | none=>rw[hc0] at hc';cases hc'
   | some c0=>
    rw[hc0] at hc';cases hc';have hm:=List.mem_of_getElem? hc0;exact h.v0 hx (hc i v c0 hv hc0) (hok c0 hm).1 λl hl=>hs l (List.mem_flatMap.2 ⟨c0,hm,hl⟩)
 case fn f cap=>
  have hinv:∃vs:Array Value,v = .func f #[] vs∧vs.size=cap.length∧∀(i:Nat) v c,vs[i]? = some v→cap[i]? = some c→Rd w g.imm g.μ st.j2 v c:=by
   cases hr with
   | cl h=>cases h with | fn _ vs _ hn h=>exact⟨vs,rfl,hn,λi v c hv hc=>.cl (h i v c hv hc)⟩
   | fn _ vs _ hn h=>exact⟨vs,rfl,hn,h⟩
  obtain⟨vs,rfl,hn,hc⟩:=hinv;simp only[PV.a2m,List.all_eq_true] at hok;simp only[PV.K0] at hs;refine .fn f vs _ (by simpa using hn) λi v c hv hc'=>?_;rw[List.getElem?_map] at hc';cases hc0:cap[i]? with
  | none=>rw[hc0] at hc';cases hc'
  | some c0=>
   rw[hc0] at hc';cases hc';have hm:=List.mem_of_getElem? hc0;exact h.v2 hx (hc i v c0 hv hc0) (hok c0 hm) λl hl=>hs l (List.mem_flatMap.2 ⟨c0,hm,hl⟩)
 case tup cs=>exact h.v2 hx hr hok hs
 all_goals exact h.v2 hx hr hok hs
theorem r7.view(h:r7 X g st a w)(hx:Ext w g.imm w imm2)(hr:Rd w g.imm g.μ st.j2 v d)(hok:d.vok st.σ=true)
  (hs:∀l∈d.D0 st.σ,∀r,st.σ l=some r→Shown imm2 (g.μ l) r):Rd0 w imm2 v (d.view st.σ):=by
 cases d;case tup cs=>
  obtain⟨vs,rfl,hn,hc⟩:=hr.a6O;simp only[PV.vok,List.all_eq_true] at hok;simp only[PV.D0] at hs;refine .tup vs _ (by simpa using hn) λi v c hv hc'=>?_;rw[List.getElem?_map] at hc';cases hc0:cs[i]? with
  | none=>rw[hc0] at hc';cases hc'
  | some c0=>
   rw[hc0] at hc';cases hc';have hm:=List.mem_of_getElem? hc0;exact h.v3 hx (hc i v c0 hv hc0) (hok c0 hm) λl hl=>hs l (List.mem_flatMap.2 ⟨c0,hm,hl⟩)
 all_goals exact h.v3 hx hr hok hs
end
end Go.Pw
namespace Go.Pw
open Go.RowKit
def l5(P:Program)(t:TypeId):Option Nat:=(P.info? t).map (·.size)
def C2(P:Program)(t:TypeId):Option Nat:=(P.info? t).map (·.bytes)
def r4(P:Program)(t:TypeId):Option Value:=(P.info? t).bind (·.zero)
def B8(P:Program)(t:TypeId):Option Bool:=(P.underlying t).map λ| .struct _ | .array _ _=>true | _=>false
def r5(P:Program)(t:TypeId):Option TypeId:=match P.underlying t with | some (.slice e)=>some e | _=>none
def a9x(P:Program)(t:TypeId):Option (Nat × TypeId):=match P.underlying t with | some (.array n e)=>some (n,e) | _=>none
def O2(P:Program)(t:TypeId)(f:Nat):Option (Nat × TypeId):=
 match P.underlying t with
 | some (.struct fs)=>match fs[f]? with
  | some fd=>match l5 P fd.type with
   | some (_+1)=>some (fd.offset,fd.type)
   | _=>none
  | none=>none
 | _=>none
def b3b(P:Program)(t:TypeId):Option IntKind:=match P.underlying t with | some (.int k)=>some k | _=>none
def PV.w0:PV→PV
 | .lst _ xs=>.lst false xs
 | d=>d
def PV.w1:PV→PV
 | .agg cs=>.agg (cs.map PV.w0)
 | .rptr cs=>.rptr (cs.map PV.w0)
 | d=>d.w0
def PV.w2:PV→PV
 | .fn f cap=>.fn f (cap.map PV.w1)
 | d=>d.w1
def PV.w3:PV→PV
 | .tup vs=>.tup (vs.map PV.w2)
 | d=>d.w2
theorem b6F{d:PV}(h:d.sc=true):d.w0.sc=true:=by cases d <;> first | exact h | rfl
theorem b0G{cs:List PV}(h:cs.all PV.sc=true):(cs.map PV.w0).all PV.sc=true:=by
 rw[List.all_eq_true] at h ⊢;intro y hy;obtain⟨y0,h0,rfl⟩:=List.mem_map.1 hy;exact b6F (h y0 h0)
theorem U3{α β:Type}{f:α→β}{l:List α}{i:Nat}{c:β}(h:(l.map f)[i]? = some c):∃c0,l[i]? = some c0∧f c0=c:=by
 rw[List.getElem?_map] at h;cases hq:l[i]? with
 | none=>rw[hq] at h;cases h
 | some c0=>rw[hq] at h;exact⟨c0,rfl,by simpa using h⟩
theorem Rd0.w0{w:World}{imm:Nat→Nat→Prop}{v:Value}{d:PV}(h:Rd0 w imm v d):Rd0 w imm v d.w0:=by
 cases h with
 | lst A c z t xs u h1 h2 h3 h4 h5 h6=>exact .lst A c z false xs u h1 (λq=>by cases q) h3 h4 h5 h6
 | bool b=>exact .bool b
 | int k n=>exact .int k n
 | str s=>exact .str s
 | agg vs cs a b c=>exact .agg vs cs a b c
 | tup vs cs a b=>exact .tup vs cs a b
 | rptr b o cs u a b c=>exact .rptr _ o cs u a b c
 | fn f vs cap a b=>exact .fn f vs cap a b
 | nilfn=>exact .nilfn
 | abs R v a b=>exact .abs R v a b
 | junk v=>exact .junk v
theorem Rd0.w1{w:World}{imm:Nat→Nat→Prop}{v:Value}{d:PV}(h:Rd0 w imm v d):Rd0 w imm v d.w1:=by
 cases h with
 | lst A c z t xs u h1 h2 h3 h4 h5 h6=>exact .lst A c z false xs u h1 (λq=>by cases q) h3 h4 h5 h6
 | bool b=>exact .bool b
 | int k n=>exact .int k n
 | str s=>exact .str s
 | agg vs cs hsc hn hc=>
  refine .agg vs _ (b0G hsc) (by simpa using hn) λi v c hv hc'=>?_;obtain⟨c0,k1,rfl⟩:=U3 hc';exact (hc i v c0 hv k1).w0
 | tup vs cs a b=>exact .tup vs cs a b
 | rptr b o cs u hsc ha hc=>
  refine .rptr b o _ u (b0G hsc) (λj y hy=>?_) (λj y hy=>?_)
  ·obtain⟨c0,k1,rfl⟩:=U3 hy;exact ha j c0 k1
  ·obtain⟨c0,k1,rfl⟩:=U3 hy;exact (hc j c0 k1).w0
 | fn f vs cap a b=>exact .fn f vs cap a b
 | nilfn=>exact .nilfn
 | abs R v a b=>exact .abs R v a b
 | junk v=>exact .junk v
theorem Rd0.w2{w:World}{imm:Nat→Nat→Prop}{v:Value}{d:PV}(h:Rd0 w imm v d):Rd0 w imm v d.w2:=by
 by_cases e:∃f cs,d = .fn f cs
 ·obtain⟨f,cs,rfl⟩:=e;cases h with
  | fn f vs _ hn hc=>
   refine .fn f vs _ (by simpa using hn) λi v c hv hc'=>?_;obtain⟨c0,k1,rfl⟩:=U3 hc';exact (hc i v c0 hv k1).w1
 ·have:d.w2=d.w1:=by cases d <;> first | rfl | exact absurd ⟨_,_,rfl⟩ e
  rw[this];exact h.w1
theorem Rd0.w3{w:World}{imm:Nat→Nat→Prop}{v:Value}{d:PV}(h:Rd0 w imm v d):Rd0 w imm v d.w3:=by
 by_cases e:∃cs,d = .tup cs
 ·obtain⟨cs,rfl⟩:=e;cases h with
  | tup vs _ hn hc=>
   refine .tup vs _ (by simpa using hn) λi v c hv hc'=>?_;obtain⟨c0,k1,rfl⟩:=U3 hc';exact (hc i v c0 hv k1).w2
 ·have:d.w3=d.w2:=by cases d <;> first | rfl | exact absurd ⟨_,rfl⟩ e
  rw[this];exact h.w2
section
variable{w:World}{imm:Nat→Nat→Prop}{μ:Nat→A6}{j2:Nat→Prop}
theorem Rd.w0{v:Value}{d:PV}(h:Rd w imm μ j2 v d):Rd w imm μ j2 v d.w0:=by
 cases h with
 | cl h=>exact .cl h.w0
 | agg vs cs a b c=>exact .agg vs cs a b c
 | tup vs cs a b=>exact .tup vs cs a b
 | fn f vs cap a b=>exact .fn f vs cap a b
 | sl l a=>exact .sl l a
 | mp l b a c d=>exact .mp l b a c d
 | ptr l i f b s a c=>exact .ptr l i f b s a c
theorem Rd.w1{v:Value}{d:PV}(h:Rd w imm μ j2 v d):Rd w imm μ j2 v d.w1:=by
 cases h with
 | cl h=>exact .cl h.w1
 | agg vs cs hsc hn hc=>
  refine .agg vs _ (b0G hsc) (by simpa using hn) λi v c hv hc'=>?_;obtain⟨c0,k1,rfl⟩:=U3 hc';exact (hc i v c0 hv k1).w0
 | tup vs cs a b=>exact .tup vs cs a b
 | fn f vs cap a b=>exact .fn f vs cap a b
 | sl l a=>exact .sl l a
 | mp l b a c d=>exact .mp l b a c d
 | ptr l i f b s a c=>exact .ptr l i f b s a c
theorem Rd.w2{v:Value}{d:PV}(h:Rd w imm μ j2 v d):Rd w imm μ j2 v d.w2:=by
 by_cases e:∃f cs,d = .fn f cs
 ·obtain⟨f,cs,rfl⟩:=e;cases h with
  | cl h=>exact .cl h.w2
  | fn f vs _ hn hc=>
   refine .fn f vs _ (by simpa using hn) λi v c hv hc'=>?_;obtain⟨c0,k1,rfl⟩:=U3 hc';exact (hc i v c0 hv k1).w1
 ·have:d.w2=d.w1:=by cases d <;> first | rfl | exact absurd ⟨_,_,rfl⟩ e
  rw[this];exact h.w1
end
def PV.vw(σ:Nat→Option Row)(d:PV):PV:=(d.view σ).w2
def b0z:World→(Nat→Nat→Prop)→Value→Prop:=λ_ _ v=>v = .map none
def PV.a9q:Value→PV
 | .bool b=>.bool b
 | .int k n=>.int k n
 | .string s=>.str s
 | .slice none 0 0=>.lst true []
 | .nilFunc=>.nilfn
 | .map none=>.abs b0z
 | _=>.junk
def PV.ofV:Value→PV
 | .agg vs=>if (vs.toList.map PV.a9q).all PV.sc then .agg (vs.toList.map PV.a9q) else .junk
 | .tuple vs=>if vs.toList.isEmpty then .tup [] else .junk
 | v=>PV.a9q v
theorem b1B(w:World)(imm:Nat→Nat→Prop)(v:Value):Rd0 w imm v (PV.a9q v):=by
 unfold PV.a9q;split;·exact .bool _
 ·exact .int _ _
 ·exact .str _
 ·exact .lst none 0 1 true [] (λ_ _=>undef) (Nat.le_refl _) (λ_=>rfl) (λ_=>rfl) (λ_ q=>by simp at q) (λq=>absurd q (Nat.lt_irrefl _)) (λi x j y q=>by simp at q)
 ·exact .nilfn
 ·exact .abs _ _ rfl λ_ _ _=>rfl
 ·exact .junk _
theorem a5Q(w:World)(imm:Nat→Nat→Prop)(v:Value):Rd0 w imm v (PV.ofV v):=by
 unfold PV.ofV;split
 ·rename_i vs;split
  ·rename_i h;refine .agg vs _ h (by simp) λi v c hv hc=>?_;rw[List.getElem?_map] at hc;have:vs.toList[i]? = some v:=by simpa using hv
   rw[this] at hc;cases hc;exact b1B w imm v
  ·exact .junk _
 ·rename_i vs;split
  ·rename_i h;refine .tup vs [] (by simpa using h) λi v c hv hc=>by simp at hc
  ·exact .junk _
 ·exact b1B w imm _
def p6(env:Nat→PV):Operand→PV
 | .tmp t=>if t<1000000 then env t else .junk
 | .const v=>PV.ofV v
 | .global _=>.junk
 | .func f=>.fn (.func f) []
section
variable{X:Ctx}{g:Gh}{st:St}{a:Act}{w:World}
theorem r7.eval(h:r7 X g st a w)(x:Operand):Rd w g.imm g.μ st.j2 (a.eval x) (p6 st.env x):=by
 cases x with
 | tmp t=>
  have:=h.env t;unfold Ctx.val at this;unfold p6;by_cases q:t<1000000
  ·rw[if_pos q] at this;simp only[if_pos q];exact this
  ·simp only[if_neg q];exact .cl (.junk _)
 | const v=>exact .cl (a5Q _ _ _)
 | global g=>exact .cl (.junk _)
 | func f=>exact .cl (.fn _ #[] [] rfl λi v c _ hc=>by simp at hc)
theorem r7.b2D(h:r7 X g st a w)(t:Nat):Rd w g.imm g.μ st.j2 (a.tmps.getD t undef) (p6 st.env (.tmp t)):=h.eval (.tmp t)
theorem Rd.P0{w:World}{imm:Nat→Nat→Prop}{μ:Nat→A6}{j2:Nat→Prop}{v:Value}{b:Bool}(h:Rd w imm μ j2 v (.bool b)):v = .bool b:=by
 cases h with | cl h=>cases h;rfl
theorem Rd.A9{w:World}{imm:Nat→Nat→Prop}{μ:Nat→A6}{j2:Nat→Prop}{v:Value}{k:IntKind}{n:Int}(h:Rd w imm μ j2 v (.int k n)):v = .int k n:=by
 cases h with | cl h=>cases h;rfl
theorem Rd.V1{w:World}{imm:Nat→Nat→Prop}{μ:Nat→A6}{j2:Nat→Prop}{v:Value}{s:ByteArray}(h:Rd w imm μ j2 v (.str s)):v = .string s:=by
 cases h with | cl h=>cases h;rfl
theorem Rd.J9{w:World}{imm:Nat→Nat→Prop}{μ:Nat→A6}{j2:Nat→Prop}{v:Value}{l i f:Nat}(h:Rd w imm μ j2 v (.ptr l i f)) :
  j2 l∧∃b s,(μ l).A=some ⟨b,s,none⟩∧v = .pointer (some ⟨b,s+i*(μ l).z+f,none⟩):=by
 cases h with
 | cl h=>cases h
 | ptr _ _ _ b s hp hA=>exact⟨hp,b,s,hA,rfl⟩
theorem Rd.O6{w:World}{imm:Nat→Nat→Prop}{μ:Nat→A6}{j2:Nat→Prop}{v:Value}{l:Nat}(h:Rd w imm μ j2 v (.sl l)) :
  j2 l∧v = .slice (μ l).A (μ l).n (μ l).C:=by
 cases h with
 | cl h=>cases h
 | sl _ hp=>exact⟨hp,rfl⟩
theorem Rd.a7u{w:World}{imm:Nat→Nat→Prop}{μ:Nat→A6}{j2:Nat→Prop}{v:Value}{l:Nat}(h:Rd w imm μ j2 v (.mp l)) :
  j2 l∧MB≤l∧∃b,(μ l).A=some ⟨b,0,none⟩∧v = .map (some b):=by
 cases h with
 | cl h=>cases h
 | mp _ b hp hl hA=>exact⟨hp,hl,b,hA,rfl⟩
theorem Rd.P5{w:World}{imm:Nat→Nat→Prop}{μ:Nat→A6}{j2:Nat→Prop}{v:Value}{cs:List PV}(h:Rd w imm μ j2 v (.rptr cs)) :
  ∃b o,∃u:Nat→Value,v = .pointer (some ⟨b,o,none⟩)∧cs.all PV.sc=true∧∀(j:Nat) y,cs[j]? = some y→imm b (o+j)∧w.cell? ⟨b,o+j,none⟩=some (u j)∧Rd0 w imm (u j) y:=by
 cases h with
 | cl h=>cases h with | rptr b o _ u hsc hA h=>exact⟨b,o,u,rfl,hsc,λj y hy=>⟨(hA j y hy).1,(hA j y hy).2,h j y hy⟩⟩
theorem Rd.W8{w:World}{imm:Nat→Nat→Prop}{μ:Nat→A6}{j2:Nat→Prop}{v:Value}{t:Bool}{xs:List PV}(h:Rd w imm μ j2 v (.lst t xs)) :
  ∃A c z,∃u:Nat→Nat→Value,v = .slice A xs.length c∧xs.length≤c∧(t=true→c=xs.length)∧(A=none→c=0)∧(∀x∈xs,x.el=true∧x.cells.length=z) ∧
   (0<xs.length→∃b s,A=some ⟨b,s,none⟩∧∀(i:Nat) x (j:Nat) y,xs[i]? = some x→x.cells[j]? = some y →
    imm b (s+i*z+j)∧w.cell? ⟨b,s+i*z+j,none⟩=some (u i j)) ∧
   (∀(i:Nat) x (j:Nat) y,xs[i]? = some x→x.cells[j]? = some y→Rd0 w imm (u i j) y):=by
 cases h with
 | cl h=>cases h with | lst A c z _ _ u h1 h2 h3 h4 h5 h6=>exact⟨A,c,z,u,rfl,h1,h2,h3,h4,h5,h6⟩
theorem Rd.a83{w:World}{imm:Nat→Nat→Prop}{μ:Nat→A6}{j2:Nat→Prop}{v:Value}{cs:List PV}(h:Rd w imm μ j2 v (.agg cs)):cs.all PV.sc=true:=by
 cases h with
 | cl h=>cases h;assumption
 | agg _ _ hsc=>exact hsc
theorem w4{P:Program}{t:TypeId}{n:Nat}(h:l5 P t=some n)(w:World):(sizeOf t).run P w = .ok n w:=by
 unfold l5 at h;cases hi:P.info? t with
 | none=>rw[hi] at h;cases h
 | some i=>rw[hi] at h;simp at h;simp[sizeOf,typeInfo,hi,h]
theorem a2d{P:Program}{t:TypeId}{b:Bool}(h:B8 P t=some b)(w:World):(isAgg t).run P w = .ok b w:=by
 unfold B8 at h;cases hi:P.underlying t with
 | none=>rw[hi] at h;cases h
 | some i=>
  rw[hi] at h;simp only[Option.map_some,Option.some.injEq] at h;subst h;simp only[isAgg,Sem.run_bind,run_underlying hi,Result.andThen_ok];cases i <;> rfl
theorem a1v{P:Program}{t:TypeId}{v:Value}(h:r4 P t=some v)(w:World):(zeroValue t).run P w = .ok v w:=by
 unfold r4 at h;cases hi:P.info? t with
 | none=>rw[hi] at h;cases h
 | some i=>rw[hi] at h;simp at h;simp[zeroValue,typeInfo,hi,h]
theorem B0(b o n:Nat):(⟨b,o,none⟩:Addr).add n=⟨b,o+n,none⟩:=by
 unfold Addr.add;split;·simp_all
 ·rfl
theorem P9{P:Program}{t:TypeId}{n b o:Nat}(ha:B8 P t=some true)(hs:l5 P t=some n)(u:Nat→Value)
  (h:∀j,j<n→w.cell? ⟨b,o+j,none⟩=some (u j)):(loadVar t ⟨b,o,none⟩).run P w = .ok (.agg ((List.range n).map u).toArray) w:=by
 have:=run_loadCells (P:=P) w ⟨b,o,none⟩ n u (λj hj=>by rw[B0];exact h j hj);simp only[loadVar,Sem.run_bind,a2d ha,Result.andThen_ok,if_true,w4 hs,this];rfl
theorem Q0{P:Program}{t:TypeId}{b o:Nat}{u:Value}(ha:B8 P t=some false)(h:w.cell? ⟨b,o,none⟩=some u) :
  (loadVar t ⟨b,o,none⟩).run P w = .ok u w:=by
 simp only[loadVar,Sem.run_bind,a2d ha,Result.andThen_ok,Bool.false_eq_true,if_false,load,Sem.run,h]
theorem a9t{P:Program}{t:TypeId}{n b o:Nat}{v:Value}(hs:l5 P t=some n)(hn:v.cells.size=n)
  (hc:∀j,j<n→(w.cell? ⟨b,o+j,none⟩).isSome=true∧w.frozen? ⟨b,o+j,none⟩=false)(h1:∀u∈v.cells.toList,one u=true) :
  (storeVar t ⟨b,o,none⟩ v).run P w = .ok () (w.setCells b o v.cells.toList):=by
 have:=run_storeCells_cells (P:=P) b o v.cells.toList 0 w (λj hj=>by simpa using (hc j (by simpa[hn] using hj)).1)
  (λj hj=>by simpa using (hc j (by simpa[hn] using hj)).2) (λu hu=>by rw[←a9r];exact h1 u hu)
 simp only[storeVar,Sem.run_bind,w4 hs,Result.andThen_ok,hn,ne_eq,not_true_eq_false,if_false];simpa using this
end
def RdL(w:World)(imm:Nat→Nat→Prop)(vs:Array Value)(ds:List PV):Prop:=
 vs.size=ds.length∧∀(i:Nat) v d,vs[i]? = some v→ds[i]? = some d→Rd0 w imm v d
def Z1(imm:Nat→Nat→Prop)(w w':World):Nat→Nat→Prop:=λb o=>imm b o∨(w.heap.size≤b∧b<w'.heap.size)
def E5(P:Program)(f:FuncId)(ds:List PV)(d:PV):Prop:=
 ∀(w:World) (imm:Nat→Nat→Prop) (vs:Array Value),(∀b o,imm b o→b<w.heap.size)→GT P w→RdL w imm vs ds →
  Calls P f vs w λe w'=>∃v,e = .returned v∧Bel w.heap.size w w'∧Rd0 w' (Z1 imm w w') v d
def a1E(P:Program)(f:FuncId)(ds:List PV)(r:Row):Prop:=
 ∀(w:World) (imm:Nat→Nat→Prop) (vs:Array Value),(∀b o,imm b o→b<w.heap.size)→GT P w→RdL w imm vs ds →
  Calls P f vs w λe w'=>∃m:A6,e = .returned (.slice m.A m.n m.C)∧Bel w.heap.size w w' ∧
   a2K w.heap.size w' (λb o=>Z1 imm w w' b o∧¬A2 m r b o) (λ_=>m) (λ_=>False) m r∧∀b o,A2 m r b o→w.heap.size≤b
def PV.a7h:PV→Bool
 | .bool _ | .int .. | .str _=>true
 | _=>false
def PV.b4O:PV→Bool
 | .agg cs=>cs.all PV.a7h
 | d=>d.a7h
def PV.flat:PV→Bool
 | .agg cs=>cs.all PV.a7h
 | .tup cs=>cs.all PV.b4O
 | d=>d.a7h
inductive G8 where
 | none
 | new (l:Nat) (r:Row)
 | app (s l:Nat) (r:Row)
 | sto (l i f:Nat) (cs:List PV)
 | cpy (l:Nat) (ys:List PV)
 | frz (ls:List Nat)
 | frzN (ls:List Nat) (l:Nat) (r:Row)
def b0g(x:PV):List PV→PV
 | [c]=>c
 | _=>x
def R7(x:PV)(f:Nat)(cs:List PV):PV:=
 match x with
 | .agg es=>.agg (es.take f++cs++es.drop (f+cs.length))
 | x=>b0g x cs
def G8.apply(σ:Nat→Option Row):G8→Nat→Option Row
 | .none=>σ
 | .new l r=>o0 σ l (some r)
 | .app s l r=>o0 (match σ s with | some q=>o0 σ s (some { q with lo:=q.els.length,opn:=false }) | Option.none=>σ) l (some r)
 | .sto l i f cs=>match σ l with
  | some q=>match q.els[i]? with
   | some x=>o0 σ l (some { q with els:=q.els.set i (R7 x f cs),cl:=q.cl&&cs.all PV.K1 })
   | Option.none=>σ
  | Option.none=>σ
 | .cpy l ys=>match σ l with
  | some q=>o0 σ l (some { q with els:=ys++q.els.drop ys.length })
  | Option.none=>σ
 | .frz ls=>F6 σ ls
 | .frzN ls l r=>o0 (F6 σ ls) l (some r)
def G8.ok(σ:Nat→Option Row):G8→Prop
 | .none=>True
 | .new l _=>σ l=Option.none
 | .app s l _=>σ l=Option.none∧∃q,σ s=some q∧q.opn=true
 | .sto l i f cs=>∃q x,σ l=some q∧q.els[i]? = some x∧q.lo≤i∧f+cs.length≤x.cells.length∧cs.all PV.sc=true
 | .cpy l ys=>∃q,σ l=some q∧q.lo=0∧ys.length≤q.els.length
 | .frz _=>True
 | .frzN _ l _=>σ l=Option.none
def b2z:BinOp→Int→Int→Option Bool
 | .eql,a,b=>some (a==b)
 | .neq,a,b=>some (a != b)
 | .lss,a,b=>some (decide (a<b))
 | .leq,a,b=>some (decide (a≤b))
 | .gtr,a,b=>some (decide (a > b))
 | .geq,a,b=>some (decide (a≥b))
 | _,_,_=>none
def b2v(k:IntKind):BinOp→Int→Int→Option Int
 | .add,a,b=>some (k.wrap (a+b))
 | .sub,a,b=>some (k.wrap (a-b))
 | .mul,a,b=>some (k.wrap (a*b))
 | .quo,a,b=>if b=0 then none else some (k.wrap (a.tdiv b))
 | .rem,a,b=>if b=0 then none else some (a.tmod b)
 | _,_,_=>none
def a2t(place:Nat→Option (Nat × Nat))(cs:List PV):List (Nat × PV)→Option (List PV)
 | []=>some cs
 | (i,d)::rest=>
  match place i with
  | none=>none
  | some (off,size)=>if d.cells.length≠size∨cs.length<off+d.cells.length∨d.el=false then none
   else a2t place (cs.take off++d.cells++cs.drop (off+d.cells.length)) rest
def w6(P:Program)(t:TypeId):Option (Nat→Option (Nat × Nat)):=
 match P.underlying t with
 | some (.array _ e)=>(P.info? e).map λie i=>some (i*ie.size,ie.size)
 | some (.struct fields)=>(fields.toList.mapM (λf=>(P.info? f.type).map λi=>(f.offset,i.size))).map λplaces i=>places.toArray[i]?
 | _=>none
def Src(σ:Nat→Option Row)(d:PV)(ys:List PV)(cl:Bool):Prop:=
 (∃t,d = .lst t ys∧cl=true)∨(∃l r,d = .sl l∧σ l=some r∧ys=r.els∧cl=r.cl)
def Bnd(ρ:Operand→PV)(x:Option Operand)(dflt n:Nat):Prop:=
 match x with
 | some y=>∃k,ρ y = .int k n
 | none=>n=dflt
inductive u6 (P:Program) (σ:Nat→Option Row) (ρ:Operand→PV) (dst:Option Tmp):Op→PV→G8→Prop
 | pureV (op d) (hnd:∀c,op ≠ .defer c) (hnl:∀T x,op ≠ .load T x) (h:∀(o:Oper) (w:World) (imm:Nat→Nat→Prop) (μ:Nat→A6) (j2:Nat→Prop) (ev:Operand→Value),o.op=op→(∀x,x∈op.operands→Rd w imm μ j2 (ev x) (ρ x)) →
   ∃u,(execOp ev o).run P w = .ok (.value u) w∧Rd w imm μ j2 u d):u6 P σ ρ dst op d .none
 | move (x):u6 P σ ρ dst (.move x) (ρ x) .none
 | assign (x):u6 P σ ρ dst (.assign x) (ρ x) .none
 | pick (c a b t) (h:ρ c = .bool t):u6 P σ ρ dst (.pick c a b) (if t then ρ a else ρ b) .none
 | box (T x l) (hd:dst=some l) (hx:(ρ x).el=true):u6 P σ ρ dst (.box T x) (.ptr l 0 0) (.new l ⟨[ρ x],0,false,(ρ x).cells.length,(ρ x).Y3⟩)
 | alloc (T l v) (hd:dst=some l) (hz:r4 P T=some v) (hx:(PV.ofV v).el=true) :
   u6 P σ ρ dst (.alloc T) (.ptr l 0 0) (.new l ⟨[PV.ofV v],0,false,(PV.ofV v).cells.length,true⟩)
 | a2w (T x l i f r y n) (hx:ρ x = .ptr l i f) (hl:σ l=some r) (hy:r.els[i]? = some y) (ha:B8 P T=some true) (hs:l5 P T=some n) (hf:f+n≤y.cells.length) :
   u6 P σ ρ dst (.load T x) (.agg ((y.cells.drop f).take n)) .none
 | a1r (T x l i f r y d) (hx:ρ x = .ptr l i f) (hl:σ l=some r) (hy:r.els[i]? = some y) (ha:B8 P T=some false) (hf:y.cells[f]? = some d) :
   u6 P σ ρ dst (.load T x) d .none
 | Y8 (T x cs n) (hx:ρ x = .rptr cs) (ha:B8 P T=some true) (hs:l5 P T=some n) (hf:n≤cs.length) :
   u6 P σ ρ dst (.load T x) (.agg (cs.take n)) .none
 | Y9 (T x cs d) (hx:ρ x = .rptr cs) (ha:B8 P T=some false) (hf:cs[0]? = some d) :
   u6 P σ ρ dst (.load T x) d .none
 | store (T x y l i f d) (hx:ρ x = .ptr l i f) (hd:ρ y=d∨(ρ y).w1=d) (hy:d.el=true) (hs:l5 P T=some d.cells.length) (hpos:0<d.cells.length) :
   u6 P σ ρ dst (.store T x y) (.tup []) (.sto l i f d.cells)
 | nilCheckP (x l i f) (hx:ρ x = .ptr l i f):u6 P σ ρ dst (.nilCheck x) (ρ x) .none
 | nilCheckR (x cs) (hx:ρ x = .rptr cs):u6 P σ ρ dst (.nilCheck x) (ρ x) .none
 | not (t x b) (hx:ρ x = .bool b):u6 P σ ρ dst (.unOp .not t x) (.bool (!b)) .none
 | neg (t x k n) (hx:ρ x = .int k n):u6 P σ ρ dst (.unOp .neg t x) (.int k (k.wrap (0-n))) .none
 | ari (op t u x y k a b r) (hx:ρ x = .int k a) (hy:ρ y = .int k b) (hr:b2v k op a b=some r):u6 P σ ρ dst (.binOp op t x y u) (.int k r) .none
 | cmp (op t u x y k a b r) (hx:ρ x = .int k a) (hy:ρ y = .int k b) (hr:b2z op a b=some r):u6 P σ ρ dst (.binOp op t x y u) (.bool r) .none
 | eqB (t u x y a b) (hx:ρ x = .bool a) (hy:ρ y = .bool b) (ht:P.underlying t=some .bool):u6 P σ ρ dst (.binOp .eql t x y u) (.bool (a==b)) .none
 | neB (t u x y a b) (hx:ρ x = .bool a) (hy:ρ y = .bool b) (ht:P.underlying t=some .bool):u6 P σ ρ dst (.binOp .neq t x y u) (.bool (a != b)) .none
 | eqS (t u x y a b) (hx:ρ x = .str a) (hy:ρ y = .str b):u6 P σ ρ dst (.binOp .eql t x y u) (.bool (a.toList==b.toList)) .none
 | neS (t u x y a b) (hx:ρ x = .str a) (hy:ρ y = .str b):u6 P σ ρ dst (.binOp .neq t x y u) (.bool (!(a.toList==b.toList))) .none
 | conv (s t x k k' n) (hx:ρ x = .int k' n) (hs:(P.underlying s).isSome=true) (ht:b3b P t=some k):u6 P σ ρ dst (.convert s t x) (.int k (k.wrap n)) .none
 | fieldAddrP (T x f l i q off ft) (hx:ρ x = .ptr l i q) (ho:O2 P T f=some (off,ft)):u6 P σ ρ dst (.fieldAddr T x f) (.ptr l i (q+off)) .none
 | fieldAddrR (T x f cs off ft) (hx:ρ x = .rptr cs) (ho:O2 P T f=some (off,ft)):u6 P σ ρ dst (.fieldAddr T x f) (.rptr (cs.drop off)) .none
 | fieldA (T x f cs off ft n) (hx:ρ x = .agg cs) (ho:O2 P T f=some (off,ft)) (ha:B8 P ft=some true) (hs:l5 P ft=some n) (hn:off+n≤cs.length) :
   u6 P σ ρ dst (.field T x f) (.agg ((cs.drop off).take n)) .none
 | fieldS (T x f cs off ft d) (hx:ρ x = .agg cs) (ho:O2 P T f=some (off,ft)) (ha:B8 P ft=some false) (hd:cs[off]? = some d) :
   u6 P σ ρ dst (.field T x f) d .none
 | idxL (T x y t xs k n e E) (hx:ρ x = .lst t xs) (hy:ρ y = .int k n) (h0:0≤n) (he:xs[n.toNat]? = some e) (hE:r5 P T=some E) (hz:l5 P E=some e.cells.length) :
   u6 P σ ρ dst (.indexAddr T x y) (.rptr e.cells) .none
 | idxR (T x y l r k n E) (hx:ρ x = .sl l) (hl:σ l=some r) (hy:ρ y = .int k n) (h0:0≤n) (hn:n.toNat<r.els.length) (hE:r5 P T=some E) (hz:l5 P E=some r.z) :
   u6 P σ ρ dst (.indexAddr T x y) (.ptr l n.toNat 0) .none
 | idxA (T x y l i f k n) (len:Nat) (E z) (hx:ρ x = .ptr l i f) (hy:ρ y = .int k n) (h0:0≤n) (hn:n<(len:Int)) (hE:a9x P T=some (len,E)) (hz:l5 P E=some z) :
   u6 P σ ρ dst (.indexAddr T x y) (.ptr l i (f+n.toNat*z)) .none
 | idxRA (T x y cs k n) (len:Nat) (E z) (hx:ρ x = .rptr cs) (hy:ρ y = .int k n) (h0:0≤n) (hn:n<(len:Int)) (hE:a9x P T=some (len,E)) (hz:l5 P E=some z) :
   u6 P σ ρ dst (.indexAddr T x y) (.rptr (cs.drop (n.toNat*z))) .none
 | extract (x i ds d) (hx:ρ x = .tup ds) (hd:ds[i]? = some d):u6 P σ ρ dst (.extract x i) d .none
 | build (T parts pl z zs cs) (hpl:w6 P T=some pl) (hz:r4 P T=some z) (hzs:PV.ofV z = .agg zs) (hsc:cs.all PV.sc=true) (hf:a2t pl zs (parts.toList.map λp=>(p.1,(ρ p.2).w1))=some cs) :
   u6 P σ ρ dst (.build T parts) (.agg cs) .none
 | mkFunc (fn cap):u6 P σ ρ dst (.makeFunc fn #[] cap) (.fn fn (cap.toList.map ρ)) .none
 | mkSlice (T x y l k k' n E z v) (hd:dst=some l) (hx:ρ x = .int k n) (hy:ρ y = .int k' n) (h0:0≤n) (hE:r5 P T=some E) (hz:l5 P E=some z) (hv:r4 P E=some v)
   (hel:((PV.ofV v).w1).el=true) (hvz:((PV.ofV v).w1).cells.length=z) (b:Nat) (hb:C2 P E=some b) (hbm:b*n≤281474976710656) (hn:n≤9223372036854775807) :
   u6 P σ ρ dst (.makeSlice T x y) (.sl l) (.new l ⟨List.replicate n.toNat ((PV.ofV v).w1),0,true,z,true⟩)
 | lenL (x t xs T) (hx:ρ x = .lst t xs) (hT:(r5 P T).isSome=true) (ts) (hts:ts[0]? = some T) :
   u6 P σ ρ dst (.call { callee:=.builtin .len,args:=#[x],argTypes:=ts }) (.int .i64 xs.length) .none
 | lenR (x l r T) (hx:ρ x = .sl l) (hl:σ l=some r) (hT:(r5 P T).isSome=true) (ts) (hts:ts[0]? = some T) :
   u6 P σ ρ dst (.call { callee:=.builtin .len,args:=#[x],argTypes:=ts }) (.int .i64 r.els.length) .none
 | lenS (x s T) (hx:ρ x = .str s) (hT:P.underlying T=some .string) (ts) (hts:ts[0]? = some T) :
   u6 P σ ρ dst (.call { callee:=.builtin .len,args:=#[x],argTypes:=ts }) (.int .i64 s.size) .none
 | min2 (x y k a b ts) (hx:ρ x = .int k a) (hy:ρ y = .int k b):u6 P σ ρ dst (.call { callee:=.builtin .min,args:=#[x,y],argTypes:=ts }) (.int k (if b<a then b else a)) .none
 | max2 (x y k a b ts) (hx:ρ x = .int k a) (hy:ρ y = .int k b):u6 P σ ρ dst (.call { callee:=.builtin .max,args:=#[x,y],argTypes:=ts }) (.int k (if b > a then b else a)) .none
 | call (f args ts cap d) (x) (hf:ρ x = .fn (.func f) cap) (hb:∃fn c,P.funcs[f]? = some fn∧fn.body=some c∧fn.name ≠ "runtime.NumGoroutine")
   (hok:(args.toList.map ρ++cap).all (PV.vok σ)=true) (h:E5 P f ((args.toList.map ρ++cap).map (PV.vw σ)) d) (hfl:d.flat=true) :
   u6 P σ ρ dst (.call { callee:=.value x,args,argTypes:=ts }) d .none
 | callF (f args ts cap d) (x) (hf:ρ x = .fn (.func f) cap) (hb:∃fn c,P.funcs[f]? = some fn∧fn.body=some c∧fn.name ≠ "runtime.NumGoroutine")
   (hok:(args.toList.map ρ++cap).all (PV.vok σ)=true) (h:E5 P f ((args.toList.map ρ++cap).map (PV.vw σ)) d) :
   u6 P σ ρ dst (.call { callee:=.value x,args,argTypes:=ts }) d (.frz ((args.toList.map ρ++cap).flatMap (PV.D0 σ)))
 | callN (f args ts cap l r) (x) (hd:dst=some l) (hf:ρ x = .fn (.func f) cap) (hb:∃fn c,P.funcs[f]? = some fn∧fn.body=some c∧fn.name ≠ "runtime.NumGoroutine")
   (hok:(args.toList.map ρ++cap).all (PV.vok σ)=true) (h:a1E P f ((args.toList.map ρ++cap).map (PV.vw σ)) r) (hcl:r.cl=true) :
   u6 P σ ρ dst (.call { callee:=.value x,args,argTypes:=ts }) (.sl l) (.frzN ((args.toList.map ρ++cap).flatMap (PV.D0 σ)) l r)
 | appT (x y T E xs ys cl z by_ l zv) (hd:dst=some l) (hx:ρ x = .lst true xs) (hy:Src σ (ρ y) ys cl) (hE:r5 P T=some E) (hz:l5 P E=some z) (hb:C2 P E=some by_) (hzv:r4 P E=some zv)
   (hzz:zv.cells.size=z) (hel:∀e∈xs++ys,e.cells.length=z) (hfit:(xs.length+ys.length)*by_≤140737488355328) (h63:xs.length+ys.length≤9223372036854775807) :
   u6 P σ ρ dst (.call { callee:=.builtin .append,args:=#[x,y],argTypes:=#[T,T] }) (.sl l) (.new l ⟨xs++ys,xs.length,true,z,cl⟩)
 | appR (x y T E s r ys cl z by_ l zv) (hd:dst=some l) (hx:ρ x = .sl s) (hs:σ s=some r) (hy:Src σ (ρ y) ys cl) (hE:r5 P T=some E) (hz:l5 P E=some z) (hb:C2 P E=some by_) (hzv:r4 P E=some zv)
   (hzz:zv.cells.size=z) (hel:∀e∈r.els++ys,e.cells.length=z) (hrz:r.z=z) (hfit:(r.els.length+ys.length)*by_≤140737488355328) (h63:r.els.length+ys.length≤9223372036854775807) :
   u6 P σ ρ dst (.call { callee:=.builtin .append,args:=#[x,y],argTypes:=#[T,T] }) (.sl l) (.app s l ⟨r.els++ys,r.els.length,true,z,r.cl&&cl⟩)
 | buildSlice (T E parts len z l zv els cl) (hd:dst=some l) (hE:r5 P T=some E) (hz:l5 P E=some z) (hzv:r4 P E=some zv) (hlen:els.length=len) (hel:∀x∈els,x.el=true∧x.cells.length=z)
   (hbig:len*z≤2 ^ 24) (hf:a2t (λi=>some (i*z,z)) (List.replicate (len*z) .junk) (parts.toList.map λp=>(p.1,(ρ p.2).w1))=some (els.flatMap PV.cells))
   (hcl:cl=true→els.all (λx=>x.cells.all PV.K1)=true):u6 P σ ρ dst (.buildSlice T len parts) (.sl l) (.new l ⟨els,0,true,z,cl⟩)
 | buildI (T E parts len z zv els) (hE:r5 P T=some E) (hz:l5 P E=some z) (hzv:r4 P E=some zv) (hlen:els.length=len) (hel:∀x∈els,x.el=true∧x.cells.length=z)
   (hbig:len*z≤2 ^ 24) (hf:a2t (λi=>some (i*z,z)) (List.replicate (len*z) .junk) (parts.toList.map λp=>(p.1,(ρ p.2).w1))=some (els.flatMap PV.cells))
   (hcl:els.all (λx=>x.cells.all PV.K1)=true):u6 P σ ρ dst (.buildSlice T len parts) (.lst true els) .none
 | nilSlice (T E parts l z) (hd:dst=some l) (hE:r5 P T=some E) (hz:l5 P E=some z) (hp:parts = #[]):u6 P σ ρ dst (.buildSlice T 0 parts) (.lst true []) .none
 | sliceL (T E z x lo hi mx t xs i j k) (hx:ρ x = .lst t xs) (hE:r5 P T=some E) (hz:l5 P E=some z) (hel:∀e∈xs,e.cells.length=z) (hlo:Bnd ρ lo 0 i) (hhi:Bnd ρ hi xs.length j) (hmx:Bnd ρ mx xs.length k)
   (hmh:mx.isSome=true→hi.isSome=true) (hij:i≤j) (hjk:j≤k) (hk:k≤xs.length) :
   u6 P σ ρ dst (.slice T x lo hi mx) (.lst (if mx.isSome then decide (j=k) else t&&decide (j=xs.length)) ((xs.take j).drop i)) .none
 | sliceR (T E z x lo s r i l) (hd:dst=some l) (hx:ρ x = .sl s) (hs:σ s=some r) (hE:r5 P T=some E) (hz:l5 P E=some z) (hrz:r.z=z) (hlo:Bnd ρ lo 0 i) (hi:i≤r.els.length) :
   u6 P σ ρ dst (.slice T x lo none none) (.sl l) (.app s l ⟨r.els.drop i,r.els.length-i,true,z,r.cl⟩)
 | sliceF (T E z x lo hi s r i j) (hx:ρ x = .sl s) (hs:σ s=some r) (hcl:r.cl=true) (hE:r5 P T=some E) (hz:l5 P E=some z) (hrz:r.z=z) (hlo:Bnd ρ lo 0 i) (hhi:Bnd ρ hi r.els.length j) (hij:i≤j) (hj:j≤r.els.length) :
   u6 P σ ρ dst (.slice T x lo hi none) (.lst false ((r.els.take j).drop i)) (.frz [s])
 | copy (x y T U E l r ys z) (hx:ρ x = .sl l) (hl:σ l=some r) (hcl:r.cl=true) (hy:Src σ (ρ y) ys true) (hE:r5 P T=some E) (hz:l5 P E=some z) (hrz:r.z=z) (hel:∀e∈ys,e.cells.length=z) (hn:ys.length≤r.els.length) (hzp:0<z) :
   u6 P σ ρ dst (.call { callee:=.builtin .copy,args:=#[x,y],argTypes:=#[T,U] }) (.int .i64 ys.length) (.cpy l ys)
end Go.Pw
namespace Go.Pw
open Go.RowKit
def FX(ρ:Option Nat):Fence:={ fn:=λ_=>True,depth:=none,alive:=false,round:=ρ }
section
variable{X:Ctx}{g:Gh}{st:St}{a:Act}{w:World}{o:Oper}{n:Nat}{K:Act→World→Prop}{Q:Exit→Act→World→Prop}{ρ:Option Nat}{P:Program}
theorem w5{v:Value}{w':World}(hd:∀c,o.op ≠ .defer c)(h:(execOp a.eval o).run P w = .ok (.value v) w')(hk:K (a.put o.dst v) w') :
  o.wpIn (FX ρ) n P a w K Q:=by
 refine⟨λ_ _=>trivial,?_⟩;rw[Oper.semAt_eq _ _ _ hd,h];exact hk
theorem a5M{w':World}(hd:∀c,o.op ≠ .defer c)(h:(execOp a.eval o).run P w = .ok .skip w')(hk:K (a.put o.dst undef) w') :
  o.wpIn (FX ρ) n P a w K Q:=by
 refine⟨λ_ _=>trivial,?_⟩;rw[Oper.semAt_eq _ _ _ hd,h];exact hk
theorem M8{f:FuncId}{args:Array Value}{w':World}(hd:∀c,o.op ≠ .defer c)(h:(execOp a.eval o).run P w = .ok (.enter f args) w')
  (hc:Calls P f args w' λe w''=>∃v,e = .returned v∧K (a.put o.dst v) w''):o.wpIn (FX ρ) n P a w K Q:=by
 refine⟨λ_ _=>trivial,?_⟩;rw[Oper.semAt_eq _ _ _ hd,h];refine⟨λq=>by simp[FX] at q,?_⟩;have h1:CallsIn Fence.wide (n-1) P f args w' λe w''=>∃v,e = .returned v∧K (a.put o.dst v) w'':=callsIn_wide.2 hc;have h2:CallsIn (FX ρ) (n-1) P f args w' λe w''=>∃v,e = .returned v∧K (a.put o.dst v) w'':=h1;refine h2.mono λe w'' hr=>?_;obtain⟨v,rfl,hk⟩:=hr;exact hk
theorem y5{s:Sem Value}{v:Value}{w':World}(h:s.run P w = .ok v w'):(do pure (.value (←s)):Sem Next).run P w = .ok (.value v) w':=by
 simp only[Sem.run_bind,h,Result.andThen_ok];rfl
theorem b1F{s:Sem Unit}{w':World}(h:s.run P w = .ok () w'):(do s;pure .skip:Sem Next).run P w = .ok .skip w':=by
 simp only[Sem.run_bind,h,Result.andThen_ok];rfl
end
def y6(σ σF:Nat→Option Row):Prop:=∀l r,σ l=some r→∃r',σF l=some r'∧r'.els=r.els∧r'.z=r.z∧r'.cl=r.cl
theorem y6.refl(σ:Nat→Option Row):y6 σ σ:=λ_ r h=>⟨r,h,rfl,rfl,rfl⟩
section
variable{X:Ctx}{g:Gh}{st:St}{a:Act}{w:World}
theorem r7.cell_of(h:r7 X g st a w){l:Nat}{r:Row}(hl:st.σ l=some r){i j:Nat}{x y:PV}(hx:r.els[i]? = some x)(hy:x.cells[j]? = some y){b s:Nat}
  (hA:(g.μ l).A=some ⟨b,s,none⟩):∃u,w.cell? ⟨b,s+i*(g.μ l).z+j,none⟩=some u∧Rd w g.imm g.μ st.j2 u y∧(r.cl=true→Rd0 w g.imm u y):=by
 obtain⟨b',s',u,h1,h2,h3,h4,h5⟩:=(h.rows l r hl).cell i x j y hx hy;rw[hA] at h1;cases h1;exact⟨u,h2,h3,h5⟩
theorem a9Q{cs:List PV}{f n:Nat}{y:PV}(hy:y.el=true)(h:cs=(y.cells.drop f).take n):cs.all PV.sc=true:=by
 rw[List.all_eq_true];intro c hc;rw[h] at hc;exact PV.a4W hy c (List.mem_of_mem_drop (List.mem_of_mem_take hc))
theorem r7.a2w(h:r7 X g st a w){T:TypeId}{l i f n:Nat}{v:Value}{r:Row}{y:PV}(hv:Rd w g.imm g.μ st.j2 v (.ptr l i f))(hl:st.σ l=some r)(hy:r.els[i]? = some y)
  (ha:B8 X.P T=some true)(hs:l5 X.P T=some n)(hf:f+n≤y.cells.length) :
  ∃u,(Instr.loadAt T v).run X.P w = .ok u w∧Rd w g.imm g.μ st.j2 u (.agg ((y.cells.drop f).take n)):=by
 obtain⟨hp,b,s,hA,rfl⟩:=hv.J9;have hc:∀j,j<n→∃u,w.cell? ⟨b,s+i*(g.μ l).z+f+j,none⟩=some u∧∀q,((y.cells.drop f).take n)[j]? = some q→Rd w g.imm g.μ st.j2 u q:=by
  intro j hj;have hlt:f+j<y.cells.length:=by omega
  obtain⟨u,h1,h2,_⟩:=h.cell_of hl hy (List.getElem?_eq_getElem hlt) hA;refine⟨u,by rw[Nat.add_assoc _ f j];exact h1,λq hq=>?_⟩;rw[List.getElem?_take_of_lt hj,List.getElem?_drop,List.getElem?_eq_getElem hlt] at hq;cases hq;exact h2
 have hu:∀j,j<n→w.cell? ⟨b,s+i*(g.μ l).z+f+j,none⟩=some ((w.cell? ⟨b,s+i*(g.μ l).z+f+j,none⟩).getD undef):=λj hj=>by
  obtain⟨u,h1,_⟩:=hc j hj;rw[h1];rfl
 refine⟨_,P9 ha hs (λj=>(w.cell? ⟨b,s+i*(g.μ l).z+f+j,none⟩).getD undef) hu,?_⟩;refine .agg _ _ (a9Q ((h.rows l r hl).el y (List.mem_of_getElem? hy)).1 rfl) (by simp;omega) λj v c hv hc'=>?_;have hj:j<n:=by have:=r6 hc';simp at this;omega
 obtain⟨u,h1,h2⟩:=hc j hj;have:v=u:=by
  clear hc hu;simp[hj] at hv;rw[←hv,h1];rfl
 rw[this];exact h2 c hc'
theorem r7.a1r(h:r7 X g st a w){T:TypeId}{l i f:Nat}{v:Value}{r:Row}{y d:PV}(hv:Rd w g.imm g.μ st.j2 v (.ptr l i f))(hl:st.σ l=some r)(hy:r.els[i]? = some y)
  (ha:B8 X.P T=some false)(hf:y.cells[f]? = some d) :
  ∃u,(Instr.loadAt T v).run X.P w = .ok u w∧Rd w g.imm g.μ st.j2 u d:=by
 obtain⟨hp,b,s,hA,rfl⟩:=hv.J9;obtain⟨u,h1,h2,_⟩:=h.cell_of hl hy hf hA;exact⟨u,Q0 ha h1,h2⟩
theorem r7.Y8(h:r7 X g st a w){T:TypeId}{n:Nat}{v:Value}{cs:List PV}(hv:Rd w g.imm g.μ st.j2 v (.rptr cs))
  (ha:B8 X.P T=some true)(hs:l5 X.P T=some n)(hf:n≤cs.length) :
  ∃u,(Instr.loadAt T v).run X.P w = .ok u w∧Rd w g.imm g.μ st.j2 u (.agg (cs.take n)):=by
 obtain⟨b,o,u,rfl,hsc,hc⟩:=hv.P5;refine⟨_,P9 ha hs u (λj hj=>(hc j cs[j] (List.getElem?_eq_getElem (by omega))).2.1),?_⟩;refine .agg _ _ ?_ (by simp;omega) λj v c hv hc'=>?_
 ·rw[List.all_eq_true] at hsc ⊢;exact λc hc=>hsc c (List.mem_of_mem_take hc)
 ·have hj:j<n:=by have:=r6 hc';simp at this;omega
  rw[List.getElem?_take_of_lt hj] at hc';simp[hj] at hv;rw[←hv];exact .cl (hc j c hc').2.2
theorem r7.Y9(h:r7 X g st a w){T:TypeId}{v:Value}{cs:List PV}{d:PV}(hv:Rd w g.imm g.μ st.j2 v (.rptr cs))
  (ha:B8 X.P T=some false)(hf:cs[0]? = some d) :
  ∃u,(Instr.loadAt T v).run X.P w = .ok u w∧Rd w g.imm g.μ st.j2 u d:=by
 obtain⟨b,o,u,rfl,hsc,hc⟩:=hv.P5;obtain⟨_,h1,h2⟩:=hc 0 d hf;exact⟨u 0,Q0 ha (by simpa using h1),.cl h2⟩
theorem a2g{x:PV}{f:Nat}{cs:List PV}(hx:x.el=true)(hf:f+cs.length≤x.cells.length)(hsc:cs.all PV.sc=true) :
  (R7 x f cs).cells=x.cells.take f++cs++x.cells.drop (f+cs.length)∧(R7 x f cs).el=true:=by
 rw[List.all_eq_true] at hsc;by_cases hd:x.sc=true
 ·have hc:=PV.X4 hd;rw[hc] at hf ⊢;have e:R7 x f cs=b0g x cs:=by cases x <;> first | rfl | (simp[PV.sc] at hd)
  rw[e];match cs,hf,hsc with
  | [],_,_=>
   refine⟨?_,hx⟩;simp[b0g,hc]
  | [c],hf,hsc=>
   simp at hf;subst hf;have:=hsc c (by simp);refine⟨by simp[b0g,PV.X4 this],?_⟩;simp only[b0g];cases c <;> first | exact this | (simp[PV.sc] at this)
  | _::_::_,hf,_=>simp at hf;omega
 ·cases x <;> first | (exact absurd rfl hd) | (exact absurd hx hd) | (simp only[PV.cells,List.length_nil,Nat.le_zero_eq,Nat.add_eq_zero_iff,List.length_eq_zero_iff] at hf;obtain⟨rfl,rfl⟩:=hf;exact⟨rfl,rfl⟩) | skip
  rename_i es;simp only[PV.el,List.all_eq_true] at hx;refine⟨rfl,?_⟩;simp only[R7,PV.el,List.all_eq_true,List.mem_append];rintro c ((q | q) | q);·exact hx c (List.mem_of_mem_take q)
  ·exact hsc c q
  ·exact hx c (List.mem_of_mem_drop q)
theorem r7.store(h:r7 X g st a w){T:TypeId}{l i f:Nat}{v u:Value}{d:PV}(hv:Rd w g.imm g.μ st.j2 v (.ptr l i f))(hu:Rd w g.imm g.μ st.j2 u d)(hd:d.el=true)
  (hs:l5 X.P T=some d.cells.length)(hpos:0<d.cells.length)(hok:(G8.sto l i f d.cells).ok st.σ) :
  ∃w',(Instr.storeAt T v u).run X.P w = .ok () w'∧r7 X g ⟨st.env,(G8.sto l i f d.cells).apply st.σ⟩ a w':=by
 obtain⟨hp,b,s,hA,rfl⟩:=hv.J9;obtain⟨q,x,hl,hx,hlo,hf,hsc⟩:=hok;have hR:=h.rows l q hl;obtain⟨hsz,hcs⟩:=hu.cells hd;have hxz:x.cells.length=(g.μ l).z:=by rw[hR.z];exact (hR.el x (List.mem_of_getElem? hx)).2
 have hmine:∀j,j<u.cells.toList.length→A2 (g.μ l) q b (s+i*(g.μ l).z+f+j):=λj hj=>by
  have hj':f+j<x.cells.length:=by simp only[Array.length_toList,hsz] at hj;omega
  have:=hR.b4d hx (List.getElem?_eq_getElem hj') hA (by omega);rwa [←Nat.add_assoc] at this
 have hone:∀z∈u.cells.toList,one z=true:=λz hz=>by
  obtain⟨j,hj⟩:=List.getElem?_of_mem hz;have hj':j<d.cells.length:=by have:=r6 hj;simp only[Array.length_toList,hsz] at this;exact this
  exact (hcs j z _ (by simpa using hj) (List.getElem?_eq_getElem hj')).one (List.all_eq_true.1 hsc _ (List.getElem_mem hj'))
 refine⟨_,a9t hs hsz (λj hj=>(hR.own b _ (hmine j (by simpa[hsz] using hj))).2) hone,?_⟩;have he:(G8.sto l i f d.cells).apply st.σ=o0 st.σ l (some { q with els:=q.els.set i (R7 x f d.cells),cl:=q.cl&&d.cells.all PV.K1 }):=by
  simp only[G8.apply,hl,hx]
 rw[he];obtain⟨hc1,hc2⟩:=a2g ((hR.el x (List.mem_of_getElem? hx)).1) hf hsc;have hlen:(R7 x f d.cells).cells.length=x.cells.length:=by rw[hc1];simp;omega
 refine h.write hl hmine (by simp) (λe he=>?_) (λi' x' j y hx' hy=>?_) (by simpa[hsz] using hpos)
 ·rcases List.mem_or_eq_of_mem_set he with q' | rfl
  ·exact hR.el e q'
  ·exact⟨hc2,by rw[hlen];exact (hR.el x (List.mem_of_getElem? hx)).2⟩
 ·by_cases e:i'=i
  ·subst e;have hi:=r6 hx;rw[List.getElem?_set_self hi] at hx';cases hx';rw[hc1] at hy;have hj:=r6 hy;simp at hj;by_cases q1:f≤j∧j<f+d.cells.length
   ·have hw:=World.cell?_setCells_in b u.cells.toList (s+i'*(g.μ l).z+f) w (λj hj=>(hR.own b _ (hmine j hj)).2.1) (j-f) (by simp[hsz];omega);rw[show s+i'*(g.μ l).z+f+(j-f)=s+i'*(g.μ l).z+j by omega] at hw;have hy':d.cells[j-f]? = some y:=by
     rw[List.append_assoc,List.getElem?_append_right (by simp;omega),List.getElem?_append_left (by simp;omega)] at hy;simpa[List.length_take,Nat.min_eq_left (show f≤x.cells.length by omega)] using hy
    have hr:=hcs (j-f) _ y (by rw[←Array.getElem?_toList];exact List.getElem?_eq_getElem (by simp[hsz];omega)) hy';refine⟨b,s,_,hA,hw,hr,λq'=>by omega,λq'=>?_⟩;simp only[Bool.and_eq_true] at q';exact hr.K1 (List.all_eq_true.1 q'.2 y (List.mem_of_getElem? hy'))
   ·have hy':x.cells[j]? = some y:=by
     rcases Nat.lt_or_ge j f with q2 | q2
     ·rw[List.append_assoc,List.getElem?_append_left (by simp;omega),List.getElem?_take_of_lt q2] at hy;exact hy
     ·rw[List.getElem?_append_right (by simp;omega)] at hy;simp only[List.length_append,List.length_take,List.getElem?_drop,Nat.min_eq_left (show f≤x.cells.length by omega)] at hy;rwa [show f+d.cells.length+(j-(f+d.cells.length))=j by omega] at hy
    obtain⟨u',k1,k2,k3⟩:=h.cell_of hl hx hy' hA;refine⟨b,s,u',hA,?_,k2,λq'=>by omega,λq'=>?_⟩
    ·rw[World.cell?_setCells_out b _ _ w _ λ_ _=>by simp[hsz];omega];exact k1
    ·simp only[Bool.and_eq_true] at q';exact k3 q'.1
  ·rw[List.getElem?_set_ne (Ne.symm e)] at hx';obtain⟨b',s',u',k1,k2,k3,k4,k5⟩:=hR.cell i' x' j y hx' hy;rw[hA] at k1;cases k1;refine⟨b,s,u',hA,?_,k3,k4,λq'=>?_⟩
   ·rw[World.cell?_setCells_out b _ _ w _ λ_ _=>?_];·exact k2
    ·simp only[Array.length_toList,hsz];have hj:=PV.u7 hy;have hz':x'.cells.length=(g.μ l).z:=by rw[hR.z];exact (hR.el x' (List.mem_of_getElem? hx')).2
     rcases Nat.lt_or_gt_of_ne e with q2 | q2
     ·left;have:(i'+1)*(g.μ l).z≤i*(g.μ l).z:=Nat.mul_le_mul_right _ (by omega);rw[Nat.add_mul,Nat.one_mul] at this;omega
     ·right;have:(i+1)*(g.μ l).z≤i'*(g.μ l).z:=Nat.mul_le_mul_right _ (by omega);rw[Nat.add_mul,Nat.one_mul] at this;omega
   ·simp only[Bool.and_eq_true] at q';exact k5 q'.1
end
end Go.Pw
namespace Go.Pw
open Go.RowKit
section
variable{X:Ctx}{g:Gh}{st:St}{a:Act}{w:World}{n:Nat}{K:Act→World→Prop}{Q:Exit→Act→World→Prop}{ρ:Option Nat}
theorem y6.at{σ σF:Nat→Option Row}(hs:y6 σ σF){l:Nat}{r:Row}(hp:∃r0,σ l=some r0)(hl:σF l=some r) :
  ∃r0,σ l=some r0∧r0.els=r.els∧r0.z=r.z∧r0.cl=r.cl:=by
 obtain⟨r0,h0⟩:=hp;obtain⟨r',h1,h2,h3,h4⟩:=hs l r0 h0;rw[hl] at h1;cases h1;exact⟨r0,h0,h2.symm,h3.symm,h4.symm⟩
theorem T9{o:Oper}{d:PV}(h:r7 X g st a w)(hnd:∀c,o.op ≠ .defer c)(hdst:∀t,o.dst=some t→t<X.N)
  (hv:∃u,(execOp a.eval o).run X.P w = .ok (.value u) w∧Rd w g.imm g.μ st.j2 u d)
  (hK:∀g' a' w',r7 X g' ⟨F3 st.env o.dst d,G8.none.apply st.σ⟩ a' w'→K a' w'):o.wpIn (FX ρ) n X.P a w K Q:=by
 obtain⟨u,hr,hu⟩:=hv;exact w5 hnd hr (hK g _ w (h.put hdst hu))
theorem a3k{P:Program}{T off:Nat}{f:Nat}{ft:TypeId}{b o:Nat}(ho:O2 P T f=some (off,ft)) :
  (Instr.fieldAt T (.pointer (some ⟨b,o,none⟩)) f).run P w = .ok (.pointer (some ⟨b,o+off,none⟩)) w:=by
 unfold O2 at ho;cases hu:P.underlying T with
 | none=>rw[hu] at ho;cases ho
 | some D=>
  rw[hu] at ho;cases D <;> first | (simp at ho;done) | skip
  rename_i fs;simp only at ho;cases hf:fs[f]? with
  | none=>rw[hf] at ho;cases ho
  | some fd=>
   rw[hf] at ho;simp only at ho;cases hsz:l5 P fd.type with
   | none=>rw[hsz] at ho;cases ho
   | some m=>
    rw[hsz] at ho;cases m with
    | zero=>cases ho
    | succ m=>
     simp only[Option.some.injEq,Prod.mk.injEq] at ho;obtain⟨rfl,rfl⟩:=ho;simp only[Instr.fieldAt,Sem.run_bind,run_underlying hu,Result.andThen_ok,hf,Instr.sureAddr,fieldPlace,w4 hsz];simp[B0]
theorem b28{P:Program}{ft:TypeId}{cs:Array Value}{off n:Nat}(ha:B8 P ft=some true)(hs:l5 P ft=some n) :
  (part ft cs off).run P w = .ok (.agg (cs.extract off (off+n))) w:=by
 simp only[part,Sem.run_bind,a2d ha,Result.andThen_ok,if_true,w4 hs];rfl
theorem a3G{P:Program}{ft:TypeId}{cs:Array Value}{off:Nat}{v:Value}(ha:B8 P ft=some false)(hv:cs[off]? = some v) :
  (part ft cs off).run P w = .ok v w:=by
 simp only[part,Sem.run_bind,a2d ha,Result.andThen_ok,Bool.false_eq_true,if_false,hv];rfl
theorem a9W{P:Program}{T off:Nat}{f:Nat}{ft:TypeId}(ho:O2 P T f=some (off,ft)) :
  ∃fs fd,P.underlying T=some (.struct fs)∧fs[f]? = some fd∧fd.offset=off∧fd.type=ft:=by
 unfold O2 at ho;cases hu:P.underlying T with
 | none=>rw[hu] at ho;cases ho
 | some D=>
  rw[hu] at ho;cases D <;> first | (simp at ho;done) | skip
  rename_i fs;simp only at ho;cases hf:fs[f]? with
  | none=>rw[hf] at ho;cases ho
  | some fd=>
   rw[hf] at ho;simp only at ho;cases hsz:l5 P fd.type with
   | none=>rw[hsz] at ho;cases ho
   | some m=>
    rw[hsz] at ho;cases m with
    | zero=>cases ho
    | succ m=>
     simp only[Option.some.injEq,Prod.mk.injEq] at ho;exact⟨fs,fd,rfl,hf,ho.1,ho.2⟩
theorem C0{P:Program}{T E:TypeId}(h:r5 P T=some E):P.underlying T=some (.slice E):=by
 unfold r5 at h;split at h <;> first | (cases h;assumption) | cases h
theorem b3a{P:Program}{T E:TypeId}{m:Nat}(h:a9x P T=some (m,E)):P.underlying T=some (.array m E):=by
 unfold a9x at h;split at h <;> first | (cases h;assumption) | cases h
theorem b3c{P:Program}{T:TypeId}{k:IntKind}(h:b3b P T=some k):P.underlying T=some (.int k):=by
 unfold b3b at h;split at h <;> first | (cases h;assumption) | cases h
theorem b4w{P:Program}{t:TypeId}{op:BinOp}{k:IntKind}{x y r:Int}(h:b2v k op x y=some r):(binOp op t (.int k x) (.int k y)).run P w = .ok (.int k r) w:=by
 cases op <;> simp only[b2v] at h <;> first | (cases h;done) | skip
 case add=>cases h;simp[binOp,Op.intArith]
 case sub=>cases h;simp[binOp,Op.intArith]
 case mul=>cases h;simp[binOp,Op.intArith]
 case quo=>
  split at h;·cases h
  ·rename_i hy;cases h;simp[binOp,Op.intDiv,hy]
 case rem=>
  split at h;·cases h
  ·rename_i hy;cases h;simp[binOp,Op.intDiv,hy]
theorem b4x{P:Program}{t:TypeId}{op:BinOp}{k:IntKind}{x y:Int}{r:Bool}(h:b2z op x y=some r):(binOp op t (.int k x) (.int k y)).run P w = .ok (.bool r) w:=by
 cases op <;> simp only[b2z] at h <;> first | (cases h;done) | skip
 all_goals (cases h;simp[binOp,Op.intCmp])
theorem a8K{P:Program}{op:BinOp}{t:TypeId}{x y:Operand}{v u:Value}(h:(∀cs,v ≠ .agg cs)∧v ≠ .nilIface):(eqGuard op t x y v u).run P w = .ok () w:=by
 unfold eqGuard;cases v <;> first | (exact absurd rfl (h.1 _)) | (exact absurd rfl h.2) | (cases op <;> rfl)
theorem a3F{P:Program}{op:BinOp}{t:TypeId}{x y:Operand}{v u r:Value}(h:(∀cs,v ≠ .agg cs)∧v ≠ .nilIface)(hb:(binOp op t v u).run P w = .ok r w) :
  (do pure (.value (←(do eqGuard op t x y v u;binOp op t v u:Sem Value))):Sem Next).run P w = .ok (.value r) w:=
 y5 (by simp only[Sem.run_bind,a8K h,Result.andThen_ok,hb])
theorem run_equal_bool{P:Program}{t:TypeId}{p q:Bool}(ht:P.underlying t=some .bool):(Op.equal t (.bool p) (.bool q)).run P w = .ok (p==q) w:=by
 have e:Op.maxDepth=9999+1:=rfl;unfold Op.equal;rw[e];generalize 9999=d;rw[Op.equalIn,Sem.run_bind,run_underlying ht];rfl
end
end Go.Pw
namespace Go.Pw
open Go.RowKit
section
variable{X:Ctx}{g:Gh}{st:St}{a:Act}{w:World}
theorem a7a{α:Type}{l:List α}{k j:Nat}{y:α}(h:(l.drop k)[j]? = some y):l[k+j]? = some y:=by rwa [List.getElem?_drop] at h
theorem Rd.a8J{w:World}{imm:Nat→Nat→Prop}{b o k:Nat}{cs:List PV}{u:Nat→Value}(hsc:cs.all PV.sc=true)
  (hc:∀(j:Nat) y,cs[j]? = some y→imm b (o+j)∧w.cell? ⟨b,o+j,none⟩=some (u j)∧Rd0 w imm (u j) y) :
  Rd0 w imm (.pointer (some ⟨b,o+k,none⟩)) (.rptr (cs.drop k)):=by
 refine .rptr b (o+k) _ (λj=>u (k+j)) ?_ (λj y hy=>?_) (λj y hy=>(hc _ y (a7a hy)).2.2)
 ·rw[List.all_eq_true] at hsc ⊢;exact λc hc=>hsc c (List.mem_of_mem_drop hc)
 ·have:=hc _ y (a7a hy);rw[Nat.add_assoc];exact⟨this.1,this.2.1⟩
theorem a3l{P:Program}{T E:TypeId}{z b s len c:Nat}{k:IntKind}{m:Int}(hE:r5 P T=some E)(hz:l5 P E=some z)(h0:0≤m)(hm:m<len) :
  (Instr.indexAt T (.slice (some ⟨b,s,none⟩) len c) (.int k m)).run P w = .ok (.pointer (some ⟨b,s+m.toNat*z,none⟩)) w:=by
 have hu:=C0 hE;simp only[Instr.indexAt,asIntOf,Sem.run_bind,Sem.run_pure,Result.andThen_ok,run_underlying hu];rw[if_pos ⟨h0,hm⟩];simp only[Sem.run_bind,w4 hz,Result.andThen_ok,B0];rfl
theorem a2A{P:Program}{T E:TypeId}{z b s len:Nat}{k:IntKind}{m:Int}(hE:a9x P T=some (len,E))(hz:l5 P E=some z)(h0:0≤m)(hm:m<len) :
  (Instr.indexAt T (.pointer (some ⟨b,s,none⟩)) (.int k m)).run P w = .ok (.pointer (some ⟨b,s+m.toNat*z,none⟩)) w:=by
 have hu:=b3a hE;simp only[Instr.indexAt,asIntOf,Sem.run_bind,Sem.run_pure,Result.andThen_ok,run_underlying hu,Instr.sureAddr];rw[if_pos ⟨h0,hm⟩];simp only[Sem.run_bind,w4 hz,Result.andThen_ok,B0];rfl
set_option maxHeartbeats 2000000 in
theorem b4o {o:Oper} {σF:Nat→Option Row} {d:PV} {e:G8} (h:r7 X g st a w) (hop:u6 X.P σF (p6 st.env) o.dst o.op d e) (hs:y6 st.σ σF)
  (hlook:match o.op with | .move _ | .assign _ | .pick .. | .load .. | .nilCheck _ | .unOp .. | .binOp .. | .convert .. | .fieldAddr .. | .field .. | .indexAddr .. | .extract .. | .makeFunc .. => True | _=>False) :
  e = .none∧∃u,(execOp a.eval o).run X.P w = .ok (.value u) w∧Rd w g.imm g.μ st.j2 u d:=by
 obtain⟨dst,op,ty,pos,after,guard⟩:=o;simp only at hop hlook;cases hop <;> first | (exact hlook.elim) | refine⟨rfl,?_⟩
 case pureV hnd hnl hc=>exact hc _ w g.imm g.μ st.j2 a.eval rfl λx _=>h.eval x
 case move x=>exact⟨_,rfl,h.eval x⟩
 case assign x=>exact⟨_,rfl,h.eval x⟩
 case pick c p q t hc=>
  have hv:=h.eval c;rw[hc] at hv;have hb:=hv.P0;refine⟨if t then a.eval p else a.eval q,?_,?_⟩
  ·simp only[execOp,hb];cases t <;> rfl
  ·cases t;·exact h.eval q
   ·exact h.eval p
 case a2w T x l i f r y m hx hl hy ha hsz hf=>
  have hv:=h.eval x;rw[hx] at hv;obtain⟨r0,h1,h2,h3,h4⟩:=hs.at hv.J9.1 hl;obtain⟨u,hr,hu⟩:=h.a2w hv h1 (by rw[h2];exact hy) ha hsz hf;exact⟨u,y5 hr,hu⟩
 case a1r T x l i f r y hx hl hy ha hf=>
  have hv:=h.eval x;rw[hx] at hv;obtain⟨r0,h1,h2,h3,h4⟩:=hs.at hv.J9.1 hl;obtain⟨u,hr,hu⟩:=h.a1r hv h1 (by rw[h2];exact hy) ha hf;exact⟨u,y5 hr,hu⟩
 case Y8 T x cs m hx ha hsz hf=>
  have hv:=h.eval x;rw[hx] at hv;obtain⟨u,hr,hu⟩:=h.Y8 hv ha hsz hf;exact⟨u,y5 hr,hu⟩
 case Y9 T x cs hx ha hf=>
  have hv:=h.eval x;rw[hx] at hv;obtain⟨u,hr,hu⟩:=h.Y9 hv ha hf;exact⟨u,y5 hr,hu⟩
 case nilCheckP x l i f hx=>
  have hv:=h.eval x;refine⟨_,?_,hv⟩;rw[hx] at hv;obtain⟨_,b,s,_,e⟩:=hv.J9;simp only[execOp,e];rfl
 case nilCheckR x cs hx=>
  have hv:=h.eval x;refine⟨_,?_,hv⟩;rw[hx] at hv;obtain⟨b,s,_,e,_⟩:=hv.P5;simp only[execOp,e];rfl
 case not t x b hx=>
  have hv:=h.eval x;rw[hx] at hv;refine⟨.bool (!b),?_,.cl (.bool _)⟩;simp only[execOp,hv.P0,Op.unary];rfl
 case neg t x k m hx=>
  have hv:=h.eval x;rw[hx] at hv;refine⟨.int k (k.wrap (0-m)),?_,.cl (.int _ _)⟩;simp only[execOp,hv.A9,Op.unary,Op.intArith];rfl
 case ari bop t t2 x y k p q r hx hy hr=>
  have hv:=h.eval x;have hu:=h.eval y;rw[hx] at hv;rw[hy] at hu;refine⟨.int k r,?_,.cl (.int _ _)⟩;simp only[execOp,hv.A9,hu.A9];exact a3F ⟨λ_ q=>(by cases q),λq=>(by cases q)⟩ (b4w hr)
 case cmp bop t t2 x y k p q r hx hy hr=>
  have hv:=h.eval x;have hu:=h.eval y;rw[hx] at hv;rw[hy] at hu;refine⟨.bool r,?_,.cl (.bool _)⟩;simp only[execOp,hv.A9,hu.A9];exact a3F ⟨λ_ q=>(by cases q),λq=>(by cases q)⟩ (b4x hr)
 case eqB t t2 x y p q hx hy ht=>
  have hv:=h.eval x;have hu:=h.eval y;rw[hx] at hv;rw[hy] at hu;refine⟨.bool (p==q),?_,.cl (.bool _)⟩;simp only[execOp,hv.P0,hu.P0];refine a3F ⟨λ_ q=>(by cases q),λq=>(by cases q)⟩ ?_;have e:(binOp .eql t (.bool p) (.bool q):Sem Value)=(do pure (.bool (←Op.equal t (.bool p) (.bool q)))):=rfl;rw[e,Sem.run_bind,run_equal_bool ht];rfl
 case neB t t2 x y p q hx hy ht=>
  have hv:=h.eval x;have hu:=h.eval y;rw[hx] at hv;rw[hy] at hu;refine⟨.bool (p != q),?_,.cl (.bool _)⟩;simp only[execOp,hv.P0,hu.P0];refine a3F ⟨λ_ q=>(by cases q),λq=>(by cases q)⟩ ?_;have e:(binOp .neq t (.bool p) (.bool q):Sem Value)=(do pure (.bool (!(←Op.equal t (.bool p) (.bool q))))):=rfl;rw[e,Sem.run_bind,run_equal_bool ht];rfl
 case eqS t t2 x y p q hx hy=>
  have hv:=h.eval x;have hu:=h.eval y;rw[hx] at hv;rw[hy] at hu;refine⟨.bool (p.toList==q.toList),?_,.cl (.bool _)⟩;simp only[execOp,hv.V1,hu.V1];exact a3F ⟨λ_ q=>(by cases q),λq=>(by cases q)⟩ (by simp[binOp,Op.stringOp])
 case neS t t2 x y p q hx hy=>
  have hv:=h.eval x;have hu:=h.eval y;rw[hx] at hv;rw[hy] at hu;refine⟨.bool (!(p.toList==q.toList)),?_,.cl (.bool _)⟩;simp only[execOp,hv.V1,hu.V1];exact a3F ⟨λ_ q=>(by cases q),λq=>(by cases q)⟩ (by simp[binOp,Op.stringOp])
 case conv s t x k k' m hx h1 h2=>
  have hv:=h.eval x;rw[hx] at hv;refine⟨.int k (k.wrap m),?_,.cl (.int _ _)⟩;simp only[execOp,hv.A9];refine y5 ?_;obtain⟨D,hD⟩:=Option.isSome_iff_exists.1 h1;simp only[convert,Sem.run_bind,run_underlying hD,run_underlying (b3c h2),Result.andThen_ok];simp[Conv.intToInt]
 case fieldAddrP T x f l i q off ft hx ho=>
  have hv:=h.eval x;rw[hx] at hv;obtain⟨hp,b,s,hA,e⟩:=hv.J9;refine⟨_,?_,.ptr l i (q+off) b s hp hA⟩;simp only[execOp,e];rw[y5 (a3k ho)];rw[Nat.add_assoc]
 case fieldAddrR T x f cs off ft hx ho=>
  have hv:=h.eval x;rw[hx] at hv;obtain⟨b,o,u,e,hsc,hc⟩:=hv.P5;refine⟨_,?_,.cl (Rd.a8J (k:=off) hsc hc)⟩;simp only[execOp,e];exact y5 (a3k ho)
 case fieldA T x f cs off ft m hx ho ha hsz hn=>
  have hv:=h.eval x;rw[hx] at hv;obtain⟨vs,e,hlen,hc⟩:=hv.T4;obtain⟨fs,fd,h1,h2,rfl,rfl⟩:=a9W ho;refine⟨.agg (vs.extract fd.offset (fd.offset+m)),?_,?_⟩
  ·simp only[execOp,e];refine y5 ?_;simp only[Instr.field,Sem.run_bind,run_underlying h1,Result.andThen_ok,h2,asAgg,Sem.run_pure,b28 ha hsz]
  ·refine .agg _ _ ?_ (by simp;omega) λj v c hv' hc'=>?_
   ·skip
    have hsc:cs.all PV.sc=true:=hv.a83;rw[List.all_eq_true] at hsc ⊢;exact λc hc=>hsc c (List.mem_of_mem_drop (List.mem_of_mem_take hc))
   ·have hj:j<m:=by have:=r6 hc';simp at this;omega
    rw[List.getElem?_take_of_lt hj,List.getElem?_drop] at hc';have:vs[fd.offset+j]? = some v:=by
     rw[Array.getElem?_extract] at hv';split at hv';·exact hv'
     ·cases hv'
    exact hc _ v c this hc'
 case fieldS T x f cs off ft hx ho ha hd=>
  have hv:=h.eval x;rw[hx] at hv;obtain⟨vs,e,hlen,hc⟩:=hv.T4;obtain⟨fs,fd,h1,h2,rfl,rfl⟩:=a9W ho;have hlt:fd.offset<vs.size:=by rw[hlen];exact r6 hd
  refine⟨vs[fd.offset],?_,hc _ _ d (Array.getElem?_eq_getElem hlt) hd⟩;simp only[execOp,e];refine y5 ?_;simp only[Instr.field,Sem.run_bind,run_underlying h1,Result.andThen_ok,h2,asAgg,Sem.run_pure,a3G ha (Array.getElem?_eq_getElem hlt)]
 case idxL T x y t xs k m e0 E hx hy h0 he hE hz=>
  have hv:=h.eval x;have hu:=h.eval y;rw[hx] at hv;rw[hy] at hu;obtain⟨A,c,z,u,e,h1,h2,h3,h4,h5,h6⟩:=hv.W8;have hlt:=r6 he;obtain⟨b,s,rfl,h7⟩:=h5 (by omega);have hz':=(h4 e0 (List.mem_of_getElem? he)).2;rw[hz'] at hz;refine⟨.pointer (some ⟨b,s+m.toNat*z,none⟩),?_,.cl (.rptr b _ _ (λj=>u m.toNat j) ?_ (λj y hy'=>h7 m.toNat e0 j y he hy') (λj y hy'=>h6 m.toNat e0 j y he hy'))⟩
  ·simp only[execOp,e,hu.A9];exact y5 (a3l hE hz h0 (by omega))
  ·rw[List.all_eq_true];exact PV.a4W (h4 e0 (List.mem_of_getElem? he)).1
 case idxR T x y l r k m E hx hl hy h0 hm hE hz=>
  have hv:=h.eval x;have hu:=h.eval y;rw[hx] at hv;rw[hy] at hu;obtain⟨hp,e⟩:=hv.O6;obtain⟨r0,k1,k2,k3,k4⟩:=hs.at hp hl;have hR:=h.rows l r0 k1;obtain⟨b,s,hA⟩:=hR.spot (by have:=hR.C;have:=hR.n;rw[k2] at this;omega);refine⟨_,?_,.ptr l m.toNat 0 b s hp hA⟩;simp only[execOp,e,hu.A9,hA];refine y5 ?_;rw[a3l hE hz h0 (by rw[hR.n,k2];omega),hR.z,k3];rfl
 case idxA T x y l i f k m len E z hx hy h0 hm hE hz=>
  have hv:=h.eval x;have hu:=h.eval y;rw[hx] at hv;rw[hy] at hu;obtain⟨hp,b,s,hA,e⟩:=hv.J9;refine⟨_,?_,.ptr l i (f+m.toNat*z) b s hp hA⟩;simp only[execOp,e,hu.A9];refine y5 ?_;rw[a2A hE hz h0 hm,Nat.add_assoc]
 case idxRA T x y cs k m len E z hx hy h0 hm hE hz=>
  have hv:=h.eval x;have hu:=h.eval y;rw[hx] at hv;rw[hy] at hu;obtain⟨b,o,u,e,hsc,hc⟩:=hv.P5;refine⟨_,?_,.cl (Rd.a8J (k:=m.toNat*z) hsc hc)⟩;simp only[execOp,e,hu.A9];exact y5 (a2A hE hz h0 hm)
 case extract x i ds hx hd=>
  have hv:=h.eval x;rw[hx] at hv;obtain⟨vs,e,hlen,hc⟩:=hv.a6O;have hlt:i<vs.size:=by rw[hlen];exact r6 hd
  refine⟨vs[i],?_,hc _ _ d (Array.getElem?_eq_getElem hlt) hd⟩;simp only[execOp,e];refine y5 ?_;simp only[Instr.extract,Array.getElem?_eq_getElem hlt];rfl
 case mkFunc fn cap=>
  refine⟨.func fn #[] (cap.map a.eval),by simp[execOp,Instr.makeFunc],.fn fn _ _ (by simp) λi v c hv hc=>?_⟩;rw[Array.getElem?_map] at hv;rw[List.getElem?_map,Array.getElem?_toList] at hc;cases hq:cap[i]? with
  | none=>rw[hq] at hv;cases hv
  | some x=>
   rw[hq] at hv hc;cases hv;cases hc;exact h.eval x
end
end Go.Pw
namespace Go.Pw
open Go.RowKit
section
variable{X:Ctx}{g:Gh}{st:St}{a:Act}{w:World}{n:Nat}{K:Act→World→Prop}{Q:Exit→Act→World→Prop}{ρ:Option Nat}
theorem b4s{w':World}{imm:Nat→Nat→Prop}{μ:Nat→A6}{j2:Nat→Prop}{l b n C z:Nat}(hp:j2 l)(hμ:μ l=⟨some ⟨b,0,none⟩,n,C,z⟩) :
  Rd w' imm μ j2 (.pointer (some ⟨b,0,none⟩)) (.ptr l 0 0):=by
 have:=Rd.ptr (w:=w') (imm:=imm) (μ:=μ) (j2:=j2) l 0 0 b 0 hp (by rw[hμ]);simpa using this
theorem U8{w':World}{imm:Nat→Nat→Prop}{μ:Nat→A6}{j2:Nat→Prop}{l:Nat}{m:A6}(hp:j2 l)(hμ:μ l=m) :
  Rd w' imm μ j2 (.slice m.A m.n m.C) (.sl l):=by
 have:=Rd.sl (w:=w') (imm:=imm) (μ:=μ) (j2:=j2) l hp;rwa [hμ] at this
theorem r7.var(h:r7 X g st a w){l:Nat}{v:Value}{d:PV}{T:TypeId}{dst:Option Tmp}(hdst:∀t,dst=some t→t<X.N)(hlm:l<MB)(hl:st.σ l=none)(hv:Rd w g.imm g.μ st.j2 v d)(hd:d.el=true){cl:Bool}(hcl:cl=true→d.Y3=true) :
  ∃g',r7 X g' ⟨F3 st.env dst (.ptr l 0 0),o0 st.σ l (some ⟨[d],0,false,d.cells.length,cl⟩)⟩ (a.put dst (.pointer (some ⟨w.heap.size,0,none⟩))) (w.alloc (.cells v.cells T)):=by
 obtain⟨hsz,hc⟩:=hv.cells hd;have hclo:cl=true→∀(j:Nat) u y,v.cells[j]? = some u→d.cells[j]? = some y→Rd0 w g.imm u y:=by
  intro q j u y hu hy;have h0:=hv.Y3 (hcl q);exact ((Rd.cl h0:Rd w g.imm g.μ (λ_=>False) v d).cells hd).2 j u y hu hy |>.Y3 (by
   have hm:=List.mem_of_getElem? hy;have hq:=hcl q;by_cases hs:d.sc=true
   ·rw[PV.X4 hs] at hm;simp at hm;subst hm;exact hq
   ·cases d <;> first | (exact absurd rfl hs) | (exact absurd hd hs) | (exact absurd hm List.not_mem_nil) | skip
    rename_i cs;simp only[PV.Y3,List.all_eq_true] at hq;have:=hq y hm;cases y <;> first | rfl | exact this | (simp[PV.K1] at this) | skip
    all_goals simp_all [PV.Y3,PV.K1])
 have h1:=h.a5S (l:=l) (els:=[d]) (T:=T) (C:=1) (z:=d.cells.length) (opn:=false) (cl:=cl) v.cells hlm hl (by simp) (by simp[hsz]) (by simp[hd])
  (λi x j y u hx hy hu=>by
   cases i with
   | zero=>
    simp at hx;subst hx;simp at hu;exact⟨hc j u y hu hy,λq=>hclo q j u y hu hy⟩
   | succ i=>simp at hx)
 exact⟨_,h1.put hdst (b4s (n:=[d].length) (C:=1) (z:=d.cells.length) ⟨_,j4 _ _ _⟩ (j4 _ _ _))⟩
theorem b5M{o:Oper}{T:TypeId}{x:Operand}(h:r7 X g st a w)(ho:o.op = .box T x){l:Nat}(hdst:∀t,o.dst=some t→t<X.N)(hlm:l<MB)(hl:st.σ l=none)(hx:(p6 st.env x).el=true)
  (hK:∀g' a' w',r7 X g' ⟨F3 st.env o.dst (.ptr l 0 0),(G8.new l ⟨[p6 st.env x],0,false,(p6 st.env x).cells.length,(p6 st.env x).Y3⟩).apply st.σ⟩ a' w'→K a' w'):o.wpIn (FX ρ) n X.P a w K Q:=by
 obtain⟨g',h'⟩:=h.var (T:=T) hdst hlm hl (h.eval x) hx (cl:=(p6 st.env x).Y3) id;refine w5 (v:=.pointer (some ⟨w.heap.size,0,none⟩)) (w':=w.alloc (.cells (a.eval x).cells T)) (λc=>by rw[ho];simp) ?_ (hK g' _ _ h');obtain⟨dst,op,ty,pos,after,guard⟩:=o;simp only at ho;subst ho;exact y5 rfl
theorem b2T{o:Oper}{T:TypeId}(h:r7 X g st a w)(ho:o.op = .alloc T){l:Nat}{v:Value}(hdst:∀t,o.dst=some t→t<X.N)(hlm:l<MB)(hl:st.σ l=none)(hz:r4 X.P T=some v)(hx:(PV.ofV v).el=true)
  (hcl:(PV.ofV v).Y3=true)
  (hK:∀g' a' w',r7 X g' ⟨F3 st.env o.dst (.ptr l 0 0),(G8.new l ⟨[PV.ofV v],0,false,(PV.ofV v).cells.length,true⟩).apply st.σ⟩ a' w'→K a' w'):o.wpIn (FX ρ) n X.P a w K Q:=by
 obtain⟨g',h'⟩:=h.var (T:=T) hdst hlm hl (.cl (a5Q w g.imm v)) hx (cl:=true) (λ_=>hcl);refine w5 (v:=.pointer (some ⟨w.heap.size,0,none⟩)) (w':=w.alloc (.cells v.cells T)) (λc=>by rw[ho];simp) ?_ (hK g' _ _ h');obtain⟨dst,op,ty,pos,after,guard⟩:=o;simp only at ho;subst ho;refine y5 ?_;simp only[Instr.alloc,Sem.run_bind,a1v hz,Result.andThen_ok];rfl
theorem b2S(v:Value):(PV.a9q v).K1=true:=by
 unfold PV.a9q;split <;> rfl
theorem b1x(v:Value):(PV.ofV v).Y3=true:=by
 unfold PV.ofV;split
 ·split
  ·simp only[PV.Y3,List.all_eq_true];intro y hy;obtain⟨u,_,rfl⟩:=List.mem_map.1 hy;exact b2S u
  ·rfl
 ·split <;> rfl
 ·unfold PV.a9q;split <;> rfl
theorem b20{o:Oper}{T:TypeId}{x y:Operand}{l i f:Nat}(h:r7 X g st a w)(ho:o.op = .store T x y)(hdst:∀t,o.dst=some t→t<X.N)(hx:p6 st.env x = .ptr l i f){d:PV}(hd:p6 st.env y=d∨(p6 st.env y).w1=d)
  (hy:d.el=true)(hs:l5 X.P T=some d.cells.length)(hpos:0<d.cells.length)(hok:(G8.sto l i f d.cells).ok st.σ)
  (hK:∀g' a' w',r7 X g' ⟨F3 st.env o.dst (.tup []),(G8.sto l i f d.cells).apply st.σ⟩ a' w'→K a' w'):o.wpIn (FX ρ) n X.P a w K Q:=by
 have hv:=h.eval x;rw[hx] at hv;have hu:Rd w g.imm g.μ st.j2 (a.eval y) d:=by
  rcases hd with rfl | rfl
  ·exact h.eval y
  ·exact (h.eval y).w1
 obtain⟨w',hr,h'⟩:=h.store hv hu hy hs hpos hok;refine a5M (w':=w') (λc=>by rw[ho];simp) ?_ (hK g _ _ (h'.put hdst (.cl (.tup #[] [] rfl λi v c _ hc=>by simp at hc))));obtain⟨dst,op,ty,pos,after,guard⟩:=o;simp only at ho;subst ho;exact b1F hr
theorem b5u{i j z:Nat}(h:j<z):(i*z+j) / z=i∧(i*z+j) % z=j:=by
 constructor;·rw[Nat.add_comm,Nat.add_mul_div_right _ _ (by omega),Nat.div_eq_of_lt h,Nat.zero_add]
 ·rw[Nat.add_comm,Nat.add_mul_mod_self_right,Nat.mod_eq_of_lt h]
theorem Src.same{σ σF:Nat→Option Row}{d:PV}{ys:List PV}{cl:Bool}(hs:y6 σ σF)(hp:∀l,d = .sl l→∃r0,σ l=some r0)(h:Src σF d ys cl):Src σ d ys cl:=by
 rcases h with h | ⟨l,r,h1,h2,h3,h4⟩
 ·exact .inl h
 ·obtain⟨r0,k1,k2,k3,k4⟩:=hs.at (hp l h1) h2;exact .inr ⟨l,r0,h1,k1,by rw[h3,k2],by rw[h4,k4]⟩
theorem Src.reads(h:r7 X g st a w){v:Value}{d:PV}{ys:List PV}{cl:Bool}{z:Nat}(hv:Rd w g.imm g.μ st.j2 v d)(hd:Src st.σ d ys cl)(hz:∀y∈ys,y.cells.length=z) :
  ∃B c,∃vals:List Value,v = .slice B ys.length c∧(∀x∈ys,x.el=true)∧vals.length=ys.length*z ∧
   (∀(i:Nat) x (j:Nat) y u,ys[i]? = some x→x.cells[j]? = some y→vals[i*z+j]? = some u→Rd w g.imm g.μ st.j2 u y∧(cl=true→Rd0 w g.imm u y)) ∧
   (∀u∈vals,one u=true)∧(0<ys.length→∃b s,B=some ⟨b,s,none⟩∧∀(j:Nat) u,vals[j]? = some u→w.cell? ⟨b,s+j,none⟩=some u):=by
 have key:∃B c,v = .slice B ys.length c∧(∀x∈ys,x.el=true)∧(0<ys.length→∃b s,B=some ⟨b,s,none⟩ ∧
   ∀(i:Nat) x (j:Nat) y,ys[i]? = some x→x.cells[j]? = some y→∃u,w.cell? ⟨b,s+(i*z+j),none⟩=some u∧Rd w g.imm g.μ st.j2 u y∧(cl=true→Rd0 w g.imm u y)):=by
  rcases hd with ⟨t,rfl,rfl⟩ | ⟨l,r,rfl,h2,rfl,rfl⟩
  ·obtain⟨A,c,z',u,rfl,h1,h2,h3,h4,h5,h6⟩:=hv.W8;refine⟨A,c,rfl,λx hx=>(h4 x hx).1,λh0=>?_⟩;obtain⟨b,s,hA,h7⟩:=h5 h0;refine⟨b,s,hA,λi x j y hx hy=>?_⟩;have hm:=List.mem_of_getElem? hx;have:z'=z:=by rw[←(h4 x hm).2,hz x hm]
   subst this;have:=(h7 i x j y hx hy).2;rw[Nat.add_assoc] at this;exact⟨_,this,.cl (h6 i x j y hx hy),λ_=>h6 i x j y hx hy⟩
  ·obtain⟨hp,e⟩:=hv.O6;have hR:=h.rows l r h2;refine⟨_,_,by rw[e,hR.n],λx hx=>(hR.el x hx).1,λh0=>?_⟩;obtain⟨b,s,hA⟩:=hR.spot (by have:=hR.C;have:=hR.n;omega);refine⟨b,s,hA,λi x j y hx hy=>?_⟩;have hm:=List.mem_of_getElem? hx;have:(g.μ l).z=z:=by rw[hR.z,←(hR.el x hm).2,hz x hm]
   obtain⟨u,k1,k2,k3⟩:=h.cell_of h2 hx hy hA;rw[this,Nat.add_assoc] at k1;exact⟨u,k1,k2,k3⟩
 obtain⟨B,c,e,hel,hk⟩:=key;by_cases h0:0<ys.length
 ·obtain⟨b,s,hB,hc⟩:=hk h0;have hat:∀k,k<ys.length*z→∃u,w.cell? ⟨b,s+k,none⟩=some u∧one u=true:=by
   intro k hk';have hz0:0<z:=Nat.pos_of_ne_zero (λq=>by subst q;omega);have hi:k / z<ys.length:=(Nat.div_lt_iff_lt_mul hz0).2 hk';have hx:=List.getElem?_eq_getElem hi;have hj:k % z<(ys[k / z]).cells.length:=by rw[hz _ (List.getElem_mem hi)];exact Nat.mod_lt _ hz0
   obtain⟨u,k1,k2,_⟩:=hc _ _ _ _ hx (List.getElem?_eq_getElem hj);have:k / z*z+k % z=k:=by rw[Nat.mul_comm];exact Nat.div_add_mod k z
   rw[this] at k1;exact⟨u,k1,k2.one (PV.a4W (hel _ (List.getElem_mem hi)) _ (List.getElem_mem hj))⟩
  refine⟨B,c,(List.range (ys.length*z)).map λk=>(w.cell? ⟨b,s+k,none⟩).getD undef,e,hel,by simp,λi x j y u hx hy hu=>?_,λu hu=>?_,λ_=>⟨b,s,hB,λj u hu=>?_⟩⟩
  ·obtain⟨u',k1,k2⟩:=hc i x j y hx hy;have hlt:=r6 hu;simp at hlt;simp[hlt,k1] at hu;subst hu;exact k2
  ·obtain⟨k,hk',rfl⟩:=List.mem_map.1 hu;obtain⟨u',k1,k2⟩:=hat k (by simpa using hk');rw[k1];exact k2
  ·have hlt:=r6 hu;simp at hlt;obtain⟨u',k1,_⟩:=hat j hlt;simp[hlt,k1] at hu;rw[k1,hu]
 ·have:ys = []:=by cases ys <;> simp_all
  subst this;exact⟨B,c,[],e,hel,by simp,λi x j y u hx=>by simp at hx,λu hu=>by simp at hu,λq=>absurd q h0⟩
theorem a7r{xs ys:List PV}{z:Nat}{A B:List Value}{R:Value→PV→Prop}(hA:A.length=xs.length*z)(hz:∀x∈xs++ys,x.cells.length=z)
  (ha:∀(i:Nat) x (j:Nat) y u,xs[i]? = some x→x.cells[j]? = some y→A[i*z+j]? = some u→R u y)
  (hb:∀(i:Nat) x (j:Nat) y u,ys[i]? = some x→x.cells[j]? = some y→B[i*z+j]? = some u→R u y)(C:List Value)(hB:B.length=ys.length*z) :
  ∀(i:Nat) x (j:Nat) y u,(xs++ys)[i]? = some x→x.cells[j]? = some y→(A++B++C)[i*z+j]? = some u→R u y:=by
 intro i x j y u hx hy hu;have hj:j<z:=by rw[←hz x (List.mem_of_getElem? hx)];exact PV.u7 hy
 have hi:=r6 hx;simp at hi;rcases Nat.lt_or_ge i xs.length with q | q
 ·rw[List.getElem?_append_left q] at hx;have:(i+1)*z≤xs.length*z:=Nat.mul_le_mul_right _ (by omega);rw[Nat.add_mul,Nat.one_mul] at this;rw[List.append_assoc,List.getElem?_append_left (by omega)] at hu;exact ha i x j y u hx hy hu
 ·rw[List.getElem?_append_right q] at hx;have h1:(i-xs.length)*z=i*z-xs.length*z:=Nat.sub_mul _ _ _;have h2:xs.length*z≤i*z:=Nat.mul_le_mul_right _ q;have h3:(i+1)*z≤(xs.length+ys.length)*z:=Nat.mul_le_mul_right _ (by omega);rw[Nat.add_mul,Nat.one_mul,Nat.add_mul] at h3;rw[List.append_assoc,List.getElem?_append_right (by omega),List.getElem?_append_left (by omega)] at hu;refine hb (i-xs.length) x j y u hx hy ?_;rw[h1,show i*z-xs.length*z+j=i*z+j-A.length by omega];exact hu
end
end Go.Pw
namespace Go.Pw
open Go.RowKit
section
variable{X:Ctx}{g:Gh}{st:St}{a:Act}{w:World}{n:Nat}{K:Act→World→Prop}{Q:Exit→Act→World→Prop}{ρ:Option Nat}{P:Program}
theorem a9j{T:TypeId}{z b:Nat}{v:Value}(h1:l5 P T=some z)(h2:C2 P T=some b)(h3:r4 P T=some v) :
  ∃i,P.info? T=some i∧i.size=z∧i.bytes=b∧i.zero=some v:=by
 unfold l5 at h1;unfold C2 at h2;unfold r4 at h3;cases hi:P.info? T with
 | none=>rw[hi] at h1;cases h1
 | some i=>rw[hi] at h1 h2 h3;exact⟨i,rfl,by simpa using h1,by simpa using h2,by simpa using h3⟩
theorem a2c{T E:TypeId}{ty:TypeId}{z nS C c:Nat}{base B:Option Addr}(hE:r5 P T=some E)(hz:l5 P E=some z)(hC:nS≤C) :
  (Builtin.append_ #[T,T] ty #[.slice base nS C,.slice B 0 c]).run P w = .ok (.slice base nS C) w:=by
 have hu:=C0 hE;unfold l5 at hz;cases hi:P.info? E with
 | none=>rw[hi] at hz;cases hz
 | some i=>
  cases B <;> cases base <;> simp[Builtin.append_,run_underlying hu,sizeOf,typeInfo,hi,Builtin.lenOf,hC,Builtin.firstCells,loadCells,loadCellsFrom,storeCells]
theorem a1u{T E:TypeId}{ty:TypeId}{z nS C m c b s:Nat}{B:Addr}{vals:List Value}(hE:r5 P T=some E)(hz:l5 P E=some z)(hC:nS+m≤C)
  (hl:vals.length=m*z)(hv:∀(j:Nat) u,vals[j]? = some u→w.cell? (B.add j)=some u)(h1:∀u∈vals,one u=true)
  (hc:∀j,j<vals.length→(w.cell? ⟨b,s+nS*z+j,none⟩).isSome=true∧w.frozen? ⟨b,s+nS*z+j,none⟩=false) :
  (Builtin.append_ #[T,T] ty #[.slice (some ⟨b,s,none⟩) nS C,.slice (some B) m c]).run P w = .ok (.slice (some ⟨b,s,none⟩) (nS+m) C) (w.setCells b (s+nS*z) vals):=by
 have hu:=C0 hE;unfold l5 at hz;cases hi:P.info? E with
 | none=>rw[hi] at hz;cases hz
 | some i=>
  rw[hi] at hz;have hz':i.size=z:=by simpa using hz
  subst hz';have hf:=run_firstCells_some (P:=P) w i.size m B m c vals hl hv;have hst:=run_storeCells_cells (P:=P) b (s+nS*i.size) vals 0 w (λj hj=>by simpa using (hc j hj).1) (λj hj=>by simpa using (hc j hj).2) (λu hu=>by rw[←a9r];exact h1 u hu);simp only[Nat.add_zero] at hst;simp[Builtin.append_,run_underlying hu,sizeOf,typeInfo,hi,Builtin.lenOf,hC,hf,B0,hst]
theorem b4B{α:Type}(f:Nat→α)(k:Nat)(x y:α):o0 (o0 f k x) k y=o0 f k y:=by
 funext i
 unfold o0;split <;> rfl
theorem a0P(w:World)(need old:Nat)(e:TypeId):need≤grownCap w need old e:=by
 simp only[grownCap,Question.cut];omega
theorem a0z{T E:TypeId}{ty:TypeId}{z nS C m c by_:Nat}{A:Option Addr}{B:Addr}{olds vals:List Value}{zv:Value}(hE:r5 P T=some E)(hz:l5 P E=some z)(hb:C2 P E=some by_)
  (hzv:r4 P E=some zv)(hzz:zv.cells.size=z)(hC:C<nS+m)(hnS:nS≤C)(hnil:A=none→C=0)
  (hlo:olds.length=nS*z)(ho:0<nS→∃b s,A=some ⟨b,s,none⟩∧∀(j:Nat) u,olds[j]? = some u→w.cell? ⟨b,s+j,none⟩=some u)
  (hl:vals.length=m*z)(hv:∀(j:Nat) u,vals[j]? = some u→w.cell? (B.add j)=some u)(hfit:(nS+m)*by_≤140737488355328)(h63:nS+m≤9223372036854775807) :
  ∃C' cs,(Builtin.append_ #[T,T] ty #[.slice A nS C,.slice (some B) m c]).run P w = .ok (.slice (some ⟨w.heap.size,0,none⟩) (nS+m) C') (w.drew.alloc (.cells cs E)) ∧
   nS+m≤C'∧cs.size=C'*z∧∃rest,cs.toList=olds++vals++rest:=by
 have hu:=C0 hE;obtain⟨i,hi,rfl,rfl,hiz⟩:=a9j hz hb hzv;have hm:0<m:=by omega
 cases A with
 | none=>
  have h0:=hnil rfl;subst h0;obtain rfl:nS=0:=by omega
  have:olds = []:=by cases olds <;> simp_all
  subst this;simp only[Nat.zero_add] at hfit h63 hC ⊢;have:=run_append_nil (P:=P) w T ty E i zv hu hi hiz B m c vals hl hv hm (by omega) (by omega);refine⟨_,_,this,a0P _ _ _ _,?_,?_⟩
  ·simp only[Array.size_append,size_zeroCells,List.size_toArray,hl,hzz];rw[←Nat.add_mul];congr 1;have:=a0P w m 0 E;omega
  ·exact⟨(Builtin.zeroCells zv.cells (grownCap w m 0 E-m)).toList,by rw[Array.toList_append];simp⟩
 | some a0=>
  have hoc:∀(j:Nat) u,olds[j]? = some u→w.cell? (a0.add j)=some u:=by
   intro j u hj;have h0:0<nS:=by
    rcases Nat.eq_zero_or_pos nS with q | q
    ·subst q;have:=r6 hj;omega
    ·exact q
   obtain⟨b,s,hA,h2⟩:=ho h0;cases hA;rw[B0];exact h2 j u hj
  have:=run_append_grow (P:=P) w T ty E i zv hu hi hiz a0 nS C olds hlo hoc B m c vals hl hv hC (by omega) (growslice_fits hC hfit);refine⟨_,_,this,a0P _ _ _ _,?_,?_⟩
  ·simp only[Array.size_append,size_zeroCells,List.size_toArray,hl,hlo,hzz];rw[←Nat.add_mul,←Nat.add_mul];congr 1;have:=a0P w (nS+m) C E;omega
  ·exact⟨(Builtin.zeroCells zv.cells (grownCap w (nS+m) C E-(nS+m))).toList,by rw[Array.toList_append,Array.toList_append]⟩
theorem r7.grown(h:r7 X g st a w){l:Nat}{xs ys:List PV}{C z:Nat}{cl:Bool}{E:TypeId}{cs:Array Value}{olds vals rest:List Value}(hlm:l<MB)(hl:st.σ l=none)
  (hC:(xs++ys).length≤C)(hcs:cs.size=C*z)(hrest:cs.toList=olds++vals++rest)(hel:∀x∈xs++ys,x.el=true∧x.cells.length=z)
  (hA:olds.length=xs.length*z)(hB:vals.length=ys.length*z)
  (ha:∀(i:Nat) x (j:Nat) y u,xs[i]? = some x→x.cells[j]? = some y→olds[i*z+j]? = some u→Rd w g.imm g.μ st.j2 u y∧(cl=true→Rd0 w g.imm u y))
  (hb:∀(i:Nat) x (j:Nat) y u,ys[i]? = some x→x.cells[j]? = some y→vals[i*z+j]? = some u→Rd w g.imm g.μ st.j2 u y∧(cl=true→Rd0 w g.imm u y)) :
  ∃g',r7 X g' ⟨st.env,o0 st.σ l (some ⟨xs++ys,xs.length,true,z,cl⟩)⟩ a (w.drew.alloc (.cells cs E))∧g'.μ l=⟨some ⟨w.heap.size,0,none⟩,(xs++ys).length,C,z⟩:=by
 have h1:=h.drew.a5S (l:=l) (els:=xs++ys) (T:=E) (C:=C) (z:=z) (opn:=true) (cl:=cl) cs hlm hl hC hcs hel (λi x j y u hx hy hu=>by
  have hu':(olds++vals++rest)[i*z+j]? = some u:=by rw[←hrest];simpa using hu
  have:=a7r (R:=λu y=>Rd w g.imm g.μ st.j2 u y∧(cl=true→Rd0 w g.imm u y)) hA (λx hx=>(hel x hx).2) ha hb rest hB i x j y u hx hy hu';have hx0:Ext w g.imm w.drew g.imm:=⟨λ_ _ q=>q,λ_ _ _=>rfl,λ_ _ _ _ q _=>q⟩;exact⟨this.1.mono hx0 λ_ q=>⟨q,rfl⟩,λq=>(this.2 q).mono hx0⟩)
 have h2:=h1.frz (l:=l) (j4 _ _ _) xs.length (Nat.zero_le _) (by simp) true (λ_=>rfl);simp only[b4B] at h2;exact⟨_,h2,j4 _ _ _⟩
end
end Go.Pw
namespace Go.Pw
open Go.RowKit
section
variable{X:Ctx}{g:Gh}{st:St}{a:Act}{w:World}{n:Nat}{K:Act→World→Prop}{Q:Exit→Act→World→Prop}{ρ:Option Nat}{P:Program}
theorem R4{o:Oper}{x y:Operand}{ts:Array TypeId}(ho:o.op = .call { callee:=.builtin .append,args:=#[x,y],argTypes:=ts }){v:Value}{w':World}
  (h:(Builtin.append_ ts o.type #[a.eval x,a.eval y]).run P w = .ok v w'):(execOp a.eval o).run P w = .ok (.value v) w':=by
 obtain⟨dst,op,ty,pos,after,guard⟩:=o;simp only at ho;subst ho;have e:Array.map a.eval #[x,y] = #[a.eval x,a.eval y]:=by simp
 rw[←e] at h;exact y5 h
theorem r7.a6M(h:r7 X g st a w){l:Nat}{A:Option Addr}{xs:List PV}{z:Nat}(hlm:l<MB)(hl:st.σ l=none)(hA:A=none→xs.length=0)
  (hel:∀x∈xs,x.el=true∧x.cells.length=z)
  (hc:0<xs.length→∃b s,A=some ⟨b,s,none⟩∧∀(i:Nat) x (j:Nat) y,xs[i]? = some x→x.cells[j]? = some y→∃u,g.imm b (s+i*z+j)∧w.cell? ⟨b,s+i*z+j,none⟩=some u∧Rd0 w g.imm u y)(cl:Bool) :
  r7 X ⟨g.imm,o0 g.μ l ⟨A,xs.length,xs.length,z⟩⟩ ⟨st.env,o0 st.σ l (some ⟨xs,xs.length,true,z,cl⟩)⟩ a w:=by
 have hno:∀b o,¬A2 ⟨A,xs.length,xs.length,z⟩ ⟨xs,xs.length,true,z,cl⟩ b o:=by
  rintro b o ⟨s,_,h1,h2⟩;simp only[if_true] at h1 h2;omega
 refine h.row hlm hl ⟨rfl,rfl,Nat.le_refl _,Nat.le_refl _,hel,hA,λq=>?_,λi x j y hx hy=>?_,λb o q=>absurd q (hno b o)⟩ (λ_ _ b o _ _=>hno b o) (λb o q=>absurd q (hno b o))
 ·obtain⟨b,s,e,_⟩:=hc q;exact⟨b,s,e⟩
 ·obtain⟨b,s,e,k⟩:=hc (by have:=r6 hx;simp only at this;omega);obtain⟨u,k1,k2,k3⟩:=k i x j y hx hy;exact⟨b,s,u,e,k2,.cl k3,λ_=>k1,λ_=>k3⟩
theorem b4i{o:Oper}{x y:Operand}{T E:TypeId}{xs ys:List PV}{cl:Bool}{z by_ l:Nat}{zv:Value}(h:r7 X g st a w)
  (ho:o.op = .call { callee:=.builtin .append,args:=#[x,y],argTypes:=#[T,T] })(hdst:∀t,o.dst=some t→t<X.N)(hlm:l<MB)(hl:st.σ l=none)
  (hx:p6 st.env x = .lst true xs)(hy:Src st.σ (p6 st.env y) ys cl)(hE:r5 X.P T=some E)(hz:l5 X.P E=some z)(hb:C2 X.P E=some by_)(hzv:r4 X.P E=some zv)(hzz:zv.cells.size=z)
  (hel:∀e∈xs++ys,e.cells.length=z)(hfit:(xs.length+ys.length)*by_≤140737488355328)(h63:xs.length+ys.length≤9223372036854775807)
  (hK:∀g' a' w',r7 X g' ⟨F3 st.env o.dst (.sl l),(G8.new l ⟨xs++ys,xs.length,true,z,cl⟩).apply st.σ⟩ a' w'→K a' w'):o.wpIn (FX ρ) n X.P a w K Q:=by
 have hnd:∀c,o.op ≠ .defer c:=λc=>by rw[ho];simp
 have hv:=h.eval x;have hu:=h.eval y;rw[hx] at hv;obtain⟨A,c,z',u,e,h1,h2,h3,h4,h5,h6⟩:=hv.W8;have hc:=h2 rfl;subst hc;obtain⟨B,cB,vals,eB,hyel,hlv,hvr,hone,hvc⟩:=Src.reads h hu hy (z:=z) (λy hy=>hel y (List.mem_append_right _ hy));rcases Nat.eq_zero_or_pos ys.length with hm | hm
 ·have:ys = []:=by cases ys <;> simp_all
  subst this;simp only[List.append_nil] at hel hK;have hr:(execOp a.eval o).run X.P w = .ok (.value (.slice A xs.length xs.length)) w:=
   R4 ho (by rw[e,eB];exact a2c hE hz (Nat.le_refl _))
  have hs:=h.a6M (l:=l) (A:=A) (xs:=xs) (z:=z) hlm hl h3 (λx hx=>⟨(h4 x hx).1,hel x hx⟩) (λh0=>by
   obtain⟨b,s,hA,h7⟩:=h5 h0;refine⟨b,s,hA,λi x j y hx hy=>?_⟩;have hmx:=List.mem_of_getElem? hx;have:z'=z:=by rw[←(h4 x hmx).2,hel x hmx]
   subst this;exact⟨_,(h7 i x j y hx hy).1,(h7 i x j y hx hy).2,h6 i x j y hx hy⟩) cl
  exact w5 hnd hr (hK _ _ _ (hs.put hdst (U8 ⟨_,j4 _ _ _⟩ (j4 _ _ _))))
 ·obtain⟨bB,sB,rfl,hBc⟩:=hvc hm;obtain⟨A',cA,olds,eA,hxel,hlo,hor,_,hoc⟩:=Src.reads h hv (.inl ⟨true,rfl,rfl⟩:Src st.σ (.lst true xs) xs true) (z:=z) (λy hy=>hel y (List.mem_append_left _ hy));rw[e] at eA;cases eA;obtain⟨C',cs,hr,hC',hcs,rest,hrest⟩:=a0z (P:=X.P) (w:=w) (ty:=o.type) (c:=cB) (B:=⟨bB,sB,none⟩) (m:=ys.length) hE hz hb hzv hzz (by omega) (Nat.le_refl _) h3 hlo (λq=>hoc q) hlv
   (λj u hj=>by rw[B0];exact hBc j u hj) hfit h63
  obtain⟨g',hs,hμ⟩:=h.grown (l:=l) (xs:=xs) (ys:=ys) (C:=C') (z:=z) (cl:=cl) (E:=E) hlm hl (by simpa using hC') hcs hrest
   (λe he=>⟨(List.mem_append.1 he).elim (hxel e) (hyel e),hel e he⟩) hlo hlv (λi x j y u hx hy hu=>⟨(hor i x j y u hx hy hu).1,λ_=>(hor i x j y u hx hy hu).2 rfl⟩) hvr
  refine w5 hnd (R4 ho (by rw[e,eB];exact hr)) (hK g' _ _ (hs.put hdst ?_));have:=U8 (w':=w.drew.alloc (.cells cs E)) (imm:=g'.imm) (μ:=g'.μ) (j2:=St.j2 ⟨st.env,o0 st.σ l (some ⟨xs++ys,xs.length,true,z,cl⟩)⟩) ⟨_,j4 _ _ _⟩ hμ;simpa using this
theorem b4h{o:Oper}{x y:Operand}{T E:TypeId}{ys:List PV}{cl:Bool}{z by_ l s:Nat}{r:Row}{zv:Value}(h:r7 X g st a w)
  (ho:o.op = .call { callee:=.builtin .append,args:=#[x,y],argTypes:=#[T,T] })(hdst:∀t,o.dst=some t→t<X.N)(hlm:l<MB)(hl:st.σ l=none)
  (hx:p6 st.env x = .sl s)(hsr:st.σ s=some r)(hop:r.opn=true)(hy:Src st.σ (p6 st.env y) ys cl)(hE:r5 X.P T=some E)(hz:l5 X.P E=some z)(hb:C2 X.P E=some by_)(hzv:r4 X.P E=some zv)
  (hzz:zv.cells.size=z)(hel:∀e∈r.els++ys,e.cells.length=z)(hrz:r.z=z)(hfit:(r.els.length+ys.length)*by_≤140737488355328)(h63:r.els.length+ys.length≤9223372036854775807)
  (hK:∀g' a' w',r7 X g' ⟨F3 st.env o.dst (.sl l),(G8.app s l ⟨r.els++ys,r.els.length,true,z,r.cl&&cl⟩).apply st.σ⟩ a' w'→K a' w'):o.wpIn (FX ρ) n X.P a w K Q:=by
 have hnd:∀c,o.op ≠ .defer c:=λc=>by rw[ho];simp
 have hsl:s≠l:=λq=>by rw[q,hl] at hsr;cases hsr
 simp only[G8.apply,hsr] at hK;have hv:=h.eval x;have hu:=h.eval y;rw[hx] at hv;obtain⟨hp,e⟩:=hv.O6;have hR:=h.rows s r hsr;obtain⟨B,cB,vals,eB,hyel,hlv,hvr,hone,hvc⟩:=Src.reads h hu hy (z:=z) (λy hy=>hel y (List.mem_append_right _ hy));have hF:=h.frz hsr r.els.length (by have:=hR.lo;have:=hR.n;omega) (Nat.le_refl _) false (λq=>by cases q);have hFl:o0 st.σ s (some { r with lo:=r.els.length,opn:=false }) l=none:=by rw[e6 _ _ (Ne.symm hsl)];exact hl
 have hxF:Ext w g.imm w (a2U g st.σ s r.els.length):=⟨λ_ _ q=>.inl q,λ_ _ _=>rfl,λ_ _ _ _ q _=>q⟩;have hpF:∀l',st.j2 l'→St.j2 ⟨st.env,o0 st.σ s (some { r with lo:=r.els.length,opn:=false })⟩ l'∧g.μ l'=g.μ l':=by
  rintro l' ⟨r',hr'⟩;refine⟨?_,rfl⟩;by_cases q:l'=s
  ·exact⟨_,by rw[q];exact j4 _ _ _⟩
  ·exact⟨r',by rw[show (St.mk st.env (o0 st.σ s (some { r with lo:=r.els.length,opn:=false }))).σ l'=st.σ l' from e6 _ _ q];exact hr'⟩
 have hRF:=hF.rows s { r with lo:=r.els.length,opn:=false } (j4 _ _ _);have hmz:(g.μ s).z=z:=by rw[hR.z,hrz]
 rcases Nat.lt_or_ge (g.μ s).C ((g.μ s).n+ys.length) with hbig | hroom
 ·-- a new block
  have hm:0<ys.length:=by have:=hR.C;omega
  obtain⟨bB,sB,rfl,hBc⟩:=hvc hm;obtain⟨A',cA,olds,eA,hxel,hlo,hor,_,hoc⟩:=Src.reads h hv (.inr ⟨s,r,rfl,hsr,rfl,rfl⟩:Src st.σ (.sl s) r.els r.cl) (z:=z) (λy hy=>hel y (List.mem_append_left _ hy));rw[e] at eA;simp only[Value.slice.injEq] at eA;obtain⟨rfl,hn',rfl⟩:=eA;rw[hn'] at e hbig;obtain⟨C',cs,hr,hC',hcs,rest,hrest⟩:=a0z (P:=X.P) (w:=w) (ty:=o.type) (c:=cB) (B:=⟨bB,sB,none⟩) (m:=ys.length) hE hz hb hzv hzz hbig (by rw[←hn'];exact hR.C) hR.nil hlo (λq=>hoc q) hlv
   (λj u hj=>by rw[B0];exact hBc j u hj) hfit h63
  obtain⟨g',hs,hμ⟩:=hF.grown (l:=l) (xs:=r.els) (ys:=ys) (C:=C') (z:=z) (cl:=r.cl&&cl) (E:=E) hlm hFl (by simpa using hC') hcs hrest
   (λe he=>⟨(List.mem_append.1 he).elim (hxel e) (hyel e),hel e he⟩) hlo hlv
   (λi x j y u hx hy hu=>⟨(hor i x j y u hx hy hu).1.mono hxF hpF,λq=>((hor i x j y u hx hy hu).2 (by simp at q;exact q.1)).mono hxF⟩)
   (λi x j y u hx hy hu=>⟨(hvr i x j y u hx hy hu).1.mono hxF hpF,λq=>((hvr i x j y u hx hy hu).2 (by simp at q;exact q.2)).mono hxF⟩)
  refine w5 hnd (R4 ho (by rw[e,eB];exact hr)) (hK g' _ _ (hs.put hdst ?_));have:=U8 (w':=w.drew.alloc (.cells cs E)) (imm:=g'.imm) (μ:=g'.μ)
   (j2:=St.j2 ⟨st.env,o0 (o0 st.σ s (some { r with lo:=r.els.length,opn:=false })) l (some ⟨r.els++ys,r.els.length,true,z,r.cl&&cl⟩)⟩) ⟨_,j4 _ _ _⟩ hμ
  simpa using this
 ·-- in place
  have hn:=hR.n;have hT:∀b s',(g.μ s).A=some ⟨b,s',none⟩→∀o',s'+(g.μ s).n*z≤o'→o'<s'+(g.μ s).C*z→A2 (g.μ s) r b o':=λb s' hA o' q1 q2=>
   ⟨s',hA,by have:r.lo*(g.μ s).z≤(g.μ s).n*(g.μ s).z:=Nat.mul_le_mul_right _ hR.lo;rw[hmz] at *;omega,by rw[hop,if_pos rfl,hmz];exact q2⟩
  have hTi:∀b o',(∃s',(g.μ s).A=some ⟨b,s',none⟩∧s'+(g.μ s).n*z≤o'∧o'<s'+(g.μ s).C*z)→¬a2U g st.σ s r.els.length b o':=by
   rintro b o' ⟨s',hA,q1,q2⟩ (q | ⟨r2,s2,hr2,_,hA2,q3⟩);·exact h.ownimm s r b o' hsr (hT b s' hA o' q1 q2) q
   ·rw[hA] at hA2;cases hA2;rw[hmz,←hn] at q3;omega
  have hnew:∀(w':World) (v':Value),(Builtin.append_ #[T,T] o.type #[.slice (g.μ s).A (g.μ s).n (g.μ s).C,a.eval y]).run X.P w = .ok (.slice (g.μ s).A ((g.μ s).n+ys.length) (g.μ s).C) w' →
    (w'=w∧ys.length=0∨∃b s',(g.μ s).A=some ⟨b,s',none⟩∧w'=w.setCells b (s'+(g.μ s).n*z) vals)→o.wpIn (FX ρ) n X.P a w K Q:=by
   intro w' v' hrun hw';have hcell:∀b o',¬(∃s',(g.μ s).A=some ⟨b,s',none⟩∧s'+(g.μ s).n*z≤o'∧o'<s'+(g.μ s).C*z)→w'.cell? ⟨b,o',none⟩=w.cell? ⟨b,o',none⟩∧w'.frozen? ⟨b,o',none⟩=w.frozen? ⟨b,o',none⟩:=by
    intro b o' q;rcases hw' with ⟨rfl,_⟩ | ⟨b',s',hA,rfl⟩;·exact⟨rfl,rfl⟩
    ·refine⟨World.cell?_setCells_out b' vals _ w ⟨b,o',none⟩ λq1 _=>?_,World.frozen?_setCells b' vals _ w _⟩;simp only at q1 ⊢;subst q1;rcases Nat.lt_or_ge o' (s'+(g.μ s).n*z) with q2 | q2
     ·exact .inl q2
     ·right;rcases Nat.lt_or_ge o' (s'+(g.μ s).n*z+vals.length) with q3 | q3
      ·exfalso;refine q ⟨s',hA,q2,?_⟩;have:((g.μ s).n+ys.length)*z≤(g.μ s).C*z:=Nat.mul_le_mul_right _ hroom;rw[Nat.add_mul] at this;omega
      ·exact q3
   have hxw:Ext w (a2U g st.σ s r.els.length) w' (a2U g st.σ s r.els.length):=⟨λ_ _ q=>q,λb o' q=>(hcell b o' λq'=>hTi b o' q' q).1,λk _ x _ hx hc=>by
    rcases hw' with ⟨rfl,_⟩ | ⟨b',s',hA,rfl⟩;·exact hx
    ·exact (w7 b' vals _ w).same k x hx (C9 hc)⟩
   have hlw:w'.heap.size=w.heap.size:=by
    rcases hw' with ⟨rfl,_⟩ | ⟨b',s',hA,rfl⟩;·rfl
    ·exact size_setCells _ _ _ _
   have hbw:Bel X.w0.heap.size X.w0 w':=by
    rcases hw' with ⟨rfl,_⟩ | ⟨b',s',hA,rfl⟩;·exact h.below
    ·rcases Nat.eq_zero_or_pos vals.length with q | q
     ·have:vals = []:=List.eq_nil_of_length_eq_zero q;subst this;exact h.below
     ·refine T5 b' ?_ vals _ w h.below;refine (h.O4 hsr (hT b' s' hA (s'+(g.μ s).n*z) (Nat.le_refl _) ?_)).1;have:((g.μ s).n+ys.length)*z≤(g.μ s).C*z:=Nat.mul_le_mul_right _ hroom;rw[Nat.add_mul] at this;omega
   have hother:∀l' r' b o',o0 st.σ s (some { r with lo:=r.els.length,opn:=false }) l'=some r'→A2 (g.μ l') r' b o'→¬∃s',(g.μ s).A=some ⟨b,s',none⟩∧s'+(g.μ s).n*z≤o'∧o'<s'+(g.μ s).C*z:=by
    rintro l' r' b o' q ho' ⟨s',hA,q1,q2⟩;by_cases el:l'=s
    ·subst el;rw[j4] at q;cases q;obtain⟨s2,hA2,k1,k2⟩:=ho';simp only[Bool.false_eq_true,if_false] at k1 k2;rw[hn] at k2;omega
    ·rw[e6 _ _ el] at q;exact h.disj l' s r' r el q hsr b o' ho' (hT b s' hA o' q1 q2)
   have hM:=hF.move (w':=w') (imm':=a2U g st.σ s r.els.length) hxw (λl' r' b o' q ho'=>⟨(hcell b o' (hother l' r' b o' q ho')).1,(hcell b o' (hother l' r' b o' q ho')).2,hF.ownimm l' r' b o' q ho'⟩)
    (λb o' q=>by rw[hlw];exact hF.immlt b o' q) hF.immsub hbw (λk x hx hc=>by
     rcases hw' with ⟨rfl,_⟩ | ⟨b',s',hA,rfl⟩;·exact hx
     ·exact (w7 b' vals _ w).same k x hx hc) (λ_ _ _ q _ _=>q)
   have hown:∀b o',A2 ⟨(g.μ s).A,(g.μ s).n+ys.length,(g.μ s).C,z⟩ ⟨r.els++ys,r.els.length,true,z,r.cl&&cl⟩ b o'→∃s',(g.μ s).A=some ⟨b,s',none⟩∧s'+(g.μ s).n*z≤o'∧o'<s'+(g.μ s).C*z:=by
    rintro b o' ⟨s',hA,q1,q2⟩;simp only[if_true] at q1 q2;exact⟨s',hA,by rw[hn];exact q1,q2⟩
   have hN:=hM.row (l:=l) (m:=⟨(g.μ s).A,(g.μ s).n+ys.length,(g.μ s).C,z⟩) (r:=⟨r.els++ys,r.els.length,true,z,r.cl&&cl⟩) hlm hFl
    ⟨by simp[hn],rfl,hroom,by simp only;omega,λe he=>⟨(List.mem_append.1 he).elim (λq=>(hR.el e q).1) (hyel e),hel e he⟩,hR.nil,hR.spot,λi x j y hx hy=>?_,λb o' q=>?_⟩
    (λl' r' b o' q ho' k=>hother l' r' b o' q ho' (hown b o' k)) (λb o' q=>hTi b o' (hown b o' q))
   ·refine w5 hnd (R4 ho (by rw[e];exact hrun)) (hK _ _ _ (hN.put hdst ?_));exact U8 (l:=l) (m:=⟨(g.μ s).A,(g.μ s).n+ys.length,(g.μ s).C,z⟩) ⟨_,j4 _ _ _⟩ (j4 _ _ _)
   ·simp only at hx ⊢;have hi:=r6 hx;simp at hi;have hxz:x.cells.length=z:=hel x (List.mem_of_getElem? hx);have hj:=PV.u7 hy;rcases Nat.lt_or_ge i r.els.length with q | q
    ·rw[List.getElem?_append_left q] at hx;obtain⟨b,s',u,k1,k2,k3,k4,k5⟩:=hRF.cell i x j y hx hy;simp only at k1 k2 k4 k5;rw[hmz] at k2 k4;have hi':=k4 q;exact⟨b,s',u,k1,by rw[hxw.cl b _ hi'];exact k2,k3.mono hxw λ_ q=>⟨q,rfl⟩,λ_=>hi',λq'=>(k5 (by simp at q';exact q'.1)).mono hxw⟩
    ·rw[List.getElem?_append_right q] at hx;have hm:0<ys.length:=by omega
     rcases hw' with ⟨_,q0⟩ | ⟨b',s',hA,rfl⟩;·omega
     ·have e1:(i-r.els.length)*z=i*z-r.els.length*z:=Nat.sub_mul _ _ _;have e2:r.els.length*z≤i*z:=Nat.mul_le_mul_right _ q;have e3:(i-r.els.length+1)*z≤ys.length*z:=Nat.mul_le_mul_right _ (by omega);rw[Nat.add_mul,Nat.one_mul] at e3;have hlt:(i-r.els.length)*z+j<vals.length:=by omega
      have hu':=List.getElem?_eq_getElem hlt;have hrd:=hvr _ x j y _ hx hy hu';have hin:=World.cell?_setCells_in b' vals (s'+(g.μ s).n*z) w (λj' hj'=>(hR.own b' _ (hT b' s' hA _ (by omega) (by
       have:((g.μ s).n+ys.length)*z≤(g.μ s).C*z:=Nat.mul_le_mul_right _ hroom;rw[Nat.add_mul] at this;omega))).2.1) _ hlt
      rw[show s'+(g.μ s).n*z+((i-r.els.length)*z+j)=s'+i*z+j by rw[hn];omega] at hin;exact⟨b',s',_,hA,hin,(hrd.1.mono hxF hpF).mono hxw λ_ q=>⟨q,rfl⟩,λq'=>by omega,λq'=>((hrd.2 (by simp at q';exact q'.2)).mono hxF).mono hxw⟩
   ·obtain⟨s',hA,q1,q2⟩:=hown b o' q;obtain⟨k1,k2,k3⟩:=hR.own b o' (hT b s' hA o' q1 q2);refine⟨k1,?_,?_⟩
    ·rcases hw' with ⟨rfl,_⟩ | ⟨b',s2,hA2,rfl⟩;·exact k2
     ·rw[hA] at hA2;cases hA2;by_cases q3:o'<s'+(g.μ s).n*z+vals.length
      ·have:=World.cell?_setCells_in b vals (s'+(g.μ s).n*z) w (λj' hj'=>(hR.own b _ (hT b s' hA _ (by omega) (by
        have:((g.μ s).n+ys.length)*z≤(g.μ s).C*z:=Nat.mul_le_mul_right _ hroom;rw[Nat.add_mul] at this;omega))).2.1) (o'-(s'+(g.μ s).n*z)) (by omega)
       rw[show s'+(g.μ s).n*z+(o'-(s'+(g.μ s).n*z))=o' by omega] at this;rw[this];rfl
      ·rw[World.cell?_setCells_out b vals _ w ⟨b,o',none⟩ λ_ _=>by simp only;omega];exact k2
    ·rcases hw' with ⟨rfl,_⟩ | ⟨b',s2,hA2,rfl⟩;·exact k3
     ·rw[World.frozen?_setCells];exact k3
  rcases Nat.eq_zero_or_pos ys.length with hm | hm
  ·refine hnew w undef ?_ (.inl ⟨rfl,hm⟩);rw[eB,hm];exact a2c hE hz hR.C
  ·obtain⟨bB,sB,rfl,hBc⟩:=hvc hm;obtain⟨b,s',hA⟩:=hR.spot (by omega);refine hnew _ undef ?_ (.inr ⟨b,s',hA,rfl⟩);rw[eB,hA];refine a1u hE hz hroom hlv (λj u hj=>by rw[B0];exact hBc j u hj) hone λj hj=>(hR.own b _ (hT b s' hA _ (by omega) (by
    have:((g.μ s).n+ys.length)*z≤(g.μ s).C*z:=Nat.mul_le_mul_right _ hroom;rw[Nat.add_mul] at this;omega))).2
end
end Go.Pw
namespace Go.Pw
open Go.RowKit
section
variable{X:Ctx}{g:Gh}{st:St}{a:Act}{w:World}{n:Nat}{K:Act→World→Prop}{Q:Exit→Act→World→Prop}{ρ:Option Nat}{P:Program}
def a8C(off:Nat)(cells:Array Value)(l:List (Value × Nat)):Array Value:=l.foldl (λcs (c,j)=>cs.setIfInBounds (off+j) c) cells
theorem a7s(off:Nat):∀(l:List (Value × Nat)) (cells:Array Value),(a8C off cells l).size=cells.size
 | [],_=>rfl
 | _::l,cells=>by
  show (a8C off (cells.setIfInBounds _ _) l).size=_;rw[a7s off l];simp
theorem a8D(off:Nat):∀(vs:List Value) (j0:Nat) (cells:Array Value),off+j0+vs.length≤cells.size→∀k,
  (a8C off cells (vs.zipIdx j0))[k]? = if off+j0≤k∧k<off+j0+vs.length then vs[k-(off+j0)]? else cells[k]?
 | [],j0,cells,_,k=>by
  rw[if_neg (by simp only[List.length_nil];omega)];rfl
 | v::vs,j0,cells,h,k=>by
  simp only[List.length_cons] at h;have ih:=a8D off vs (j0+1) (cells.setIfInBounds (off+j0) v) (by simp;omega) k;rw[List.zipIdx_cons];show (a8C off (cells.setIfInBounds (off+j0) v) (vs.zipIdx (j0+1)))[k]? = _;rw[ih];by_cases e:k=off+j0
  ·subst e;rw[if_neg (by omega),if_pos ⟨by omega,by simp only[List.length_cons];omega⟩,Nat.sub_self];simp only[List.getElem?_cons_zero,Array.getElem?_setIfInBounds,if_true];rw[if_pos (by omega)]
  ·by_cases q:off+(j0+1)≤k∧k<off+(j0+1)+vs.length
   ·rw[if_pos q,if_pos (by simp only[List.length_cons];omega)];rw[show k-(off+j0)=(k-(off+(j0+1)))+1 by omega,List.getElem?_cons_succ]
   ·rw[if_neg q,if_neg (by simp only[List.length_cons];omega)];simp only[Array.getElem?_setIfInBounds];rw[if_neg (Ne.symm e)]
def o8(R:Value→PV→Prop)(cs:Array Value)(ps:List PV):Prop:=cs.size=ps.length∧∀(k:Nat) v p,cs[k]? = some v→ps[k]? = some p→R v p
theorem a1T{w:World}{imm:Nat→Nat→Prop}{μ:Nat→A6}{j2:Nat→Prop}(place:Nat→Option (Nat × Nat)):∀(parts:List (Nat × Value)) (pp:List (Nat × PV)) (cs:Array Value) (ps ps':List PV),
  parts.length=pp.length→(∀(k:Nat) i v j d,parts[k]? = some (i,v)→pp[k]? = some (j,d)→i=j∧Rd w imm μ j2 v d)→o8 (Rd w imm μ j2) cs ps→a2t place ps pp=some ps' →
  ∃cs',Instr.fill place cs parts=some cs'∧o8 (Rd w imm μ j2) cs' ps'
 | [],[],cs,ps,ps',_,_,hc,hf=>by
  simp only[a2t,Option.some.injEq] at hf;subst hf;exact⟨cs,rfl,hc⟩
 | (i,v)::parts,(j,d)::pp,cs,ps,ps',hl,hp,hc,hf=>by
  obtain⟨rfl,hv⟩:=hp 0 i v j d rfl rfl;simp only[a2t] at hf;simp only[Instr.fill];cases hpl:place i with
  | none=>rw[hpl] at hf;cases hf
  | some q=>
   obtain⟨off,size⟩:=q;rw[hpl] at hf;simp only at hf ⊢;split at hf;·cases hf
   ·rename_i hn;have hn1:d.cells.length=size:=by
     rcases Nat.decEq d.cells.length size with q | q
     ·exact absurd (.inl q) hn
     ·exact q
    have hn2:off+d.cells.length≤ps.length:=by
     rcases Nat.lt_or_ge ps.length (off+d.cells.length) with q | q
     ·exact absurd (.inr (.inl q)) hn
     ·exact q
    have hn3:d.el=true:=by
     cases q:d.el;·exact absurd (.inr (.inr q)) hn
     ·rfl
    obtain⟨hs,hcs⟩:=hv.cells hn3;have e:¬(v.cells.size≠size∨off+v.cells.size > cs.size):=by rw[hs,hc.1];omega
    have e':(decide (v.cells.size≠size)||decide (off+v.cells.size > cs.size))=false:=by
     simp only[Bool.or_eq_false_iff,decide_eq_false_iff_not];omega
    rw[if_neg (by simpa using e')];refine a1T place parts pp _ _ ps' (by simpa using hl) (λk=>hp (k+1)) ?_ hf;have hz:v.cells.zipIdx.foldl (λcs (x:Value × Nat)=>cs.setIfInBounds (off+x.2) x.1) cs=a8C off cs (v.cells.toList.zipIdx 0):=by
     rw[←Array.foldl_toList,Array.toList_zipIdx];rfl
    refine⟨?_,λk u p hu hp'=>?_⟩
    ·have:(v.cells.zipIdx.foldl (λcs (x:Value × Nat)=>cs.setIfInBounds (off+x.2) x.1) cs).size=cs.size:=by rw[hz];exact a7s off _ _
     rw[show (v.cells.zipIdx.foldl _ cs).size=cs.size from this,hc.1];simp;omega
    ·have hu':(a8C off cs (v.cells.toList.zipIdx 0))[k]? = some u:=by rw[←hz];exact hu
     rw[a8D off v.cells.toList 0 cs (by simp;omega)] at hu';simp only[Nat.add_zero,Array.length_toList,hs] at hu';split at hu'
     ·rename_i q;rw[List.append_assoc,List.getElem?_append_right (by simp;omega),List.getElem?_append_left (by simp;omega)] at hp';simp only[List.length_take,Nat.min_eq_left (show off≤ps.length by omega)] at hp';exact hcs _ u p (by simpa using hu') hp'
     ·rename_i q;refine hc.2 k u p hu' ?_;rcases Nat.lt_or_ge k off with q2 | q2
      ·rw[List.append_assoc,List.getElem?_append_left (by simp;omega),List.getElem?_take_of_lt q2] at hp';exact hp'
      ·have hlt:=r6 hp';simp at hlt;rw[List.getElem?_append_right (by simp;omega)] at hp';simp only[List.length_append,List.length_take,List.getElem?_drop,Nat.min_eq_left (show off≤ps.length by omega)] at hp';rwa [show off+d.cells.length+(k-(off+d.cells.length))=k by omega] at hp'
theorem b0Z{T:TypeId}{pl:Nat→Option (Nat × Nat)}{z:Value}{parts:Array (Nat × Value)}{cells:Array Value}(hpl:w6 P T=some pl)(hz:r4 P T=some z)
  (hf:Instr.fill pl z.cells parts.toList=some cells):(Instr.build T parts).run P w = .ok (.agg cells) w:=by
 refine run_build w T parts cells ?_;unfold Program.built;unfold w6 at hpl;unfold r4 at hz;cases hit:P.info? T with
 | none=>rw[hit] at hz;cases hz
 | some it=>
  rw[hit] at hz;have hz':it.zero=some z:=by simpa using hz
  cases hu:P.underlying T with
  | none=>rw[hu] at hpl;cases hpl
  | some D=>
   rw[hu] at hpl;cases D <;> first | (cases hpl;done) | skip
   case array m e=>
    simp only at hpl ⊢;cases hie:P.info? e with
    | none=>rw[hie] at hpl;cases hpl
    | some ie=>
     rw[hie] at hpl;simp only[Option.map_some,Option.some.injEq] at hpl;simp only[hz'];rw[show (λi=>some (i*ie.size,ie.size))=pl from hpl];exact hf
   case struct fs=>
    simp only at hpl ⊢;cases hm:fs.toList.mapM (λf=>(P.info? f.type).map λi=>(f.offset,i.size)) with
    | none=>rw[hm] at hpl;cases hpl
    | some places=>
     rw[hm] at hpl;simp only[Option.map_some,Option.some.injEq] at hpl;simp only[hz'];rw[show (places.toArray[·]?)=pl from hpl];exact hf
theorem a5N(h:r7 X g st a w)(parts:Array (Nat × Operand)):∀(k:Nat) i v j d,((parts.map λ(i,x)=>(i,a.eval x)).toList)[k]? = some (i,v)→(parts.toList.map λp=>(p.1,(p6 st.env p.2).w1))[k]? = some (j,d) →
  i=j∧Rd w g.imm g.μ st.j2 v d:=by
 intro k i v j d h1 h2;rw[Array.toList_map,List.getElem?_map] at h1;rw[List.getElem?_map] at h2;cases hk:parts.toList[k]? with
 | none=>rw[hk] at h1;cases h1
 | some p=>
  rw[hk] at h1 h2;simp only[Option.map_some,Option.some.injEq,Prod.mk.injEq] at h1 h2;obtain⟨rfl,rfl⟩:=h1;obtain⟨rfl,rfl⟩:=h2;exact⟨rfl,(h.eval _).w1⟩
theorem b2U{o:Oper}{T:TypeId}{parts:Array (Nat × Operand)}{pl:Nat→Option (Nat × Nat)}{z:Value}{zs cs:List PV}(h:r7 X g st a w)(ho:o.op = .build T parts)(hpl:w6 X.P T=some pl)(hz:r4 X.P T=some z)
  (hzs:PV.ofV z = .agg zs)(hf:a2t pl zs (parts.toList.map λp=>(p.1,(p6 st.env p.2).w1))=some cs)(hsc:cs.all PV.sc=true) :
  ∃u,(execOp a.eval o).run X.P w = .ok (.value u) w∧Rd w g.imm g.μ st.j2 u (.agg cs):=by
 have hr:=a5Q w g.imm z;rw[hzs] at hr;have hcells:o8 (Rd w g.imm g.μ st.j2) z.cells zs:=by
  obtain⟨vs,e,hn,hc⟩:=(Rd.cl hr:Rd w g.imm g.μ st.j2 z (.agg zs)).T4;subst e;exact⟨hn,hc⟩
 obtain⟨cs',h1,h2,h3⟩:=a1T pl ((parts.map λ(i,x)=>(i,a.eval x)).toList) (parts.toList.map λp=>(p.1,(p6 st.env p.2).w1)) z.cells zs cs (by simp) (a5N h parts) hcells hf;refine⟨.agg cs',?_,.agg _ _ hsc h2 h3⟩;obtain⟨dst,op,ty,pos,after,guard⟩:=o;simp only at ho;subst ho;exact y5 (b0Z hpl hz h1)
theorem a7j{R:Value→PV→Prop}{z:Nat}:∀ {els:List PV} {cs:Array Value},(∀x∈els,x.cells.length=z)→o8 R cs (els.flatMap PV.cells) →
  ∀(i:Nat) x (j:Nat) y u,els[i]? = some x→x.cells[j]? = some y→cs[i*z+j]? = some u→R u y:=by
 intro els cs hz hc i x j y u hx hy hu;refine hc.2 _ _ _ hu ?_;clear hc hu;induction els generalizing i with
 | nil=>simp at hx
 | cons e els ih=>
  cases i with
  | zero=>
   simp at hx;subst hx;simp only[Nat.zero_mul,Nat.zero_add,List.flatMap_cons];rw[List.getElem?_append_left (PV.u7 hy)];exact hy
  | succ i=>
   have he:=hz e (by simp);simp only[List.flatMap_cons];rw[Nat.add_mul,Nat.one_mul,List.getElem?_append_right (by omega),show i*z+z+j-e.cells.length=i*z+j by omega];exact ih (λx hx=>hz x (by simp[hx])) i (by simpa using hx)
theorem a7i{z:Nat}:∀ {els:List PV},(∀x∈els,x.cells.length=z)→(els.flatMap PV.cells).length=els.length*z
 | [],_=>by simp
 | e::els,h=>by
  rw[List.flatMap_cons,List.length_append,a7i (λx hx=>h x (by simp[hx])),h e (by simp),List.length_cons,Nat.add_mul];omega
theorem a8a{o:Oper}{T E:TypeId}{parts:Array (Nat × Operand)}{len z l:Nat}{zv:Value}{els:List PV}{cl:Bool}(h:r7 X g st a w)(ho:o.op = .buildSlice T len parts)(hdst:∀t,o.dst=some t→t<X.N)(hlm:l<MB)(hl:st.σ l=none)
  (hE:r5 X.P T=some E)(hz:l5 X.P E=some z)(hzv:r4 X.P E=some zv)(hlen:els.length=len)(hel:∀x∈els,x.el=true∧x.cells.length=z)(hbig:len*z≤2 ^ 24)
  (hf:a2t (λi=>some (i*z,z)) (List.replicate (len*z) .junk) (parts.toList.map λp=>(p.1,(p6 st.env p.2).w1))=some (els.flatMap PV.cells))(hcl:cl=true→els.all (λx=>x.cells.all PV.K1)=true)
  (hK:∀g' a' w',r7 X g' ⟨F3 st.env o.dst (.sl l),(G8.new l ⟨els,0,true,z,cl⟩).apply st.σ⟩ a' w'→K a' w'):o.wpIn (FX ρ) n X.P a w K Q:=by
 subst hlen;have hcells:∀cs0:Array Value,cs0.size=els.length*z→o8 (Rd w g.imm g.μ st.j2) cs0 (List.replicate (els.length*z) .junk):=λcs0 hs=>⟨by simp[hs],λk v p _ hp=>by
  have:=List.mem_of_getElem? hp;rw[List.mem_replicate] at this;rw[this.2];exact .cl (.junk v)⟩
 have key:∀cs0:Array Value,cs0.size=els.length*z→∃cs,Instr.fill (λi=>some (i*z,z)) cs0 (parts.map λ(i,x)=>(i,a.eval x)).toList=some cs∧o8 (Rd w g.imm g.μ st.j2) cs (els.flatMap PV.cells):=λcs0 hs=>
  a1T (λi=>some (i*z,z)) ((parts.map λ(i,x)=>(i,a.eval x)).toList) (parts.toList.map λp=>(p.1,(p6 st.env p.2).w1)) cs0 _ _ (by simp) (a5N h parts) (hcells cs0 hs) hf
 have hrun:∃cs,(Instr.buildSlice T els.length (parts.map λ(i,x)=>(i,a.eval x))).run X.P w = .ok (.slice (some ⟨w.heap.size,0,none⟩) els.length els.length) (w.alloc (.cells cs E))∧o8 (Rd w g.imm g.μ st.j2) cs (els.flatMap PV.cells):=by
  have hu:=C0 hE;have hbig':¬els.length*z > 2 ^ 24:=by omega
  by_cases h0:els.length*z=0
  ·obtain⟨cs,h1,h2⟩:=key ((Array.range (els.length*z)).map (λx=>(#[]:Array Value)[x % (#[]:Array Value).size]!)) (by simp);refine⟨cs,?_,h2⟩;simp only[Instr.buildSlice,Sem.run_bind,run_underlying hu,Result.andThen_ok,w4 hz,if_neg hbig',if_pos h0,Sem.run_pure,h1];rfl
  ·obtain⟨cs,h1,h2⟩:=key ((Array.range (els.length*z)).map (λx=>zv.cells[x % zv.cells.size]!)) (by simp);refine⟨cs,?_,h2⟩;simp only[Instr.buildSlice,Sem.run_bind,run_underlying hu,Result.andThen_ok,w4 hz,if_neg hbig',if_neg h0,Sem.run_pure,a1v hzv,h1];rfl
 obtain⟨cs,hr,hc⟩:=hrun;have hfl:=a7i (els:=els) (λx hx=>(hel x hx).2);have h1:=h.a5S (l:=l) (els:=els) (T:=E) (C:=els.length) (z:=z) (opn:=true) (cl:=cl) cs hlm hl (Nat.le_refl _) (by rw[hc.1,hfl]) hel (λi x j y u hx hy hu=>by
  have:=a7j (λx hx=>(hel x hx).2) hc i x j y u hx hy hu;refine⟨this,λq=>this.K1 ?_⟩;have:=List.all_eq_true.1 (hcl q) x (List.mem_of_getElem? hx);exact List.all_eq_true.1 this y (List.mem_of_getElem? hy))
 refine w5 (λc=>by rw[ho];simp) ?_ (hK _ _ _ (h1.put hdst (U8 ⟨_,j4 _ _ _⟩ (j4 _ _ _))));obtain⟨dst,op,ty,pos,after,guard⟩:=o;simp only at ho;subst ho;exact y5 hr
theorem r7.b5r(h:r7 X g st a w)(cs:Array Value)(T:TypeId):r7 X ⟨λb o=>g.imm b o∨b=w.heap.size,g.μ⟩ st a (w.alloc (.cells cs T)):=by
 have h1:=h.alloc (.cells cs T);refine h1.move (imm':=λb o=>g.imm b o∨b=w.heap.size) ⟨λ_ _ q=>.inl q,λ_ _ _=>rfl,λ_ _ _ _ q _=>q⟩ (λl r b o hl ho=>⟨rfl,rfl,?_⟩) (λb o q=>?_) (λb o q=>?_) h1.below (λk x hx _=>hx) (λb o x q hx hm=>q.elim id λq=>by
  subst q;rw[World.alloc_heap_new] at hx;cases hx;cases hm)
 ·rintro (q | q);·exact h.ownimm l r b o hl ho q
  ·have:=(h.O4 hl ho).2;omega
 ·rcases q with q | q
  ·exact h1.immlt b o q
  ·subst q;simp
 ·rcases q with q | q
  ·exact h.immsub b o q
  ·right;have:=h.below.size;omega
theorem b10{o:Oper}{T E:TypeId}{parts:Array (Nat × Operand)}{len z:Nat}{zv:Value}{els:List PV}(h:r7 X g st a w)(ho:o.op = .buildSlice T len parts)(hdst:∀t,o.dst=some t→t<X.N)
  (hE:r5 X.P T=some E)(hz:l5 X.P E=some z)(hzv:r4 X.P E=some zv)(hlen:els.length=len)(hel:∀x∈els,x.el=true∧x.cells.length=z)(hbig:len*z≤2 ^ 24)
  (hf:a2t (λi=>some (i*z,z)) (List.replicate (len*z) .junk) (parts.toList.map λp=>(p.1,(p6 st.env p.2).w1))=some (els.flatMap PV.cells))(hcl:els.all (λx=>x.cells.all PV.K1)=true)
  (hK:∀g' a' w',r7 X g' ⟨F3 st.env o.dst (.lst true els),st.σ⟩ a' w'→K a' w'):o.wpIn (FX ρ) n X.P a w K Q:=by
 subst hlen;have hcells:∀cs0:Array Value,cs0.size=els.length*z→o8 (Rd w g.imm g.μ st.j2) cs0 (List.replicate (els.length*z) .junk):=λcs0 hs=>⟨by simp[hs],λk v p _ hp=>by
  have:=List.mem_of_getElem? hp;rw[List.mem_replicate] at this;rw[this.2];exact .cl (.junk v)⟩
 have key:∀cs0:Array Value,cs0.size=els.length*z→∃cs,Instr.fill (λi=>some (i*z,z)) cs0 (parts.map λ(i,x)=>(i,a.eval x)).toList=some cs∧o8 (Rd w g.imm g.μ st.j2) cs (els.flatMap PV.cells):=λcs0 hs=>
  a1T (λi=>some (i*z,z)) ((parts.map λ(i,x)=>(i,a.eval x)).toList) (parts.toList.map λp=>(p.1,(p6 st.env p.2).w1)) cs0 _ _ (by simp) (a5N h parts) (hcells cs0 hs) hf
 have hrun:∃cs,(Instr.buildSlice T els.length (parts.map λ(i,x)=>(i,a.eval x))).run X.P w = .ok (.slice (some ⟨w.heap.size,0,none⟩) els.length els.length) (w.alloc (.cells cs E))∧o8 (Rd w g.imm g.μ st.j2) cs (els.flatMap PV.cells):=by
  have hu:=C0 hE;have hbig':¬els.length*z > 2 ^ 24:=by omega
  by_cases h0:els.length*z=0
  ·obtain⟨cs,h1,h2⟩:=key ((Array.range (els.length*z)).map (λx=>(#[]:Array Value)[x % (#[]:Array Value).size]!)) (by simp);refine⟨cs,?_,h2⟩;simp only[Instr.buildSlice,Sem.run_bind,run_underlying hu,Result.andThen_ok,w4 hz,if_neg hbig',if_pos h0,Sem.run_pure,h1];rfl
  ·obtain⟨cs,h1,h2⟩:=key ((Array.range (els.length*z)).map (λx=>zv.cells[x % zv.cells.size]!)) (by simp);refine⟨cs,?_,h2⟩;simp only[Instr.buildSlice,Sem.run_bind,run_underlying hu,Result.andThen_ok,w4 hz,if_neg hbig',if_neg h0,Sem.run_pure,a1v hzv,h1];rfl
 obtain⟨cs,hr,hc⟩:=hrun;have hfl:=a7i (els:=els) (λx hx=>(hel x hx).2);have hS:=h.b5r cs E;have hget:∀(i:Nat) x (j:Nat) y,els[i]? = some x→x.cells[j]? = some y→∃u,cs[i*z+j]? = some u∧Rd0 w g.imm u y:=λi x j y hx hy=>by
  have hxm:=List.mem_of_getElem? hx;have hj:=PV.u7 hy;rw[(hel x hxm).2] at hj;have hi:=r6 hx;have hlt:i*z+j<cs.size:=by
   rw[hc.1,hfl];have:(i+1)*z≤els.length*z:=Nat.mul_le_mul_right _ (by omega);rw[Nat.add_mul,Nat.one_mul] at this;omega
  refine⟨_,Array.getElem?_eq_getElem hlt,?_⟩;have:=a7j (λx hx=>(hel x hx).2) hc i x j y _ hx hy (Array.getElem?_eq_getElem hlt);exact this.K1 (List.all_eq_true.1 (List.all_eq_true.1 hcl x hxm) y (List.mem_of_getElem? hy))
 have hX:Ext w g.imm (w.alloc (.cells cs E)) (λb o=>g.imm b o∨b=w.heap.size):=by
  have e1:=Ext.alloc (w:=w) (imm:=g.imm) h.immlt (.cells cs E);exact⟨λb o q=>.inl q,e1.cl,e1.ob⟩
 refine w5 (λc=>by rw[ho];simp) ?_ (hK _ _ _ (hS.put hdst (v:=.slice (some ⟨w.heap.size,0,none⟩) els.length els.length) ?_))
 ·obtain⟨dst,op,ty,pos,after,guard⟩:=o;simp only at ho;subst ho;exact y5 hr
 ·refine .cl (.lst (some ⟨w.heap.size,0,none⟩) els.length z true els (λi j=>(cs[i*z+j]?).getD undef) (Nat.le_refl _) (λ_=>rfl) (λq=>by cases q) hel (λh0=>⟨w.heap.size,0,rfl,λi x j y hx hy=>⟨.inr rfl,?_⟩⟩) (λi x j y hx hy=>?_))
  ·obtain⟨u,k1,_⟩:=hget i x j y hx hy;rw[k1,Nat.zero_add];simp only[Option.getD_some];rw[World.cell?_alloc_new];exact k1
  ·obtain⟨u,k1,k2⟩:=hget i x j y hx hy;rw[k1];exact k2.mono hX
theorem b0V{o:Oper}{T E:TypeId}{x y:Operand}{l z b:Nat}{k k':IntKind}{m:Int}{v:Value}(h:r7 X g st a w)(ho:o.op = .makeSlice T x y)(hdst:∀t,o.dst=some t→t<X.N)(hlm:l<MB)(hl:st.σ l=none)
  (hx:p6 st.env x = .int k m)(hy:p6 st.env y = .int k' m)(h0:0≤m)(hE:r5 X.P T=some E)(hz:l5 X.P E=some z)(hv:r4 X.P E=some v)
  (hel:((PV.ofV v).w1).el=true)(hvz:((PV.ofV v).w1).cells.length=z)(hb:C2 X.P E=some b)(hbm:b*m≤281474976710656)(hm:m≤9223372036854775807)
  (hK:∀g' a' w',r7 X g' ⟨F3 st.env o.dst (.sl l),(G8.new l ⟨List.replicate m.toNat ((PV.ofV v).w1),0,true,z,true⟩).apply st.σ⟩ a' w'→K a' w'):o.wpIn (FX ρ) n X.P a w K Q:=by
 obtain⟨i,hi,rfl,rfl,hiz⟩:=a9j hz hb hv;have hr:=run_make w T E i v (C0 hE) hi hiz k k' m m h0 (Int.le_refl _) hbm hm;have hrd:Rd w g.imm g.μ st.j2 v (PV.ofV v).w1:=.cl (a5Q w g.imm v).w1;obtain⟨hs,hcs⟩:=hrd.cells hel;have hnf:∀f cap,(PV.ofV v).w1 ≠ .fn f cap:=λf cap e=>by
  have:PV.ofV v = .fn f cap:=by cases hd:PV.ofV v <;> rw[hd] at e <;> first | exact e | cases e
  unfold PV.ofV at this;split at this;·split at this <;> cases this
  ·split at this <;> cases this
  ·unfold PV.a9q at this;split at this <;> cases this
 have hq1:((PV.ofV v).w1).Y3=true:=by
  have hq:=b1x v;cases hd:PV.ofV v <;> rw[hd] at hq <;> first | exact hq | skip
  simp only[PV.w1,PV.Y3,List.all_eq_true,List.mem_map] at hq ⊢;rintro y ⟨c,hc,rfl⟩;have:=hq c hc;cases c <;> first | rfl | exact this
 have hclo:∀(j:Nat) u y,v.cells[j]? = some u→((PV.ofV v).w1).cells[j]? = some y→Rd0 w g.imm u y:=λj u y hu hy=>(hcs j u y hu hy).K1 (by
  have hm:=List.mem_of_getElem? hy;revert hnf hq1 hel hm
  generalize (PV.ofV v).w1=d;intro hel hnf hq1 hm;cases d;case agg cs=>exact List.all_eq_true.1 (show cs.all PV.K1=true from hq1) y hm
  case fn f cap=>exact absurd rfl (hnf _ _)
  case tup cs=>cases hel
  case junk=>cases hel
  all_goals first | (obtain rfl:=List.mem_singleton.1 hm;first | exact hq1 | rfl) | exact absurd hm List.not_mem_nil)
 have h1:=h.a5S (l:=l) (els:=List.replicate m.toNat ((PV.ofV v).w1)) (T:=E) (C:=m.toNat) (z:=i.size) (opn:=true) (cl:=true) (madeCells v.cells (m.toNat*i.size)) hlm hl (by simp) (by simp[madeCells])
  (λx hx=>by rw[List.mem_replicate] at hx;rw[hx.2];exact⟨hel,hvz⟩) (λi' x j y u hx hy hu=>by
   have hx':=List.mem_of_getElem? hx;rw[List.mem_replicate] at hx';obtain⟨_,rfl⟩:=hx';have hj:=PV.u7 hy;rw[hvz] at hj;have hlt:i'*i.size+j<m.toNat*i.size:=by
    have:=r6 hx;simp at this;have:(i'+1)*i.size≤m.toNat*i.size:=Nat.mul_le_mul_right _ (by omega);rw[Nat.add_mul,Nat.one_mul] at this;omega
   have hsz:v.cells.size=i.size:=by rw[hs,hvz]
   have hu2:v.cells[j]? = some u:=by
    simp only[madeCells,Array.getElem?_map,Array.getElem?_range,hlt,if_true,Option.map_some,Option.some.injEq,hsz,(b5u (i:=i') hj).2] at hu;rw[←hu,getElem!_pos v.cells j (by omega)];exact Array.getElem?_eq_getElem (by omega)
   exact⟨hcs j u y hu2 hy,λ_=>hclo j u y hu2 hy⟩)
 have e1:a.eval x = .int k m:=by have:=h.eval x;rw[hx] at this;exact this.A9
 have e2:a.eval y = .int k' m:=by have:=h.eval y;rw[hy] at this;exact this.A9
 have hput:=h1.put hdst (v:=.slice (some ⟨w.heap.size,0,none⟩) m.toNat m.toNat) (d:=.sl l) (by
  have:=U8 (w':=w.alloc (.cells (madeCells v.cells (m.toNat*i.size)) E)) (imm:=g.imm) (μ:=o0 g.μ l ⟨some ⟨w.heap.size,0,none⟩,(List.replicate m.toNat ((PV.ofV v).w1)).length,m.toNat,i.size⟩)
   (j2:=St.j2 ⟨st.env,o0 st.σ l (some ⟨List.replicate m.toNat ((PV.ofV v).w1),0,true,i.size,true⟩)⟩) (l:=l) ⟨_,j4 _ _ _⟩ (j4 _ _ _)
  simpa using this)
 refine w5 (λc=>by rw[ho];simp) ?_ (hK _ _ _ hput);obtain⟨dst,op,ty,pos,after,guard⟩:=o;simp only at ho;subst ho;simp only[execOp,e1,e2];exact y5 hr
end
end Go.Pw
namespace Go.Pw
open Go.RowKit
section
variable{X:Ctx}{g:Gh}{st:St}{a:Act}{w:World}{n:Nat}{K:Act→World→Prop}{Q:Exit→Act→World→Prop}{ρ:Option Nat}{P:Program}
theorem Bnd.val(h:r7 X g st a w){x:Option Operand}{d m:Nat}(hb:Bnd (p6 st.env) x d m):(x.map a.eval=none∧m=d)∨∃k,x.map a.eval=some (.int k m):=by
 cases x with
 | none=>exact .inl ⟨rfl,hb⟩
 | some y=>
  obtain⟨k,hk⟩:=hb;have:=h.eval y;rw[hk] at this;exact .inr ⟨k,by simp[this.A9]⟩
theorem run_sliceBound{k:IntKind}{i y:Nat}{code:BoundsCode}(h:i≤y):(Instr.sliceBound (.int k i) y code).run P w = .ok i w:=by
 simp only[Instr.sliceBound,asIntOf,Sem.run_bind,Sem.run_pure,Result.andThen_ok];rw[if_pos ⟨by omega,by omega⟩];rfl
theorem a6A (h : r7 X g st a w) {lo hi mx : Option Operand} {len cap i j k : Nat} (hlo : Bnd (p6 st.env) lo 0 i) (hhi : Bnd (p6 st.env) hi len j) (hmx : Bnd (p6 st.env) mx cap k)
    (hmh : mx.isSome = true → hi.isSome = true) (hij : i ≤ j) (hjk : j ≤ k) (hk : k ≤ cap) :
    (Instr.sliceBounds true len cap (lo.map a.eval) (hi.map a.eval) (mx.map a.eval)).run P w = .ok (i, j, k) w := by
  rcases Bnd.val h hlo with ⟨e1, e1'⟩ | ⟨k1, e1⟩ <;> rcases Bnd.val h hhi with ⟨e2, e2'⟩ | ⟨k2, e2⟩ <;> rcases Bnd.val h hmx with ⟨e3, e3'⟩ | ⟨k3, e3⟩ <;> rw [e1, e2, e3] <;>
    first
      | (exfalso
         have h1 : mx.isSome = true := by cases mx <;> simp_all
         have h2 := hmh h1;cases hi <;> simp_all
         done)
      | (simp only [Instr.sliceBounds, Sem.run_bind, Sem.run_pure, Result.andThen_ok, run_sliceBound, hij, hjk, hk]
         try subst e1'
         try subst e2'
         try subst e3'
         try simp only [run_sliceBound, hij, hjk, Result.andThen_ok]
         try rfl)
theorem a2e(h:r7 X g st a w){T E:TypeId}{z:Nat}{A:Option Addr}{lo hi mx:Option Operand}{len cap i j k:Nat}(hE:r5 P T=some E)(hz:l5 P E=some z)
  (hlo:Bnd (p6 st.env) lo 0 i)(hhi:Bnd (p6 st.env) hi len j)(hmx:Bnd (p6 st.env) mx cap k)
  (hmh:mx.isSome=true→hi.isSome=true)(hij:i≤j)(hjk:j≤k)(hk:k≤cap) :
  (Instr.sliceAt T (.slice A len cap) (lo.map a.eval) (hi.map a.eval) (mx.map a.eval)).run P w = .ok (.slice (if k=i then A else A.map (·.add (i*z))) (j-i) (k-i)) w:=by
 have hu:=C0 hE;have hb:=a6A (P:=P) h hlo hhi hmx hmh hij hjk hk;simp only[Instr.sliceAt,Instr.slice,Sem.run_bind,run_underlying hu,Result.andThen_ok,hb,w4 hz];rfl
theorem a1i{α:Type}{xs:List α}{i j p:Nat}{x:α}(h:((xs.take j).drop i)[p]? = some x):i+p<j∧xs[i+p]? = some x:=by
 rw[List.getElem?_drop] at h;have:=r6 h;simp at this;rw[List.getElem?_take_of_lt (by omega)] at h;exact⟨by omega,h⟩
theorem b12{o:Oper}{T E:TypeId}{z:Nat}{x:Operand}{lo hi mx:Option Operand}{t:Bool}{xs:List PV}{i j k:Nat}(h:r7 X g st a w)(ho:o.op = .slice T x lo hi mx)
  (hx:p6 st.env x = .lst t xs)(hE:r5 X.P T=some E)(hz:l5 X.P E=some z)(hel:∀e∈xs,e.cells.length=z)(hlo:Bnd (p6 st.env) lo 0 i)(hhi:Bnd (p6 st.env) hi xs.length j)
  (hmx:Bnd (p6 st.env) mx xs.length k)(hmh:mx.isSome=true→hi.isSome=true)(hij:i≤j)(hjk:j≤k)(hk:k≤xs.length) :
  ∃u,(execOp a.eval o).run X.P w = .ok (.value u) w∧Rd w g.imm g.μ st.j2 u (.lst (if mx.isSome then decide (j=k) else t&&decide (j=xs.length)) ((xs.take j).drop i)):=by
 have hv:=h.eval x;rw[hx] at hv;obtain⟨A,c,z',u,e,h1,h2,h3,h4,h5,h6⟩:=hv.W8;obtain⟨m,hm,hjm,hmc,hmt⟩:∃m,Bnd (p6 st.env) mx c m∧j≤m∧m≤c∧((if mx.isSome then decide (j=k) else t&&decide (j=xs.length))=true→m=j):=by
  cases mx with
  | none=>
   refine⟨c,rfl,by omega,Nat.le_refl _,λq=>?_⟩;simp at q;have:=h2 q.1;omega
  | some y=>exact⟨k,hmx,hjk,by omega,λq=>by simp at q;omega⟩
 have hr:=a2e (P:=X.P) h (A:=A) hE hz hlo hhi hm hmh hij hjm hmc;have hlen:((xs.take j).drop i).length=j-i:=by simp;omega
 refine⟨.slice (if m=i then A else A.map (·.add (i*z))) (j-i) (m-i),?_,?_⟩
 ·obtain⟨dst,op,ty,pos,after,guard⟩:=o;simp only at ho;subst ho;simp only[execOp,e];exact y5 hr
 ·rw[←hlen];refine .cl (.lst _ _ z _ _ (λp q=>u (i+p) q) (by omega) (λq=>by have:=hmt q;omega) (λq=>?_) (λx' hx'=>?_) (λh0=>?_) (λp x' q y hx' hy=>?_))
  ·have:A=none:=by
    split at q;·exact q
    ·cases A;·rfl
     ·cases q
   have:=h3 this;omega
  ·have:=List.mem_of_mem_take (List.mem_of_mem_drop hx');exact⟨(h4 x' this).1,hel x' this⟩
  ·have hne:¬m=i:=by omega
   obtain⟨b,s,rfl,h7⟩:=h5 (by omega);rw[if_neg hne];refine⟨b,s+i*z,by simp[B0],λp x' q y hx' hy=>?_⟩;obtain⟨_,hg⟩:=a1i hx';have hmem:=List.mem_of_getElem? hg;have:z'=z:=by rw[←(h4 x' hmem).2,hel x' hmem]
   subst this;have:=h7 (i+p) x' q y hg hy;rw[Nat.add_mul,←Nat.add_assoc s] at this;exact this
  ·exact h6 _ _ _ _ (a1i hx').2 hy
theorem b13{o:Oper}{T E:TypeId}{z:Nat}{x:Operand}{lo:Option Operand}{s l i:Nat}{r:Row}(h:r7 X g st a w)(ho:o.op = .slice T x lo none none)(hdst:∀t,o.dst=some t→t<X.N)(hlm:l<MB)(hl:st.σ l=none)
  (hx:p6 st.env x = .sl s)(hs:st.σ s=some r)(hop:r.opn=true)(hE:r5 X.P T=some E)(hz:l5 X.P E=some z)(hrz:r.z=z)(hlo:Bnd (p6 st.env) lo 0 i)(hi:i≤r.els.length)
  (hK:∀g' a' w',r7 X g' ⟨F3 st.env o.dst (.sl l),(G8.app s l ⟨r.els.drop i,r.els.length-i,true,z,r.cl⟩).apply st.σ⟩ a' w'→K a' w'):o.wpIn (FX ρ) n X.P a w K Q:=by
 have hsl:s≠l:=λq=>by rw[q,hl] at hs;cases hs
 simp only[G8.apply,hs] at hK;have hv:=h.eval x;rw[hx] at hv;obtain⟨hp,e⟩:=hv.O6;have hR:=h.rows s r hs;have hn:=hR.n;have hC:=hR.C;have hmz:(g.μ s).z=z:=by rw[hR.z,hrz]
 have hr:=a2e (P:=X.P) (mx:=none) (hi:=none) h (A:=(g.μ s).A) (len:=(g.μ s).n) (cap:=(g.μ s).C) (j:=(g.μ s).n) (k:=(g.μ s).C) hE hz hlo rfl rfl (λq=>by cases q) (by omega) hC (Nat.le_refl _);have hF:=h.frz hs r.els.length (by have:=hR.lo;omega) (Nat.le_refl _) false (λq=>by cases q);have hFl:o0 st.σ s (some { r with lo:=r.els.length,opn:=false }) l=none:=by rw[e6 _ _ (Ne.symm hsl)];exact hl
 have hRF:=hF.rows s { r with lo:=r.els.length,opn:=false } (j4 _ _ _);generalize hA':(if (g.μ s).C=i then (g.μ s).A else (g.μ s).A.map (·.add (i*z)))=A' at hr;have hAt:∀b s',A'=some ⟨b,s',none⟩→i<(g.μ s).C→∃s0,(g.μ s).A=some ⟨b,s0,none⟩∧s'=s0+i*z:=by
  intro b s' q hlt;obtain⟨b0,s0,hA⟩:=hR.spot (by omega);rw[←hA',if_neg (by omega),hA] at q;simp only[Option.map_some,Option.some.injEq,B0,Addr.mk.injEq] at q;exact⟨s0,by rw[hA,q.1],q.2.1.symm⟩
 have hown:∀b o',A2 ⟨A',(g.μ s).n-i,(g.μ s).C-i,z⟩ ⟨r.els.drop i,r.els.length-i,true,z,r.cl⟩ b o'→A2 (g.μ s) r b o'∧∃s0,(g.μ s).A=some ⟨b,s0,none⟩∧s0+r.els.length*z≤o':=by
  rintro b o' ⟨s',hA,q1,q2⟩;simp only[if_true] at q1 q2;have hlt:i<(g.μ s).C:=by
   rcases Nat.lt_or_ge i (g.μ s).C with q | q
   ·exact q
   ·have:(g.μ s).C-i=0:=by omega
    rw[this] at q2;omega
  obtain⟨s0,h0,rfl⟩:=hAt b s' hA hlt;have e1:(r.els.length-i)*z=r.els.length*z-i*z:=Nat.sub_mul _ _ _;have e2:i*z≤r.els.length*z:=Nat.mul_le_mul_right _ hi;have e3:((g.μ s).C-i)*z=(g.μ s).C*z-i*z:=Nat.sub_mul _ _ _;have e4:i*z≤(g.μ s).C*z:=Nat.mul_le_mul_right _ (by omega);have e5:r.lo*z≤r.els.length*z:=Nat.mul_le_mul_right _ (by have:=hR.lo;omega);refine⟨⟨s0,h0,?_,?_⟩,s0,h0,by omega⟩;·rw[hmz];omega
  ·rw[hop,if_pos rfl,hmz];omega
 have hN:=hF.row (l:=l) (m:=⟨A',(g.μ s).n-i,(g.μ s).C-i,z⟩) (r:=⟨r.els.drop i,r.els.length-i,true,z,r.cl⟩) hlm hFl
  ⟨by simp[hn],rfl,by simp only;omega,by simp only;omega,λe he=>by rw[←hrz];exact hR.el e (List.mem_of_mem_drop he),λq=>?_,λq=>?_,λp x' q y hx' hy=>?_,λb o' q=>hR.own b o' (hown b o' q).1⟩
  (λl' r' b o' q ho' k=>?_) (λb o' q k=>?_)
 ·refine w5 (λc=>by rw[ho];simp) ?_ (hK _ _ _ (hN.put hdst (U8 (l:=l) (m:=⟨A',(g.μ s).n-i,(g.μ s).C-i,z⟩) ⟨_,j4 _ _ _⟩ (j4 _ _ _))));obtain⟨dst,op,ty,pos,after,guard⟩:=o;simp only at ho;subst ho;simp only[execOp,e];exact y5 hr
 ·simp only at q ⊢;have hAn:(g.μ s).A=none:=by
   rw[←hA'] at q;split at q;·exact q
   ·cases hA:(g.μ s).A;·rfl
    ·rw[hA] at q;cases q
  have:=hR.nil hAn;omega
 ·simp only at q ⊢;obtain⟨b0,s0,hA⟩:=hR.spot (by omega);rw[←hA',if_neg (by omega),hA];exact⟨b0,s0+i*z,by simp[B0]⟩
 ·simp only at hx' ⊢;rw[List.getElem?_drop] at hx';have hlt:=r6 hx';obtain⟨b,s0,u,k1,k2,k3,k4,k5⟩:=hRF.cell (i+p) x' q y hx' hy;simp only at k1 k2 k4 k5;rw[hmz,Nat.add_mul,←Nat.add_assoc s0] at k2 k4;refine⟨b,s0+i*z,u,?_,k2,k3,λ_=>k4 hlt,k5⟩;rw[←hA',if_neg (by omega),k1];simp[B0]
 ·obtain⟨k1,s0,h0,k2⟩:=hown b o' k;by_cases el:l'=s
  ·subst el;simp only[j4] at q;cases q;obtain⟨s2,hA2,m1,m2⟩:=ho';simp only[Bool.false_eq_true,if_false] at m1 m2;rw[hn] at m2;omega
  ·simp only[e6 _ _ el] at q;exact h.disj l' s r' r el q hs b o' ho' k1
 ·obtain⟨k1,s0,h0,k2⟩:=hown b o' q;rcases k with k | ⟨r2,s2,hr2,_,hA2,k3⟩
  ·exact h.ownimm s r b o' hs k1 k
  ·rw[h0] at hA2;cases hA2;rw[hmz] at k3;omega
theorem b11{o:Oper}{T E:TypeId}{z:Nat}{x:Operand}{lo hi:Option Operand}{s i j:Nat}{r:Row}(h:r7 X g st a w)(ho:o.op = .slice T x lo hi none)(hdst:∀t,o.dst=some t→t<X.N)
  (hx:p6 st.env x = .sl s)(hs:st.σ s=some r)(hcl:r.cl=true)(hE:r5 X.P T=some E)(hz:l5 X.P E=some z)(hrz:r.z=z)(hlo:Bnd (p6 st.env) lo 0 i)(hhi:Bnd (p6 st.env) hi r.els.length j)(hij:i≤j)(hj:j≤r.els.length)
  (hK:∀g' a' w',r7 X g' ⟨F3 st.env o.dst (.lst false ((r.els.take j).drop i)),(G8.frz [s]).apply st.σ⟩ a' w'→K a' w'):o.wpIn (FX ρ) n X.P a w K Q:=by
 have hv:=h.eval x;rw[hx] at hv;obtain⟨hp,e⟩:=hv.O6;have hR:=h.rows s r hs;have hn:=hR.n;have hC:=hR.C;have hmz:(g.μ s).z=z:=by rw[hR.z,hrz]
 have hr:=a2e (P:=X.P) (mx:=none) h (A:=(g.μ s).A) (len:=(g.μ s).n) (cap:=(g.μ s).C) (k:=(g.μ s).C) hE hz hlo (by rw[hn];exact hhi) rfl (λq=>by cases q) hij (by omega) (Nat.le_refl _);obtain⟨imm',hF,hX,hSh⟩:=h.F6 [s];have hsh:=hSh s (by simp) r hs;have hlen:((r.els.take j).drop i).length=j-i:=by simp;omega
 refine w5 (λc=>by rw[ho];simp) (v:=.slice (if (g.μ s).C=i then (g.μ s).A else (g.μ s).A.map (·.add (i*z))) (j-i) ((g.μ s).C-i)) (w':=w) ?_ (hK _ _ _ (hF.put hdst ?_))
 ·obtain⟨dst,op,ty,pos,after,guard⟩:=o;simp only at ho;subst ho;simp only[execOp,e];exact y5 hr
 ·rw[←hlen];have hcell:∀(p:Nat) x' (q:Nat) y b s0,((r.els.take j).drop i)[p]? = some x'→x'.cells[q]? = some y→(g.μ s).A=some ⟨b,s0,none⟩ →
    imm' b (s0+i*z+p*z+q)∧∃u,w.cell? ⟨b,s0+i*z+p*z+q,none⟩=some u∧Rd0 w imm' u y:=by
   intro p x' q y b s0 hx' hy hA;obtain⟨_,hg⟩:=a1i hx';obtain⟨u,k1,_,k3⟩:=h.cell_of hs hg hy hA;have k4:=hsh (i+p) x' q y b s0 hg hy hA;rw[hmz,Nat.add_mul,←Nat.add_assoc s0] at k1 k4;exact⟨k4,u,k1,(k3 hcl).mono hX⟩
  refine .cl (.lst _ _ z _ _ (λp q=>match (g.μ s).A with | some ⟨b,s0,_⟩=>(w.cell? ⟨b,s0+i*z+p*z+q,none⟩).getD undef | none=>undef) (by omega) (λq=>by cases q) (λq=>?_) (λx' hx'=>?_) (λh0=>?_) (λp x' q y hx' hy=>?_))
  ·have hAn:(g.μ s).A=none:=by
    split at q;·exact q
    ·cases hA:(g.μ s).A;·rfl
     ·rw[hA] at q;cases q
   have:=hR.nil hAn;omega
  ·rw[←hrz];exact hR.el x' (List.mem_of_mem_take (List.mem_of_mem_drop hx'))
  ·obtain⟨b,s0,hA⟩:=hR.spot (by omega);refine⟨b,s0+i*z,by rw[if_neg (by omega),hA];simp[B0],λp x' q y hx' hy=>?_⟩;obtain⟨k1,u,k2,_⟩:=hcell p x' q y b s0 hx' hy hA;refine⟨k1,?_⟩;rw[hA];simp only[k2,Option.getD_some]
  ·have h0:=r6 hx';obtain⟨b,s0,hA⟩:=hR.spot (by omega);obtain⟨k1,u,k2,k3⟩:=hcell p x' q y b s0 hx' hy hA;rw[hA];simp only[k2,Option.getD_some];exact k3
end
end Go.Pw
