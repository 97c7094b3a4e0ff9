/-
 Several texts of one kind, one behind the other.
-/
import Derived.Test.YtppgkaeodaaidaaGreatDoorU3tPwC
import GoSem.Core.Utf8
import Derived.Test.YtppgkaeodaaidaaGreatDoorU3tPwD
import Derived.Lib.Split
import Derived.Lib.ItoaNum
import Derived.Shelf.Strings.Split
import Derived.Shelf.Strconv.Itoa3
import Derived.Laws.BytesArg
set_option linter.unusedVariables false
set_option linter.unusedSimpArgs false
set_option linter.unusedSectionVars false
namespace Go.Sh
abbrev p5(l:List UInt8):ByteArray:=⟨l.toArray⟩
abbrev bts(s:ByteArray):List UInt8:=s.data.toList
def b2A{α:Type}(xs:List α)(n:Int)(ys:List α):Option (List α):=if 0≤n∧n.toNat+ys.length≤xs.length then some (xs.take n.toNat++(ys++xs.drop (n.toNat+ys.length))) else none
def b50(s:ByteArray)(i j:Int):Option ByteArray:=if 0≤i∧i≤j∧j≤s.size then some (p5 (((bts s).take j.toNat).drop i.toNat)) else none
def a2f(a b:ByteArray):Option ByteArray:=if a.size+b.size≤9223372036854775807 then some (p5 (bts a++bts b)) else none
def b0I(k:IntKind)(n:Int):Int:=k.wrap ((BitVec.ofInt k.bits (-1) ^^^ BitVec.ofInt k.bits n).toNat:Int)
abbrev Fw:=Option (Nat × Option Int)
abbrev dec(s:ByteArray)(p:Nat):Nat × Nat:=Go.Utf8.decode s p
end Go.Sh
namespace Go.Pw
open Go.RowKit Go.Sh
theorem b2w{a b:ByteArray}(h:a.data.toList=b.data.toList):a=b:=by
 cases a;cases b;simp only[ByteArray.mk.injEq];exact Array.toList_inj.1 h
section
variable{P:Program}{σ:Nat→Option Row}{ρ:Operand→PV}{dst:Option Tmp}
theorem a4G{w:World}{k:IntKind}{i:Int}{y:Nat}{c:BoundsCode}(h0:0≤i)(h:i≤y):(Instr.sliceBound (.int k i) y c).run P w = .ok i.toNat w:=by
 simp only[Instr.sliceBound,asIntOf,Sem.run_bind,Sem.run_pure,Result.andThen_ok,if_pos (And.intro h0 h)]
theorem b0H(s:ByteArray)(i j:Nat):s.extract i j=p5 (((bts s).take j).drop i):=by
 apply b2w;simp[ByteArray.data_extract,List.extract_eq_take_drop,List.drop_take]
theorem a6m{w:World}{n:Nat}{l u:Option Value}{i j:Int}(h0:0≤i)(h1:i≤j)(h2:j≤n)(hl:(l=none∧i=0)∨∃k,l=some (.int k i))(hu:(u=none∧j=n)∨∃k,u=some (.int k j)) :
  (Instr.sliceBounds false n n l u none).run P w = .ok (i.toNat,j.toNat,n) w:=by
 have h3:i≤(j.toNat:Int):=by omega
 rcases hl with ⟨rfl,rfl⟩ | ⟨k,rfl⟩ <;> rcases hu with ⟨rfl,rfl⟩ | ⟨k',rfl⟩<;>
  (first | simp[Instr.sliceBounds,Sem.run_bind,Sem.run_pure,Result.andThen_ok,a4G,h0,h1,h2,h3,Int.le_trans h0 h1,a4G (y:=j.toNat) h0 h3] | simp[Instr.sliceBounds,Sem.run_bind,Sem.run_pure,Result.andThen_ok,a4G,h0,h1,h2,h3,Int.le_trans h0 h1])
theorem a9N{ev:Operand→Value}{x:Option Operand}{d n:Int}(h:a7V ρ x d n)(hr:∀y,x=some y→∀k n,ρ y = .int k n→ev y = .int k n):(x.map ev=none∧n=d)∨∃k,x.map ev=some (.int k n):=by
 cases x with
 | none=>exact .inl ⟨rfl,h⟩
 | some y=>obtain⟨k,hk⟩:=h;exact .inr ⟨k,congrArg some (hr y rfl k n hk)⟩
theorem b5G{T:TypeId}{x:Operand}{lo hi:Option Operand}{s r:ByteArray}{i j:Int}(hv:b50 s i j=some r)(hx:ρ x = .str s)(hlo:a7V ρ lo 0 i)(hhi:a7V ρ hi s.size j)(hT:P.underlying T=some .string) :
  u6 P σ ρ dst (.slice T x lo hi none) (.str r) .none:=by
 unfold b50 at hv;split at hv;case isFalse=>cases hv
 rename_i hb;obtain⟨h0,h1,h2⟩:=hb;have hv:=Option.some.inj hv;refine .pureV _ _ (λ_=>nofun) (λ_ _=>nofun) λo w imm μ j2 ev ho hr=>?_;have e1:=hr x (by simp[Op.operands]);rw[hx] at e1;have e1:=e1.V1;have key:=a6m (P:=P) (w:=w) h0 h1 h2 (a9N hlo λy hy k n hk=>by
  have:=hr y (by simp[Op.operands,hy]);rw[hk] at this;exact this.A9) (a9N hhi λy hy k n hk=>by
  have:=hr y (by simp[Op.operands,hy]);rw[hk] at this;exact this.A9)
 refine⟨.string (s.extract i.toNat j.toNat),?_,?_⟩
 ·simp only[execOp,ho,Option.map_none];refine y5 ?_;simp only[Instr.sliceAt,Instr.slice,e1,Sem.run_bind,run_underlying hT,Result.andThen_ok,Option.isSome_none,Bool.false_eq_true,if_false,key,Sem.run_pure]
 ·rw[b0H,←hv];exact .cl (.str _)
theorem M0{t u:TypeId}{x y:Operand}{a b r:ByteArray}(hv:a2f a b=some r)(hx:ρ x = .str a)(hy:ρ y = .str b)(hT:P.underlying t=some .string):u6 P σ ρ dst (.binOp .add t x y u) (.str r) .none:=by
 unfold a2f at hv;split at hv;case isFalse=>cases hv
 rename_i hb;have hv:=Option.some.inj hv;refine .pureV _ _ (λ_=>nofun) (λ_ _=>nofun) λo w imm μ j2 ev ho hr=>?_;have e1:=hr x (by simp[Op.operands]);have e2:=hr y (by simp[Op.operands]);rw[hx] at e1;rw[hy] at e2;have e1:=e1.V1;have e2:=e2.V1;have hc:¬((a.size+b.size:Nat):Int) > IntKind.i64.max:=by
  have:IntKind.i64.max=9223372036854775807:=rfl;rw[this];omega
 refine⟨.string (a++b),?_,?_⟩
 ·simp only[execOp,ho,e1,e2];refine y5 ?_;simp only[binOp,eqGuard,Op.stringOp,Sem.run_bind,run_underlying hT,Result.andThen_ok,Sem.run_pure,if_neg hc];rfl
 ·have:a++b=r:=by
   rw[←hv];apply b2w;simp[ByteArray.data_append]
  rw[this];exact .cl (.str _)
end
abbrev itR(s:ByteArray)(p:Nat):Row:=⟨[.mapc [.str s,.int .i64 (p:Nat)]],0,false,0,false⟩
section
variable{X:Ctx}{ops:Array Oper}{i:Nat}{os:List Oper}{K:Ctx→St→Prop}{env:Nat→PV}{σ:Nat→Option Row}{ty:TypeId}{pos:String}{after:Array Edge}{gd:Option (Nat × Bool)}{t:Tmp}
theorem b3j{T:TypeId}{x:Operand}{s:ByteArray}(l:Nat)(hw:s9 ops env ⟨some t,.range T x,ty,pos,after,gd⟩=some true)(hx:p6 env x = .str s)(hT:X.P.underlying T=some .string)(hn:σ l=none)
  (k:Sq X ops (i+1) os K ⟨o0 env t (.ptr l 0 0),o0 σ l (some (itR s 0))⟩)(hl:MB≤l:=by exact Nat.le_of_ble_eq_true rfl):Sq X ops i (⟨some t,.range T x,ty,pos,after,gd⟩::os) K ⟨env,σ⟩:=B7 λho=>a0i ho hw (λc q=>by cases q) λg a w hs=>by
 have hxv:=hs.eval x;rw[show p6 (St.env ⟨env,σ⟩) x=_ from hx] at hxv;have e1:=hxv.V1;have hS:=hs.b4T (l:=l) (o:=.stringIter s 0) (es:=[.str s,.int .i64 (0:Nat)]) rfl (λhp=>.inr ⟨s,0,hp,rfl⟩) hl hn;refine⟨.pointer (some ⟨w.heap.size,0,none⟩),w.alloc (.stringIter s 0),_,_,.ptr l 0 0,?_,hS,?_,k⟩
 ·refine y5 ?_;simp only[Instr.range,e1,Sem.run_bind,run_underlying hT,Result.andThen_ok,Sem.run_pure];rfl
 ·have:=Rd.ptr (w:=w.alloc (.stringIter s 0)) (imm:=g.imm) (μ:=o0 g.μ l ⟨some ⟨w.heap.size,0,none⟩,1,1,0⟩) (j2:=St.j2 ⟨env,o0 σ l (some (itR s 0))⟩) l 0 0 w.heap.size 0 ⟨_,j4 _ _ _⟩ (congrArg A6.A (j4 _ _ _));simp only[Nat.zero_mul,Nat.add_zero] at this;exact this
theorem b0f{P:Program}{w:World}{b:Nat}{s:ByteArray}{p:Nat}{ty:TypeId}(h:w.heap[b]? = some (.stringIter s p)) :
  (Instr.next (.pointer (some ⟨b,0,none⟩)) true ty).run P w=if p<s.size then .ok (.tuple #[.bool true,.int .i64 p,.int .i32 ((dec s p).1:Nat)]) (w.putObj b (.stringIter s (p+(dec s p).2))) else .ok (.tuple #[.bool false]) w:=by
 have hg:(getObj b).run P w = .ok (.stringIter s p) w:=by
  simp only[getObj,Sem.run,h]
 unfold Instr.next;simp only[Sem.run_bind,hg,Result.andThen_ok];split
 ·rename_i q;have hs:∀o,(setObj b o).run P w = .ok () (w.putObj b o):=λo=>by
   simp only[setObj,Sem.run,h];rfl
  simp only[Sem.run_bind,hs,Result.andThen_ok,Sem.run_pure];rfl
 ·rfl
theorem b46{x:Operand}{l:Nat}{s:ByteArray}{p:Nat}(hw:s9 ops env ⟨some t,.next x true,ty,pos,after,gd⟩=some true)(hx:p6 env x = .ptr l 0 0)(hl:σ l=some (itR s p))
  (kT:p<s.size→Sq X ops (i+1) os K ⟨o0 env t (.tup [.bool true,.int .i64 (p:Nat),.int .i32 ((dec s p).1:Nat)]),o0 σ l (some (itR s (p+(dec s p).2)))⟩)
  (kF:¬p<s.size→Sq X ops (i+1) os K ⟨o0 env t (.tup [.bool false]),σ⟩)(hlm:MB≤l:=by exact Nat.le_of_ble_eq_true rfl):Sq X ops i (⟨some t,.next x true,ty,pos,after,gd⟩::os) K ⟨env,σ⟩:=by
 have key:∀(g:Gh) (a:Act) (w:World),r7 X g ⟨env,σ⟩ a w→∃b,a.eval x = .pointer (some ⟨b,0,none⟩)∧(g.μ l).A=some ⟨b,0,none⟩∧w.heap[b]? = some (.stringIter s p):=λg a w hs=>by
  have hxv:=hs.eval x;rw[show p6 (St.env ⟨env,σ⟩) x=_ from hx] at hxv;obtain⟨_,b0,s0,hA,e⟩:=hxv.J9;obtain⟨b,es,m1,m2,m3,m4,_⟩:=hs.maps.at_ l _ hlm hl;rw[hA] at m2;cases m2;cases m1;have hz:(g.μ l).z=0:=(hs.rows l _ hl).z;refine⟨b0,by rw[e,hz],hA,?_⟩;rcases m4 with ⟨ents,clock,q1,q2,q3⟩ | ⟨s',p',q1,q2⟩
  ·have:0<ents.size:=by rw[q2];exact Nat.zero_lt_succ _
   obtain⟨k,v,k1,_⟩:=q3 0 ents[0] (Array.getElem?_eq_getElem this);cases k1
  ·simp only[List.cons.injEq,PV.str.injEq,PV.int.injEq,true_and,and_true,Int.natCast_inj] at q2;obtain⟨rfl,rfl⟩:=q2;exact q1
 by_cases hp:p<s.size
 ·refine B7 (λho=>a0i ho hw (λc q=>by cases q) λg a w hs=>?_);obtain⟨b,e,hA,hb⟩:=key g a w hs;refine⟨_,_,_,_,_,y5 (by rw[e,b0f hb,if_pos hp]),hs.h9 hlm hl rfl hA (o':=.stringIter s (p+(dec s p).2)) (es':=[.str s,.int .i64 ((p+(dec s p).2:Nat):Int)]) rfl (λ_ hq=>.inr ⟨s,_,hq,rfl⟩),?_,kT hp⟩;refine .cl (.tup _ _ rfl λi v c hv hc=>?_);match i with
  | 0=>simp at hv hc;subst hv;subst hc;exact .bool _
  | 1=>simp at hv hc;subst hv;subst hc;exact .int _ _
  | 2=>simp at hv hc;subst hv;subst hc;exact .int _ _
  | _+3=>simp at hv
 ·refine B7 (λho=>a0i ho hw (λc q=>by cases q) λg a w hs=>?_);obtain⟨b,e,hA,hb⟩:=key g a w hs;refine⟨_,w,g,⟨env,σ⟩,_,y5 (by rw[e,b0f hb,if_neg hp]),hs,?_,kF hp⟩;refine .cl (.tup _ _ rfl λi v c hv hc=>?_);match i with
  | 0=>simp at hv hc;subst hv;subst hc;exact .bool _
  | _+1=>simp at hv
end
theorem b5K{P:Program}{σ:Nat→Option Row}{ρ:Operand→PV}{dst:Option Tmp}{t:TypeId}{x:Operand}{k:IntKind}{n r:Int}(hx:ρ x = .int k n)(hk:k.signed=true)(hr:b0I k n=r):u6 P σ ρ dst (.unOp .xor t x) (.int k r) .none:=by
 subst hr;refine .pureV _ _ (λ_=>nofun) (λ_ _=>nofun) λo w imm μ j2 ev ho hr=>?_;have e1:=hr x (by simp[Op.operands]);rw[hx] at e1;have e1:=e1.A9;refine⟨.int k (b0I k n),?_,.cl (.int _ _)⟩;simp only[execOp,ho,e1];refine y5 ?_;simp only[Op.unary,hk,if_true,Op.intBits];rfl
def fwP(e:Fw):PV:=match e with
 | none=>.nilfn
 | some (f,none)=>.fn (.func f) []
 | some (f,some n)=>.fn (.func f) [.rptr [.int .i64 n]]
def FwR(e:Fw):World→(Nat→Nat→Prop)→Value→Prop:=λw imm v=>Rd0 w imm v (fwP e)
abbrev fwE(e:Fw):PV:=.abs (FwR e)
def PV.fw0:PV→PV
 | .fn (.func f) []=>fwE (some (f,none))
 | .fn (.func f) [.rptr [.int .i64 n]]=>fwE (some (f,some n))
 | .nilfn=>fwE none
 | d=>d
def PV.fw1:PV→PV
 | .agg cs=>.agg (cs.map PV.fw0)
 | d=>d.fw0
theorem b26{w:World}{imm:Nat→Nat→Prop}{v:Value}{e:Fw}(h:Rd0 w imm v (fwP e)):Rd0 w imm v (fwE e):=
 .abs _ _ (by cases e with
  | none=>exact h.one rfl
  | some p=>obtain⟨f,n⟩:=p;cases n <;> exact h.one rfl) λw' imm' he=>h.mono he
theorem PV.b2I{d:PV}(h:d.sc=true):d.fw0.sc=true:=by
 unfold PV.fw0;split <;> first | rfl | exact h
theorem Rd0.fw0{w:World}{imm:Nat→Nat→Prop}{v:Value}{d:PV}(h:Rd0 w imm v d):Rd0 w imm v d.fw0:=by
 unfold PV.fw0;split <;> first | exact b26 (e:=some (_,none)) h | exact b26 (e:=some (_,some _)) h | exact b26 (e:=none) h | exact h
theorem Rd.fw0{w:World}{imm:Nat→Nat→Prop}{μ:Nat→A6}{j2:Nat→Prop}{v:Value}{d:PV}(h:Rd w imm μ j2 v d)(hc:d.Y3=true):Rd w imm μ j2 v d.fw0:=.cl (h.Y3 hc).fw0
def PV.b6n:PV→Bool
 | .agg cs=>cs.all PV.Y3
 | d=>d.Y3
theorem Rd.fw1{w:World}{imm:Nat→Nat→Prop}{μ:Nat→A6}{j2:Nat→Prop}{v:Value}{d:PV}(h:Rd w imm μ j2 v d)(hc:d.b6n=true):Rd w imm μ j2 v d.fw1:=by
 by_cases e:∃cs,d = .agg cs
 ·obtain⟨cs,rfl⟩:=e;obtain⟨vs,rfl,hn,hk⟩:=h.T4;have hsc:=h.a83;refine .agg vs _ (List.all_eq_true.2 λc hc=>?_) (by simpa using hn) λi v c hv hc'=>?_
  ·obtain⟨c0,h0,rfl⟩:=List.mem_map.1 hc;exact PV.b2I (List.all_eq_true.1 hsc c0 h0)
  ·obtain⟨c0,k1,rfl⟩:=U3 hc';exact (hk i v c0 hv k1).fw0 (List.all_eq_true.1 hc c0 (List.mem_of_getElem? k1))
 ·have:d.fw1=d.fw0:=by cases d <;> first | rfl | exact absurd ⟨_,rfl⟩ e
  rw[this];exact h.fw0 (by cases d <;> first | exact hc | exact absurd ⟨_,rfl⟩ e)
theorem Rd0.fw1{w:World}{imm:Nat→Nat→Prop}{v:Value}{d:PV}(h:Rd0 w imm v d):Rd0 w imm v d.fw1:=by
 by_cases e:∃cs,d = .agg cs
 ·obtain⟨cs,rfl⟩:=e;cases h with
  | agg vs cs hsc hn hc=>
   refine .agg vs _ (List.all_eq_true.2 λc hc'=>?_) (by simpa using hn) λi v c hv hc'=>?_
   ·obtain⟨c0,h0,rfl⟩:=List.mem_map.1 hc';exact PV.b2I (List.all_eq_true.1 hsc c0 h0)
   ·obtain⟨c0,k1,rfl⟩:=U3 hc';exact (hc i v c0 hv k1).fw0
 ·have:d.fw1=d.fw0:=by cases d <;> first | rfl | exact absurd ⟨_,rfl⟩ e
  rw[this];exact h.fw0
theorem b6y{P:Program}{σ:Nat→Option Row}{ρ:Operand→PV}{dst:Option Tmp}{KT VT:Type}[BEq KT]{EK:KT→PV}{E:VT→PV}{T kt et:TypeId}{x y:Operand}{ok:Bool}{es:List (KT × VT)}{k:KT}{zv:Value}{d z0:PV}(hx:ρ x = .abs (I0 (es.map (ent EK E))))(hy:ρ y=EK k)(hT:a3O P T=some (kt,et))(hK:a6s P kt EK)(hz:r4 P et=some zv)
  (hz0:(PV.ofV zv).w1.fw1=z0)(hd:(lkV E (Go.Sh.F7 es k) z0 ok)=d):u6 P σ ρ dst (.lookup T x y ok) d .none:=b2Q (W:=λd=>d.w1.fw1) (λq=>q.w1.fw1) hx hy hT hK hz hz0 hd
theorem a8P{s:St}(t:Nat){d':PV}(h:(s.env t).fw1=d')(hc:(s.env t).b6n=true):Wk s ⟨o0 s.env t d',s.σ⟩:=by
 subst h;exact a9E t rfl λ_ _ _ _ _ q=>q.fw1 hc
theorem b3f{s:St}(t:Nat){e:Fw}{d:PV}(ht:s.env t=fwE e)(he:fwP e=d):Wk s ⟨o0 s.env t d,s.σ⟩:=by
 subst he;refine a9E t ht λw imm μ j2 v q=>?_;exact .cl (show Rd0 w imm v (fwP e) from q.a6H)
section
variable{X:Ctx}{ops:Array Oper}{i:Nat}{os:List Oper}{K:Ctx→St→Prop}{env:Nat→PV}{σ:Nat→Option Row}{ty:TypeId}{pos:String}{after:Array Edge}{gd:Option (Nat × Bool)}{t:Tmp}
theorem b6J{T E:TypeId}{x y:Operand}{z b:Nat}{k k':IntKind}{m:Nat}{v:Value}(hw:s9 ops env ⟨some t,.makeSlice T x y,ty,pos,after,gd⟩=some true)(hl:σ t=none)(hlm:t<MB)
  (hx:p6 env x = .int k 0)(hy:p6 env y = .int k' (m:Int))(hE:r5 X.P T=some E)(hz:l5 X.P E=some z)(hv:r4 X.P E=some v)(hb:C2 X.P E=some b)(hbm:b*m≤281474976710656)(hm:m≤9223372036854775807)
  (kk:Sq X ops (i+1) os K ⟨o0 env t (.sl t),o0 σ t (some ⟨[],0,true,z,true⟩)⟩):Sq X ops i (⟨some t,.makeSlice T x y,ty,pos,after,gd⟩::os) K ⟨env,σ⟩:=B7 λho=>a0i ho hw (λc q=>by cases q) λg a w hs=>by
 have e1:=hs.eval x;rw[show p6 (St.env ⟨env,σ⟩) x=_ from hx] at e1;have e2:=hs.eval y;rw[show p6 (St.env ⟨env,σ⟩) y=_ from hy] at e2;obtain⟨i,hi,rfl,rfl,hiz⟩:=a9j hz hb hv;have hr:=run_make (P:=X.P) w T E i v (C0 hE) hi hiz k k' 0 m (Int.le_refl _) (by omega) (by rw[←Int.natCast_mul];omega) (by omega);have h1:=hs.a5S (l:=t) (els:=[]) (T:=E) (C:=m) (z:=i.size) (opn:=true) (cl:=true) (madeCells v.cells (m*i.size)) hlm hl (Nat.zero_le _) (by simp[madeCells]) (λx hx=>by cases hx) (λi' x j y u hx=>by simp at hx);refine⟨.slice (some ⟨w.heap.size,0,none⟩) 0 m,_,_,_,.sl t,?_,h1,?_,kk⟩
 ·simp only[execOp,e1.A9,e2.A9];refine y5 ?_;simpa using hr
 ·exact U8 (l:=t) (m:=⟨some ⟨w.heap.size,0,none⟩,0,m,i.size⟩) ⟨_,j4 _ _ _⟩ (j4 _ _ _)
end
section
variable{X:Ctx}{ops:Array Oper}{i:Nat}{os:List Oper}{K:Ctx→St→Prop}{env:Nat→PV}{σ:Nat→Option Row}
theorem a5h{n:Nat}{P:Program}{ρ:Option Nat}{Qo:Exit→Act→World→Prop}{o:Oper}{is:List Nat}{a:Act}{w w':World}{v:Value}(ho:ops[i]? = some o)(hg:o.guard=none)(hnd:∀c,o.op ≠ .defer c)(hr:(execOp a.eval o).run P w = .ok (.value v) w')
  (k:wpOpsIn (FX ρ) n P ops Qo is (a.put o.dst v) w'):wpOpsIn (FX ρ) n P ops Qo (i::is) a w:=by
 rw[wpOpsIn_cons];unfold wpOpIn;rw[ho];simp only;rw[if_pos (by unfold Region.wanted;rw[hg])];exact w5 hnd hr k
theorem b59{α:Type}{f:α→PV}{T T1 T2 E:TypeId}{x lo y:Operand}{t1 t2 t3:Tmp}{l z:Nat}{xs ys zs:List α}{k:IntKind}{m:Int}{opn tt:Bool}{ty1 ty2 ty3:TypeId}{p1 p2 p3:String}{aft1 aft2 aft3:Array Edge}
  (hv:b2A xs m ys=some zs)(hx:p6 env x = .sl l)(hl:σ l=some ⟨xs.map f,0,opn,z,true⟩)(hlo:p6 env lo = .int k m)(hy:p6 (o0 env t1 .junk) y = .lst tt (ys.map f))(h12:t1≠t2)
  (hE:r5 X.P T=some E)(hE1:r5 X.P T1=some E)(hz:l5 X.P E=some z)(hzz:∀e,(f e).cells.length=z)(hzp:0<z)
  (kk:Sq X ops (i+3) os K ⟨o0 (o0 (o0 env t1 .junk) t2 (.lst tt (ys.map f))) t3 (.int .i64 ys.length),o0 σ l (some ⟨zs.map f,0,opn,z,true⟩)⟩) :
  Sq X ops i (⟨some t1,.slice T x (some lo) none none,ty1,p1,aft1,none⟩::⟨some t2,.move y,ty2,p2,aft2,none⟩::⟨some t3,.call { callee:=.builtin .copy,args:=#[.tmp t1,.tmp t2],argTypes:=#[T1,T2] },ty3,p3,aft3,none⟩::os) K ⟨env,σ⟩:=λhd hi n g a w Qo hs hq=>by
 unfold b2A at hv;split at hv;case isFalse=>cases hv
 rename_i hb;obtain⟨hm0,hmn⟩:=hb;have hv:=Option.some.inj hv;have o1:=hi 0;have o2:=hi 1;have o3:=hi 2;simp only[List.getElem?_cons_zero,List.getElem?_cons_succ,Nat.add_zero] at o1 o2 o3;show wpOpsIn (FX X.ρ) n X.P ops Qo (i::(i+1)::(i+2)::List.range' (i+3) os.length) a w;have hxv:=hs.eval x;rw[show p6 (St.env ⟨env,σ⟩) x=_ from hx] at hxv;obtain⟨hp,e⟩:=hxv.O6;have hR:=hs.rows l _ hl;have hmz:(g.μ l).z=z:=hR.z;have hnn:xs.length=(g.μ l).n:=by have:=hR.n;simpa using this.symm
 have hC:(g.μ l).n≤(g.μ l).C:=hR.C;generalize hM:m.toNat=M at *;have hmM:m=(M:Int):=by omega
 have hr1:=a2e (P:=X.P) hs (A:=(g.μ l).A) (lo:=some lo) (hi:=none) (mx:=none) (len:=(g.μ l).n) (cap:=(g.μ l).C) (i:=M) (j:=(g.μ l).n) (k:=(g.μ l).C) hE hz ⟨k,by rw[show p6 (St.env ⟨env,σ⟩) lo=_ from hlo,hmM]⟩ rfl rfl (λq=>by cases q) (by omega) hC (Nat.le_refl _);generalize hA1:(if (g.μ l).C=M then (g.μ l).A else (g.μ l).A.map (·.add (M*z)))=A1 at hr1;have d1:=y8 hd o1.symm;have d2:=y8 hd o2.symm;have d3:=y8 hd o3.symm;have s1:=hs.put (v:=.slice A1 ((g.μ l).n-M) ((g.μ l).C-M)) (d:=.junk) d1 (.cl (.junk _));refine a5h o1.symm rfl (λc q=>by cases q) (by simp only[execOp,e];exact y5 hr1) ?_;have hyv:=s1.eval y;rw[show p6 (St.env ⟨F3 env (some t1) .junk,σ⟩) y=_ from hy] at hyv;refine a5h o2.symm rfl (λc q=>by cases q) (v:=(a.put (some t1) (.slice A1 ((g.μ l).n-M) ((g.μ l).C-M))).eval y) (w':=w) rfl ?_;have s2:=s1.put (v:=(a.put (some t1) (.slice A1 ((g.μ l).n-M) ((g.μ l).C-M))).eval y) (d:=.lst tt (ys.map f)) d2 hyv;generalize hau:(a.put (some t1) (.slice A1 ((g.μ l).n-M) ((g.μ l).C-M))).eval y=U at *;have n1:t1<a.tmps.size:=by rw[hs.size];exact d1 _ rfl
 have n2:t2<a.tmps.size:=by rw[hs.size];exact d2 _ rfl
 show wpOpsIn (FX X.ρ) n X.P ops Qo ((i+2)::List.range' (i+3) os.length) ((a.put (some t1) (.slice A1 ((g.μ l).n-M) ((g.μ l).C-M))).put (some t2) U) w;have et1:((a.put (some t1) (.slice A1 ((g.μ l).n-M) ((g.μ l).C-M))).put (some t2) U).eval (.tmp t1) = .slice A1 ((g.μ l).n-M) ((g.μ l).C-M):=by
  simp[Act.put,Act.eval,Array.getD_eq_getD_getElem?,Array.getElem?_setIfInBounds,h12.symm,n1]
 have et2:((a.put (some t1) (.slice A1 ((g.μ l).n-M) ((g.μ l).C-M))).put (some t2) U).eval (.tmp t2)=U:=by
  simp[Act.put,Act.eval,Array.getD_eq_getD_getElem?,Array.getElem?_setIfInBounds,n2]
 generalize ((a.put (some t1) (.slice A1 ((g.μ l).n-M) ((g.μ l).C-M))).put (some t2) U)=a3 at *;have hu:Rd w g.imm g.μ (St.j2 ⟨o0 (o0 env t1 .junk) t2 (.lst tt (ys.map f)),σ⟩) U (.lst tt (ys.map f)):=by
  have:=s2.eval (.tmp t2);rw[et2] at this;have e2:p6 (St.env ⟨o0 (o0 env t1 .junk) t2 (.lst tt (ys.map f)),σ⟩) (.tmp t2) = .lst tt (ys.map f):=by
   exact (if_pos (Nat.lt_of_lt_of_le (d2 _ rfl) hs.big.1)).trans (j4 _ _ _)
  rw[show p6 (St.env ⟨F3 (St.env ⟨F3 env (some t1) .junk,σ⟩) (some t2) (.lst tt (ys.map f)),σ⟩) (.tmp t2) = .lst tt (ys.map f) from e2] at this;exact this
 obtain⟨B,cB,vals,eB,hyel,hlv,hvr,hone,hvc⟩:=Src.reads (cl:=true) s2 hu (.inl ⟨tt,rfl,rfl⟩) (z:=z) (λy hy=>by obtain⟨e,_,rfl⟩:=List.mem_map.1 hy;exact hzz e);have hly:(ys.map f).length=ys.length:=by simp
 rw[hly] at eB hlv hvc;have hu':=C0 hE1;have hmin:Nat.min ys.length ((g.μ l).n-M)=ys.length:=Nat.min_eq_left (by omega);obtain⟨cs,hc⟩:=J7 (a:=a3) (o:=⟨some t3,.call { callee:=.builtin .copy,args:=#[.tmp t1,.tmp t2],argTypes:=#[T1,T2] },ty3,p3,aft3,none⟩) rfl;have hfc:(Builtin.firstCells z ys.length U).run X.P w = .ok vals.toArray w:=by
  rw[eB];rcases Nat.eq_zero_or_pos ys.length with q | q
  ·have h0:vals = []:=List.eq_nil_of_length_eq_zero (by rw[hlv,q,Nat.zero_mul]);subst h0;rw[q];cases B <;> simp[Builtin.firstCells,loadCells,loadCellsFrom]
  ·obtain⟨bB,sB,rfl,hBc⟩:=hvc q;exact run_firstCells_some (P:=X.P) w z ys.length ⟨bB,sB,none⟩ ys.length cB vals hlv (λj u hj=>by rw[B0];exact hBc j u hj)
 have hrun:∀w',(∀A,A1=some A→(storeCells A vals).run X.P w = .ok () w')→(A1=none→w'=w)→(Builtin.copy_ #[T1,T2] ty3 #[.slice A1 ((g.μ l).n-M) ((g.μ l).C-M),U]).run X.P w = .ok (.int .i64 ys.length) w':=by
  intro w' h1 h2;have hle:(Builtin.lenOf U).run X.P w = .ok ys.length w:=by rw[eB];rfl
  cases hA:A1 with
  | none=>
   have:=h2 hA;subst this;simp only[Builtin.copy_,Sem.run_bind,run_underlying hu',Result.andThen_ok,hle,hmin,w4 hz,hfc,List.getElem?_toArray,List.getElem?_cons_zero,List.getElem?_cons_succ];rfl
  | some A=>
   have:=h1 A hA;simp only[Builtin.copy_,Sem.run_bind,run_underlying hu',Result.andThen_ok,hle,hmin,w4 hz,hfc,List.getElem?_toArray,List.getElem?_cons_zero,List.getElem?_cons_succ,this];rfl
 have hargs:(#[.tmp t1,.tmp t2]:Array Operand).map a3.eval = #[.slice A1 ((g.μ l).n-M) ((g.μ l).C-M),U]:=by simp[et1,et2]
 have fin:∀g' w' σ',σ'=o0 σ l (some ⟨zs.map f,0,opn,z,true⟩)→r7 X g' ⟨o0 (o0 env t1 .junk) t2 (.lst tt (ys.map f)),σ'⟩ a3 w'→wpOpsIn (FX X.ρ) n X.P ops Qo (List.range' (i+3) os.length) (a3.put (some t3) (.int .i64 ys.length)) w':=λg' w' σ' eσ hS=>by
  subst eσ;exact kk hd (λj=>by have:=hi (j+3);simpa[Nat.add_assoc,Nat.add_comm 3 j] using this) n g' _ w' Qo (hS.put d3 (.cl (.int _ _))) hq
 have ezs:zs.map f=(xs.map f).take M++(ys.map f++(xs.map f).drop (M+ys.length)):=by
  rw[←hv];simp[List.map_take,List.map_drop]
 rcases Nat.eq_zero_or_pos ys.length with hy0 | hy0
 ·have h0:ys = []:=List.eq_nil_of_length_eq_zero hy0;have hv0:vals = []:=List.eq_nil_of_length_eq_zero (by rw[hlv,hy0,Nat.zero_mul]);subst hv0;refine a5h o3.symm rfl (λc q=>by cases q) (v:=.int .i64 ys.length) (w':=w) (by rw[hc,hargs];exact y5 (hrun w (λA _=>rfl) (λ_=>rfl))) ?_;refine fin g w σ ?_ s2;have:zs=xs:=by rw[←hv,h0];simp
  rw[this];funext k
  by_cases e:k=l
  ·subst e;rw[j4];exact hl
  ·rw[e6 _ _ e]
 ·have hv0:0<vals.length:=by rw[hlv];exact Nat.mul_pos hy0 hzp
  obtain⟨b,s,hA⟩:=hR.spot (by omega);have hA1':A1=some ⟨b,s+M*z,none⟩:=by
   rw[←hA1,if_neg (by omega),hA,Option.map_some,B0]
  have hmine:∀j,j<vals.length→A2 (g.μ l) ⟨xs.map f,0,opn,z,true⟩ b (s+M*z+j):=λj hj=>⟨s,hA,by simp;omega,by
   have:(M+ys.length)*z≤(if opn then (g.μ l).C else (g.μ l).n)*(g.μ l).z:=by rw[hmz];exact Nat.mul_le_mul_right _ (by split <;> omega)
   rw[Nat.add_mul] at this;show s+M*z+j<s+(if opn=true then (g.μ l).C else (g.μ l).n)*(g.μ l).z;omega⟩
  have hst:=run_storeCells_cells (P:=X.P) b (s+M*z) vals 0 w (λj hj=>by simpa using (hR.own b _ (hmine j hj)).2.1) (λj hj=>by simpa using (hR.own b _ (hmine j hj)).2.2) (λu hu=>by rw[←a9r];exact hone u hu);simp only[Nat.add_zero] at hst;refine a5h o3.symm rfl (λc q=>by cases q) (v:=.int .i64 ys.length) (w':=w.setCells b (s+M*z) vals) (by rw[hc,hargs];exact y5 (hrun _ (λA hA'=>by rw[hA1'] at hA';cases hA';exact hst) (λq=>by rw[hA1'] at q;cases q))) ?_;have hlM:((xs.map f).take M).length=M:=by simp;omega
  have hW:=s2.write (l:=l) (r:=⟨xs.map f,0,opn,z,true⟩) (b:=b) (o:=s+M*z) (vs:=vals) (els:=zs.map f) (cl:=true) hl hmine (by rw[ezs];simp;omega)
   (λx hx=>by
    obtain⟨e,_,rfl⟩:=List.mem_map.1 hx;refine⟨?_,hzz e⟩;rw[ezs] at hx;rcases List.mem_append.1 hx with q | q
    ·exact (hR.el _ (List.mem_of_mem_take q)).1
    ·rcases List.mem_append.1 q with q | q
     ·exact hyel _ q
     ·exact (hR.el _ (List.mem_of_mem_drop q)).1)
   (λi x j y hx hy=>by
    rw[ezs] at hx;rcases Nat.lt_or_ge i M with q | q
    ·rw[List.getElem?_append_left (by rw[hlM];exact q),List.getElem?_take,if_pos q] at hx;obtain⟨b',s',u,k1,k2,k3,k4,k5⟩:=hR.cell i x j y hx hy;rw[hA] at k1;cases k1;have hj:=PV.u7 hy;have hxz:x.cells.length=z:=(hR.el x (List.mem_of_getElem? hx)).2;refine⟨b,s,u,hA,?_,?_,k4,k5⟩
     ·rw[World.cell?_setCells_out b vals (s+M*z) w _ λ_ _=>?_];·exact k2
      ·left;have:(i+1)*(g.μ l).z≤M*z:=by rw[hmz];exact Nat.mul_le_mul_right _ (by omega)
       rw[Nat.add_mul,Nat.one_mul] at this;simp only;rw[hmz] at this ⊢;omega
     ·exact k3.mono (Ext.refl _ _) λl' hl'=>⟨hl',rfl⟩
    ·rw[List.getElem?_append_right (by rw[hlM];exact q),hlM] at hx;rcases Nat.lt_or_ge (i-M) ys.length with q2 | q2
     ·rw[List.getElem?_append_left (by rw[hly];exact q2)] at hx;have hxz:x.cells.length=z:=by
       obtain⟨e,_,rfl⟩:=List.mem_map.1 (List.mem_of_getElem? hx);exact hzz e
      have hj:=PV.u7 hy;have hlt:(i-M)*z+j<vals.length:=by
       have:(i-M+1)*z≤ys.length*z:=Nat.mul_le_mul_right _ (by omega);rw[Nat.add_mul,Nat.one_mul] at this;omega
      have hrd:=hvr (i-M) x j y _ hx hy (List.getElem?_eq_getElem hlt);have hin:=World.cell?_setCells_in b vals (s+M*z) w (λj' hj'=>(hR.own b _ (hmine j' hj')).2.1) _ hlt;have ei:s+i*z+j=s+M*z+((i-M)*z+j):=by
       have:i*z=M*z+(i-M)*z:=by rw[←Nat.add_mul];congr 1;omega
       omega
      exact⟨b,s,_,hA,by rw[hmz,ei];exact hin,hrd.1,λq'=>by simp at q',λ_=>hrd.2 rfl⟩
     ·rw[List.getElem?_append_right (by rw[hly];exact q2),hly,List.getElem?_drop,show M+ys.length+(i-M-ys.length)=i by omega] at hx;obtain⟨b',s',u,k1,k2,k3,k4,k5⟩:=hR.cell i x j y hx hy;rw[hA] at k1;cases k1;refine⟨b,s,u,hA,?_,?_,k4,k5⟩
      ·rw[World.cell?_setCells_out b vals (s+M*z) w _ λ_ _=>?_];·exact k2
       ·right;have:(M+ys.length)*z≤i*(g.μ l).z:=by rw[hmz];exact Nat.mul_le_mul_right _ (by omega)
        rw[Nat.add_mul] at this;simp only;omega
      ·exact k3.mono (Ext.refl _ _) λl' hl'=>⟨hl',rfl⟩) hv0
  exact fin g _ _ rfl hW
end
def FwC(cap:List PV):Prop:=cap = []∨∃c,cap = [.rptr [.int .i64 c]]
theorem b1u{P:Program}{σ:Nat→Option Row}{ρ:Operand→PV}{dst:Option Tmp}{f:FuncId}{args:Array Operand}{ts:Array TypeId}{x:Operand}{ds vs cap:List PV}{ls:List Nat}{d:PV}(hx:ρ x = .fn (.func f) cap)(hc:FwC cap)(hk:o7 P f)(ha:args.toList.map ρ=ds)(h:E5 P f (vs++cap) d)
  (hok:ds.all (PV.vok σ)=true:=by rfl)(hv:ds.map (PV.vw σ)=vs:=by rfl)(hl:ds.flatMap (PV.D0 σ)=ls:=by rfl):u6 P σ ρ dst (.call { callee:=.value x,args,argTypes:=ts }) d (.frz ls):=by
 subst ha;subst hv;subst hl;have key:cap.all (PV.vok σ)=true∧cap.map (PV.vw σ)=cap∧cap.flatMap (PV.D0 σ) = []:=by
  rcases hc with rfl | ⟨c,rfl⟩
  ·exact⟨rfl,rfl,rfl⟩
  ·exact⟨rfl,rfl,rfl⟩
 obtain⟨k1,k2,k3⟩:=key;have:=u6.callF (P:=P) (σ:=σ) (dst:=dst) f args ts cap d x hx hk (by rw[List.all_append,hok,k1];rfl) (by rw[List.map_append,k2];exact h);rw[List.flatMap_append,k3,List.append_nil] at this;exact this
theorem b6z{P:Program}{σ:Nat→Option Row}{ρ:Operand→PV}{dst:Option Tmp}{T E:TypeId}{x:Operand}{xs:List Int}{n:Nat}{ds:List PV}(hx:ρ x = .rptr ds)(hds:ds=xs.map (PV.int .i64))(hT:a9x P T=some (n,E))(hn:xs.length=n)(hs:l5 P E=some 1):u6 P σ ρ dst (.slice T x none none none) (.lst true (xs.map (PV.int .i64))) .none:=by
 subst hds;refine .pureV _ _ (λ_=>nofun) (λ_ _=>nofun) λo w imm μ j2 ev ho hr=>?_;have h1:=hr x (by simp[Op.operands]);rw[hx] at h1;obtain⟨b,off,u,e,_,hc⟩:=h1.P5;have hu:P.underlying T=some (.array n E):=by
  unfold a9x at hT;split at hT;·rename_i h';cases hT;exact h'
  ·cases hT
 refine⟨.slice (some ⟨b,off,none⟩) (xs.map (PV.int .i64)).length n,?_,.cl (.lst _ n 1 true _ (λi _=>u i) (by simp[hn]) (λ_=>by simp[hn]) (λq=>by cases q) (λy hy=>by obtain⟨i,_,rfl⟩:=List.mem_map.1 hy;exact⟨rfl,rfl⟩) (λ_=>⟨b,off,rfl,λi y j z hy hz=>?_⟩) λi y j z hy hz=>?_)⟩
 ·simp only[execOp,ho,Option.map_none];refine y5 ?_;have key:=a6m (P:=P) (w:=w) (n:=n) (l:=none) (u:=none) (i:=0) (j:=n) (Int.le_refl _) (by omega) (Int.le_refl _) (.inl ⟨rfl,rfl⟩) (.inl ⟨rfl,rfl⟩);simp only[Instr.sliceAt,Instr.sureAddr,e,Sem.run_bind,run_underlying hu,Result.andThen_ok,Sem.run_pure,key,w4 hs,List.length_map,hn];have:(if n=(0:Int).toNat then (⟨b,off,none⟩:Addr) else Addr.add ⟨b,off,none⟩ ((0:Int).toNat*1))=⟨b,off,none⟩:=by
   split;·rfl
   ·rfl
  rw[this];simp
 ·have hj:j=0:=by
   obtain⟨v,_,rfl⟩:=List.mem_map.1 (List.mem_of_getElem? hy);have:=(List.getElem?_eq_some_iff.1 hz).1;simp[PV.cells] at this;exact this
  subst hj;have hz':(xs.map (PV.int .i64))[i]? = some z:=by
   obtain⟨v,_,rfl⟩:=List.mem_map.1 (List.mem_of_getElem? hy);have hz2:z = .int .i64 v:=by simpa[PV.cells] using hz.symm
   rw[hz2];exact hy
  obtain⟨q1,q2,_⟩:=hc i z hz';rw[Nat.mul_one,Nat.add_zero];exact⟨q1,q2⟩
 ·have hj:j=0:=by
   obtain⟨v,_,rfl⟩:=List.mem_map.1 (List.mem_of_getElem? hy);have:=(List.getElem?_eq_some_iff.1 hz).1;simp[PV.cells] at this;exact this
  subst hj;have hz':(xs.map (PV.int .i64))[i]? = some z:=by
   obtain⟨v,_,rfl⟩:=List.mem_map.1 (List.mem_of_getElem? hy);have hz2:z = .int .i64 v:=by simpa[PV.cells] using hz.symm
   rw[hz2];exact hy
  exact (hc i z hz').2.2
theorem bytes_beq(a b:ByteArray):(a==b)=true↔a=b:=by
 obtain⟨x⟩:=a;obtain⟨y⟩:=b;constructor
 ·intro h;have e:x=y:=by simpa using (show (x==y)=true from h)
  rw[e]
 ·intro h;have e:x=y:=congrArg ByteArray.data h;show (x==y)=true;simpa using e
theorem a6e{n:ByteArray}:∀(ents:List MapEntry) (ks:List ByteArray) (i0:Nat),ents.length=ks.length→(∀(i:Nat) e k,ents[i]? = some e→ks[i]? = some k→e.key = .string k) →
  Instr.findNow .string (.string n) ents i0=some ((a1Z ks n).bind λi=>ents[i]?.map λe=>(i0+i,e.val))
 | [],[],i0,_,_=>rfl
 | e::ents,[],_,h,_=>by simp at h
 | [],k::ks,_,h,_=>by simp at h
 | e::ents,k::ks,i0,hl,h=>by
  have h0:=h 0 e k rfl rfl;rw[Instr.findNow,h0,a1Z];simp only[Instr.sameNow];cases q:(n==k)
  ·simp only[Bool.false_eq_true,if_false];rw[a6e ents ks (i0+1) (by simpa using hl) λi e' k' h1 h2=>h (i+1) e' k' (by simpa using h1) (by simpa using h2)];cases a1Z ks n with
   | none=>rfl
   | some j=>
    simp only[Option.bind_some,Option.map_some,List.getElem?_cons_succ];rw[Nat.add_assoc,Nat.add_comm 1 j]
  ·simp
theorem C5{P:Program}{kt:TypeId}(h:P.underlying kt=some .string):a6s P kt PV.str where
 check b hr:=by
  cases hr
  unfold Instr.checkKey
  simp only[Sem.run_bind,run_underlying h,Result.andThen_ok]
  rfl
 find ents ks hr hk:=by
  cases hr
  unfold Instr.findKey
  simp only[Sem.run_bind,run_underlying h,Result.andThen_ok]
  rw[a6e ents ks 0 hk.1 λi e k h1 h2=>by
   have:=hk.2 i e k h1 h2
   cases hq:e.key <;> rw[hq] at this <;> cases this
   rfl]
  simp only[Nat.zero_add]
  rfl
 stays h1 h2 he:=by
  cases h1
  cases h2
  rename_i k u
  have:k=u:=(bytes_beq k u).1 he
  subst this
  unfold Instr.keyThatStays
  rw[if_pos (by simp only[Instr.sameBits];exact he)]
  rfl
 Y3 k:=⟨rfl,rfl⟩
 eq k u h:=(bytes_beq k u).1 h
end Go.Pw
namespace Go.Sh
def b1T:Nat→Nat→List UInt8
 | 0,_=>[]
 | k+1,u=>if u<10 then [UInt8.ofNat (48+u)] else b1T k (u / 10) ++ [UInt8.ofNat (48+u % 10)]
def a8L(n:Int):Option ByteArray:=if -9223372036854775808≤n∧n≤9223372036854775807 then some (p5 (if n<0 then 45::b1T 20 n.natAbs else b1T 20 n.toNat)) else none
def a9u(s sep:ByteArray):Option (List ByteArray):=if s.size<4294967281∧1≤sep.size then some (Go.Lib.splitB sep 0 (Go.Lib.countB s sep) s) else none
theorem a88:∀(k u:Nat),u<10 ^ (k+1)→b1T (k+1) u=Go.Lib.decDigits u
 | 0,u,h=>by
  rw[b1T,Go.Lib.decDigits,if_pos (by simpa using h),dif_pos (by simpa using h)]
 | k+1,u,h=>by
  rw[b1T,Go.Lib.decDigits];split;·rfl
  ·rw[a88 k (u / 10) (by rw[Nat.pow_succ] at h;omega)]
end Go.Sh
namespace Go.Pw
open Go.RowKit Go.Sh Go.Proofs Go.Shelf Go.Sort
variable{P:Program}{ρ:Ren}
theorem b4r(L:LaysM.n171 P ρ)(hn:P.globalNamed (b0j P)≠none)(ht:∀w,Lib.TabIs P w (b0j P) .u64 Lib.pow10Tab→∀n:Int,-9223372036854775808≤n→n≤9223372036854775807→Calls P (ρ.f 171) #[.int .i64 n] w λe w'=>e = .returned (.string ⟨(Lib.itoa n).toArray⟩)∧∃k os,w'=grow (w.drewN k) os){n:Int}{r:ByteArray}(h:a8L n=some r):E5 P (ρ.f 171) [.int .i64 n] (.str r):=by
 unfold a8L at h;split at h;case isFalse=>cases h
 rename_i hb;have h:=Option.some.inj h;intro w imm vs hlt hG hr;obtain⟨g,hg⟩:=Option.ne_none_iff_exists'.1 hn;have hT:=hG.1 g hg;have hvs:vs = #[.int .i64 n]:=by
  obtain⟨h1,h2⟩:=hr;have h3:vs.size=1:=h1;have:=h2 0 vs[0] (.int .i64 n) (Array.getElem?_eq_getElem (by omega)) rfl;apply Array.ext (by simpa using h3);intro i q1 q2;have hi:i=0:=by simp at q2;exact q2
  subst hi;show vs[0]=Value.int .i64 n;generalize vs[0]=v at this;cases this;rfl
 subst hvs;refine (ht w hT n hb.1 hb.2).mono λe w' ⟨he,k,os,hw⟩=>⟨_,he,by rw[hw];exact a7m k os,?_⟩;have:(⟨(Lib.itoa n).toArray⟩:ByteArray)=r:=by
  rw[←h];unfold Lib.itoa;congr 1;split;·rw[a88 19 _ (by omega)]
  ·rw[a88 19 _ (by omega)]
 rw[this];exact .str _
theorem b24(L:Lays.n146 P ρ)(hi9:(P.info? (ρ.t 9)).map (λi=>(i.zero,i.size,i.bytes))=some (some (.string ByteArray.empty),1,16))(hM:b6s=some (ρ.g 1)){s sep:ByteArray}{xs:List ByteArray}(h:a9u s sep=some xs):E5 P (ρ.f 146) [.str s,.str sep] (.lst false (xs.map PV.str)):=by
 unfold a9u at h;split at h;case isFalse=>cases h
 rename_i hb;have h:=Option.some.inj h;intro w imm vs hlt hG hr;obtain⟨m,hm⟩:=hG.2 _ hM;have hvs:vs = #[.string s,.string sep]:=by
  obtain⟨h1,h2⟩:=hr;have h3:vs.size=2:=h1;have k0:=h2 0 vs[0] (.str s) (Array.getElem?_eq_getElem (by omega)) rfl;have k1:=h2 1 vs[1] (.str sep) (Array.getElem?_eq_getElem (by omega)) rfl;apply Array.ext (by simpa using h3);intro i q1 q2;rcases i with _ | _ | i
  ·show vs[0]=Value.string s;generalize vs[0]=v at k0;cases k0;rfl
  ·show vs[1]=Value.string sep;generalize vs[1]=v at k1;cases k1;rfl
  ·simp at q2;omega
 subst hvs;have hlen:=Lib.splitB_all sep hb.2 0 _ s rfl;refine (Any.strings_Split L hi9 s sep m w hb.1 hm hb.2).mono λe w' ⟨he,hw⟩=>⟨_,he,by rw[hw];exact (Bel.refl _ _).alloc (Nat.le_refl _) _,?_⟩;rw[h] at hlen hw;have hx:(xs.map PV.str).length=Lib.countB s sep+1:=by simpa using hlen
 rw[←hx];subst hw;refine .lst _ _ 1 false _ (λi _=>.string (xs.getD i ByteArray.empty)) (Nat.le_refl _) (λq=>by cases q) (λq=>by cases q) (λy hy=>by obtain⟨i,_,rfl⟩:=List.mem_map.1 hy;exact⟨rfl,rfl⟩) (λ_=>⟨w.heap.size,0,rfl,λi y j z hy hz=>?_⟩) λi y j z hy hz=>?_
 ·rw[List.getElem?_map] at hy;cases hq:xs[i]? with
  | none=>rw[hq] at hy;cases hy
  | some v=>
   rw[hq] at hy;cases hy;have hj:j=0:=by
    have:=(List.getElem?_eq_some_iff.1 hz).1;simp[PV.cells] at this;exact this
   subst hj;have hl:=(List.getElem?_eq_some_iff.1 hq).1;refine⟨.inr ⟨Nat.le_refl _,by simp⟩,?_⟩;rw[World.cell?_alloc_new];simp[hq,List.getD_eq_getElem?_getD]
 ·rw[List.getElem?_map] at hy;cases hq:xs[i]? with
  | none=>rw[hq] at hy;cases hy
  | some v=>
   rw[hq] at hy;cases hy;have hj:j=0:=by
    have:=(List.getElem?_eq_some_iff.1 hz).1;simp[PV.cells] at this;exact this
   subst hj;have hz2:z = .str v:=by simpa[PV.cells] using hz.symm
   subst hz2;simp only[List.getD_eq_getElem?_getD,hq,Option.getD_some];exact .str _
end Go.Pw
namespace Go.Pw
open Go.RowKit Go.Sh
abbrev a4A{α:Type}(f:α→PV)(xs:List α)(k r:Nat):List PV:=(xs.map f).set k (.sl r)
theorem b6q{α:Type}{xs:List α}{i:Int}{v:α}(h:ix xs i=some v):i.toNat<xs.length:=(List.getElem?_eq_some_iff.1 (a7q h).2).1
section
variable{X:Ctx}{g:Gh}{st:St}{a:Act}{w:World}
theorem r7.b4Z(h:r7 X g st a w){l0 k:Nat}{r0:Row}{y y':PV}{cl':Bool}(hl:st.σ l0=some r0)(hlm:l0<MB)(hk:r0.els[k]? = some y)(hyc:y.cells = [y])(hyc':y'.cells = [y'])(hel:y'.el=true)
  (hr:∀b s v,(g.μ l0).A=some ⟨b,s,none⟩→w.cell? ⟨b,s+k*(g.μ l0).z+0,none⟩=some v→Rd w g.imm g.μ st.j2 v y→Rd w g.imm g.μ st.j2 v y')
  (hcl:cl'=true→∀(i:Nat) x (j:Nat) c,(r0.els.set k y')[i]? = some x→x.cells[j]? = some c→c.Y3=true) :
  r7 X g ⟨st.env,o0 st.σ l0 (some ⟨r0.els.set k y',r0.lo,r0.opn,r0.z,cl'⟩)⟩ a w:=by
 have hp:∀l,st.j2 l→St.j2 ⟨st.env,o0 st.σ l0 (some ⟨r0.els.set k y',r0.lo,r0.opn,r0.z,cl'⟩)⟩ l∧g.μ l=g.μ l:=by
  rintro l ⟨r,hr⟩;refine⟨?_,rfl⟩;by_cases e:l=l0
  ·subst e;exact⟨_,j4 _ _ _⟩
  ·exact⟨r,by rw[←hr];exact e6 _ _ e⟩
 have hR:=h.rows l0 r0 hl;have hkl:=(List.getElem?_eq_some_iff.1 hk).1;have hyl:=hR.el y (List.mem_of_getElem? hk);have hz1:r0.z=1:=by rw[←hyl.2,hyc];rfl
 have hcase:∀l r,o0 st.σ l0 (some ⟨r0.els.set k y',r0.lo,r0.opn,r0.z,cl'⟩) l=some r→∃r1,st.σ l=some r1∧(∀b o,A2 (g.μ l) r b o→A2 (g.μ l) r1 b o):=by
  intro l r q;by_cases e:l=l0
  ·subst e;rw[j4] at q;cases q;exact⟨r0,hl,λ_ _ q=>q⟩
  ·rw[e6 _ _ e] at q;exact⟨r,q,λ_ _ q=>q⟩
 refine⟨h.size,λi=>(h.env i).mono (Ext.refl _ _) hp,λl r q=>?_,λl l' r r' hne q q' b o ho k=>?_,λl r b o q ho=>?_,h.immlt,h.immsub,h.immsup,h.below,h.marks,h.obs,h.big,h.maps.o0 hl (λq=>absurd hlm (Nat.not_lt.2 q)) λq=>absurd hlm (Nat.not_lt.2 q)⟩
 ·by_cases e:l=l0
  ·subst e;rw[show (St.mk st.env (o0 st.σ l (some ⟨r0.els.set k y',r0.lo,r0.opn,r0.z,cl'⟩))).σ l=_ from j4 _ _ _] at q;cases q;refine⟨by rw[hR.n];simp,hR.z,hR.C,by simpa using hR.lo,λz hz=>?_,hR.nil,hR.spot,λi z j c hz hc=>?_,λb o ho=>hR.own b o ho⟩
   ·rcases List.mem_or_eq_of_mem_set hz with q | rfl
    ·exact hR.el z q
    ·exact⟨hel,by rw[hyc',hz1];rfl⟩
   ·by_cases ei:i=k
    ·subst ei;rw[List.getElem?_set_self hkl] at hz;cases hz;rw[hyc'] at hc;have hj:j=0:=by
      have:=(List.getElem?_eq_some_iff.1 hc).1;simpa using this
     subst hj;cases hc;obtain⟨b,s,u,k1,k2,k3,k4,k5⟩:=hR.cell i y 0 y hk (by rw[hyc];rfl);have h3:=(hr b s u k1 k2 k3).mono (Ext.refl _ _) hp;exact⟨b,s,u,k1,k2,h3,k4,λq=>h3.Y3 (hcl q i y' 0 y' (List.getElem?_set_self hkl) (by rw[hyc'];rfl))⟩
    ·have hz':=hz;rw[List.getElem?_set_ne (Ne.symm ei)] at hz;obtain⟨b,s,u,k1,k2,k3,k4,k5⟩:=hR.cell i z j c hz hc;exact⟨b,s,u,k1,k2,k3.mono (Ext.refl _ _) hp,k4,λq=>k3.Y3 (hcl q i z j c hz' hc)⟩
  ·rw[show (St.mk st.env (o0 st.σ l0 (some ⟨r0.els.set k y',r0.lo,r0.opn,r0.z,cl'⟩))).σ l=st.σ l from e6 _ _ e] at q;exact (h.rows l r q).mono (Ext.refl _ _) hp λ_ _ _=>⟨rfl,rfl⟩
 ·obtain⟨r1,h1,k1⟩:=hcase l r q;obtain⟨r2,h2,k2⟩:=hcase l' r' q';exact h.disj l l' r1 r2 hne h1 h2 b o (k1 b o ho) (k2 b o k)
 ·obtain⟨r1,h1,k1⟩:=hcase l r q;exact h.ownimm l r1 b o h1 (k1 b o ho)
end
theorem b55{s:St}{α:Type}{f:α→PV}{xs:List α}{l k r lo z zz:Nat}{opn cl:Bool}(hl:s.σ l=some ⟨(xs.map f).set k (.lst true []),lo,opn,zz,cl⟩)(hk:k<xs.length)(hr:s.σ r=none)(hne:(l==r)=false)(hlm:l<MB:=by exact Nat.le_of_ble_eq_true rfl)(hrm:r<MB:=by exact Nat.le_of_ble_eq_true rfl) :
  Wk s ⟨s.env,o0 (o0 s.σ r (some ⟨[],0,true,z,true⟩)) l (some ⟨a4A f xs k r,lo,opn,zz,false⟩)⟩:=λX g a w h=>by
 have hne':l≠r:=by simpa using hne
 have hkl:k<(xs.map f).length:=by simpa using hk
 have hR:=h.rows l _ hl;obtain⟨b0,s0,u,hA0,hu,hv,_,_⟩:=hR.cell k (.lst true []) 0 (.lst true []) (List.getElem?_set_self hkl) rfl;obtain⟨A,c,z',u',e,h1,h2,h3,_⟩:=hv.W8;have hc:=h2 rfl;simp only[List.length_nil] at hc e;subst hc;have hs:=h.a6M (l:=r) (A:=A) (xs:=[]) (z:=z) hrm hr (λ_=>rfl) (λ_ q=>by cases q) (λq=>absurd q (Nat.lt_irrefl _)) true;have hl':(St.mk s.env (o0 s.σ r (some ⟨[],0,true,z,true⟩))).σ l=some ⟨(xs.map f).set k (.lst true []),lo,opn,zz,cl⟩:=by rw[←hl];exact e6 _ _ hne'
 have hs':r7 X ⟨g.imm,o0 g.μ r ⟨A,0,0,z⟩⟩ ⟨s.env,o0 s.σ r (some ⟨[],0,true,z,true⟩)⟩ a w:=hs;have hμ:o0 g.μ r ⟨A,0,0,z⟩ l=g.μ l:=e6 _ _ hne';have:=hs'.b4Z (k:=k) (y:=.lst true []) (y':=.sl r) (cl':=false) hl' hlm (List.getElem?_set_self hkl) rfl rfl rfl (λb s1 v k1 k2 _=>by
  simp only[hμ] at k1 k2;rw[hA0] at k1;cases k1;rw[hu] at k2;cases k2;rw[e];exact U8 (m:=⟨A,0,0,z⟩) ⟨_,j4 _ _ _⟩ (j4 _ _ _)) (λq=>by cases q)
 rw[List.set_set] at this;exact⟨_,this⟩
theorem b54{s:St}{α β:Type}{f:α→PV}{gE:β→PV}{xs:List α}{ys:List β}{v:α}{l k r lo zz:Nat}{opn:Bool}{rr:Row}(hl:s.σ l=some ⟨a4A f xs k r,lo,opn,zz,false⟩)(hk:k<xs.length)(hr:s.σ r=some rr)(he:rr.els=ys.map gE)(hrc:rr.cl=true)(hv:f v = .lst false (ys.map gE))(hf:∀x,(f x).cells.all PV.Y3=true)(hne:(l==r)=false)(hlm:l<MB:=by exact Nat.le_of_ble_eq_true rfl) :
  Wk s ⟨s.env,o0 (F6 s.σ [r]) l (some ⟨(xs.set k v).map f,lo,opn,zz,true⟩)⟩:=λX g a w h=>by
 have hne':l≠r:=by simpa using hne
 have hkl:k<(xs.map f).length:=by simpa using hk
 obtain⟨imm',h1,h2,h3⟩:=h.F6 [r];have hl':(St.mk s.env (F6 s.σ [r])).σ l=some ⟨a4A f xs k r,lo,opn,zz,false⟩:=by
  rw[←hl];show a1b s.σ r l=_;simp only[a1b,hr];exact e6 _ _ hne'
 have key:=h1.b4Z (k:=k) (y:=.sl r) (y':=.lst false (ys.map gE)) (cl':=true) hl' hlm (List.getElem?_set_self hkl) rfl rfl rfl (λb s1 u k1 k2 _=>by
  obtain⟨b',s',u',m1,m2,m3,_,_⟩:=(h.rows l _ hl).cell k (.sl r) 0 (.sl r) (List.getElem?_set_self hkl) rfl;rw[m1] at k1;cases k1;rw[m2] at k2;cases k2;have hok:(PV.sl r).vok s.σ=true:=by simp only[PV.vok,PV.a2m,PV.a1A,PV.R8,hr,hrc]
  have:=(h.view h2 m3 hok (by simpa[PV.D0,PV.K0,PV.E7,PV.O9] using h3)).w2;rw[show (PV.sl r).view s.σ = .lst false (ys.map gE) by simp only[PV.view,PV.v3,PV.v2,PV.v0,hr,he]] at this;exact .cl this) (λ_ i x j c hx hc=>by
  have hx':((xs.set k v).map f)[i]? = some x:=by
   rw[List.map_set,hv];rw[←List.set_set (a:=.sl r)];exact hx
  obtain⟨x0,_,rfl⟩:=List.mem_map.1 (List.mem_of_getElem? hx');exact List.all_eq_true.1 (hf x0) c (List.mem_of_getElem? hc))
 rw[List.set_set,←hv,←List.map_set] at key;exact⟨_,key⟩
theorem a5R{α:Type}{f:α→PV}{xs:List α}{k r:Nat}{π:Nat→Nat}{R:List (Nat × Row)}{σ:Nat→Option Row}{l:Nat}{r0 r':Row}(h:σ (π l)=some r0)(hz:r0.z=r'.z)(hl:r0.lo=r'.lo)(ho:r'.opn=true→r0.opn=true)(hc:r'.cl=false)(he:r0.els=a4A f xs k (π r))(he':r'.els=a4A f xs k r)
  (hR:(R.lookup r).isSome=true)(h1:∀x,(f x).ren π=f x)(h2:∀x,a3i (f x)=true)(h3:∀x,(f x).refs = [])(hm:okM l (π l) r0.cl r'.cl=true:=by rfl):a0H π R σ (l,r'):=by
 refine⟨r0,h,hm,hz,hl,ho,λq=>(by
  have q':r'.cl=true:=q;rw[hc] at q';cases q'),.inr ⟨hc,?_,?_,?_⟩⟩
 ·show r0.els=r'.els.map (PV.ren π);rw[he,he',List.map_set,List.map_map,show (PV.ren π ∘ f)=f from funext h1];rfl
 ·show r'.els.all a3i=true;rw[he',List.all_eq_true];intro y hy;rcases List.mem_or_eq_of_mem_set hy with q | rfl
  ·obtain⟨x,_,rfl⟩:=List.mem_map.1 q;exact h2 x
  ·rfl
 ·show (r'.els.flatMap PV.refs).all (λl=>(R.lookup l).isSome)=true;rw[he',List.all_eq_true];intro y hy;obtain⟨z,hz,hyz⟩:=List.mem_flatMap.1 hy;rcases List.mem_or_eq_of_mem_set hz with q | rfl
  ·obtain⟨x,_,rfl⟩:=List.mem_map.1 q;rw[h3 x] at hyz;cases hyz
  ·have:y=r:=by simpa[PV.refs,PV.a8I,PV.a6k] using hyz
   subst this;exact hR
section
variable{P:Program}{σ:Nat→Option Row}{ρ:Operand→PV}{dst:Option Tmp}
theorem b4W{α:Type}{f:α→PV}{xs:List α}{e:α}{T E:TypeId}{x y:Operand}{l z r k':Nat}{rr:Row}{k:IntKind}{n:Int}(h:ix xs n=some e)(hx:ρ x = .sl l)(hl:σ l=some rr)(he:rr.els=a4A f xs k' r)(hy:ρ y = .int k n)(hE:r5 P T=some E)(hz:l5 P E=some z)(hrz:rr.z=z) :
  u6 P σ ρ dst (.indexAddr T x y) (.ptr l n.toNat 0) .none:=by
 subst hrz;obtain⟨h0,h1⟩:=a1c f h;have hlt:=(List.getElem?_eq_some_iff.1 h1).1;exact .idxR T x y l rr k n E hx hl hy h0 (by rw[he];simpa using hlt) hE hz
theorem b6w{α:Type}{f:α→PV}{xs:List α}{e:α}{T:TypeId}{x:Operand}{l r:Nat}{rr:Row}{n:Int}(h:ix xs n=some e)(hx:ρ x = .ptr l n.toNat 0)(hl:σ l=some rr)(he:rr.els=a4A f xs n.toNat r)(ha:B8 P T=some false):u6 P σ ρ dst (.load T x) (.sl r) .none:=by
 have hlt:=(List.getElem?_eq_some_iff.1 (a1c f h).2).1;exact .a1r T x l n.toNat 0 rr (.sl r) (.sl r) hx hl (by rw[he];exact List.getElem?_set_self hlt) ha rfl
end
section
variable{P:Program}{ops:Array Oper}{bar:List Nat}{i:Nat}{os:List Oper}{K:St→Prop}{env:Nat→PV}{σ:Nat→Option Row}{ty:TypeId}{pos:String}{after:Array Edge}{gd:Option (Nat × Bool)}
theorem b6m{α:Type}{f:α→PV}{xs:List α}{e:α}{m:Int}{x y:Operand}{T:TypeId}{l r r2:Nat}{opn:Bool}{z:Nat}(h:ix xs m=some e)(hw:s9 ops env ⟨none,.store T x y,ty,pos,after,gd⟩=some true)(hx:p6 env x = .ptr l m.toNat 0)(hy:p6 env y = .sl r2)(hs:l5 P T=some 1)
  (hl:σ l=some ⟨a4A f xs m.toNat r,0,opn,z,false⟩)(k:Ex P ops bar true (i+1) os ⟨env,o0 σ l (some ⟨a4A f xs m.toNat r2,0,opn,z,false⟩)⟩ K)
  (ht:(kept bar).contains l=false:=by rfl)(h4:cls bar i (.store T x y)=4:=by rfl):Ex P ops bar true i (⟨none,.store T x y,ty,pos,after,gd⟩::os) ⟨env,σ⟩ K:=by
 have hlt:=(List.getElem?_eq_some_iff.1 (a1c f h).2).1;refine b44 (x:=.sl r) (x':=.sl r2) (cs:=[.sl r2]) (es:=a4A f xs m.toNat r2) hw (a3D (d:=.sl r2) hx (.inl hy) rfl rfl hs (Nat.zero_lt_one) rfl) hl (List.getElem?_set_self hlt) (Nat.zero_le _) (Nat.le_refl _) rfl (cl:=false) rfl rfl ?_ (λ_=>?_) (λ_=>by rw[h4];trivial) k;·exact List.set_set ..
 ·simp only[G8.off,ht];rfl
end
section
variable{X:Ctx}{ops:Array Oper}{i:Nat}{os:List Oper}{K:Ctx→St→Prop}{env:Nat→PV}{σ:Nat→Option Row}{ty:TypeId}{pos:String}{after:Array Edge}{gd:Option (Nat × Bool)}
theorem b4F{α:Type}{f:α→PV}{xs:List α}{e:α}{m:Int}{x y:Operand}{T:TypeId}(r z:Nat){l:Nat}{opn:Bool}{zz:Nat}(h:ix xs m=some e)(hw:s9 ops env ⟨none,.store T x y,ty,pos,after,gd⟩=some true)(hx:p6 env x = .ptr l m.toNat 0)(hy:p6 env y = .lst true [])(hs:l5 X.P T=some 1)
  (hl:σ l=some ⟨xs.map f,0,opn,zz,true⟩)(hr:σ r=none)(hne:(l==r)=false)(hsc:(f e).cells.length=1)
  (k:Sq X ops (i+1) os K ⟨env,o0 (o0 σ r (some ⟨[],0,true,z,true⟩)) l (some ⟨a4A f xs m.toNat r,0,opn,zz,false⟩)⟩)(hlm:l<MB:=by exact Nat.le_of_ble_eq_true rfl)(hrm:r<MB:=by exact Nat.le_of_ble_eq_true rfl)(hset:R7 (f e) 0 [.lst true []] = .lst true []:=by rfl) :
  Sq X ops i (⟨none,.store T x y,ty,pos,after,gd⟩::os) K ⟨env,σ⟩:=by
 have hx0:=(a1c f h).2;have hlt:=(List.getElem?_eq_some_iff.1 hx0).1;have hlt':m.toNat<xs.length:=by simpa using hlt
 have hne':l≠r:=by simpa using hne
 have h0:u6 X.P σ (p6 env) none (.store T x y) (.tup []) (.sto l m.toNat 0 [.lst true []]):=a3D (d:=.lst true []) hx (.inl hy) rfl rfl hs Nat.zero_lt_one rfl;refine a2D (X:=X) (K:=K) (os:=os) (i:=i) (ops:=ops) (st:=⟨env,σ⟩) (.run (.tup []) (.sto l m.toNat 0 [.lst true []]) hw h0 ⟨y6.refl _,w9.refl _⟩ ⟨_,f e,hl,hx0,Nat.zero_le _,by rw[hsc];exact Nat.le_refl _,rfl⟩ (λq=>nomatch q) (λq=>nomatch q)) ?_;simp only[G8.apply,hl,hx0,hset];refine E1 (b55 (f:=f) (xs:=xs) (k:=m.toNat) (r:=r) (z:=z) (l:=l) (lo:=0) (opn:=opn) (zz:=zz) (j4 _ _ _) hlt' ((e6 _ _ hne'.symm).trans hr) hne hlm hrm) ?_;have:o0 (o0 (o0 σ l (some ⟨(xs.map f).set m.toNat (.lst true []),0,opn,zz,true && [PV.lst true []].all PV.K1⟩)) r (some ⟨[],0,true,z,true⟩)) l (some ⟨a4A f xs m.toNat r,0,opn,zz,false⟩)=o0 (o0 σ r (some ⟨[],0,true,z,true⟩)) l (some ⟨a4A f xs m.toNat r,0,opn,zz,false⟩):=by
  funext i
  unfold o0;split;·rfl
  ·split <;> rfl
 rw[this];exact k
end
end Go.Pw
namespace Go.Sh
abbrev ofBytes(l:List Int):ByteArray:=p5 (l.map λn=>UInt8.ofNat n.toNat)
end Go.Sh
namespace Go.Pw
open Go.RowKit Go.Sh
theorem b4U{P:Program}{σ:Nat→Option Row}{ρ:Operand→PV}{dst:Option Tmp}{S D E:TypeId}{x:Operand}{t:Bool}{y:Int}{l:List Int}(hx:ρ x = .lst t ((y::l).map (PV.int .u8)))(hS:r5 P S=some E)(hE:P.underlying E=some (.int .u8))(hD:P.underlying D=some .string):u6 P σ ρ dst (.convert S D x) (.str (ofBytes (y::l))) .none:=by
 generalize hxs:y::l=xs at hx;refine .pureV _ _ (λ_=>nofun) (λ_ _=>nofun) λo w imm μ j2 ev ho hr=>?_;have h1:=hr x (by simp[Op.operands]);rw[hx] at h1;obtain⟨A,c,z,u,e,hc,_,_,hel,hA,hk⟩:=h1.W8;have h0:0<(xs.map (PV.int .u8)).length:=by rw[←hxs];simp
 obtain⟨b,s,rfl,hcell⟩:=hA h0;have hz:z=1:=by
  have:=(hel (.int .u8 y) (by rw[←hxs];simp)).2;rw[←this];rfl
 subst hz;have key:∀i,i<xs.length→w.cell? ⟨b,s+i,none⟩=some (.int .u8 (xs.getD i 0)):=λi hi=>by
  have hg:(xs.map (PV.int .u8))[i]? = some (.int .u8 (xs.getD i 0)):=by simp[hi]
  have h2:=(hcell i _ 0 _ hg rfl).2;have h3:=hk i _ 0 _ hg rfl;rw[Nat.mul_one,Nat.add_zero] at h2;rw[h2];generalize u i 0=v at h3;cases h3;rfl
 have hlen:(xs.map (PV.int .u8)).length=xs.length:=by simp
 rw[hlen] at e;refine⟨.string (strOfNums xs),?_,.cl (.str _)⟩;simp only[execOp,ho,e];exact y5 (run_convert_bytes_arg w S E (C0 hS) hE b s xs.length c xs rfl key D hD)
end Go.Pw
