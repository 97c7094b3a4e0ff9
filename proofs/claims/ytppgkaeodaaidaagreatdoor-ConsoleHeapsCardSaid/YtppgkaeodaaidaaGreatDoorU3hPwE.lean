/- A part. -/
import Derived.Test.YtppgkaeodaaidaaGreatDoorU3hPwC
import Derived.Test.YtppgkaeodaaidaaGreatDoorU3hPwD
set_option linter.unusedVariables false
set_option linter.unusedSimpArgs false
set_option linter.unusedSectionVars false
namespace Go.Sh
abbrev r9(l:List UInt8):ByteArray:=⟨l.toArray⟩
abbrev Y9(s:ByteArray):List UInt8:=s.data.toList
def CE{α:Type}(xs:List α)(n:Int)(ys:List α):Option (List α):=if 0<=n/\n.toNat+ys.length<=xs.length then some (xs.take n.toNat++(ys++xs.drop (n.toNat+ys.length))) else none
def FP(s:ByteArray)(i j:Int):Option ByteArray:=if 0<=i/\i<=j/\j<=s.size then some (r9 (((Y9 s).take j.toNat).drop i.toNat)) else none
def tJ(a b:ByteArray):Option ByteArray:=if a.size+b.size<=9223372036854775807 then some (r9 (Y9 a++Y9 b)) else none
def vF(k:IntKind)(n:Int):Int:=k.wrap ((BitVec.ofInt k.bits (-1) ^^^ BitVec.ofInt k.bits n).toNat:Int)
abbrev Fw:=Option (Nat × Option Int)
abbrev dec(s:ByteArray)(p:Nat):Nat × Nat:=Go.Utf8.decode s p
end Go.Sh
namespace Go.Pw
open Go.RowKit Go.Sh
theorem Kd{a b:ByteArray}(h:a.data.toList=b.data.toList):a=b:=by
 cases a;cases b;simp only[ByteArray.mk.injEq];exact Array.toList_inj.1 h
section
variable{P:Program}{σ:Nat->Option Row}{ρ:Operand->PV}{dst:Option Tmp}
theorem qt{w:World}{k:IntKind}{i:Int}{y:Nat}{c:BoundsCode}(h0:0<=i)(h:i<=y):(Instr.sliceBound (.int k i) y c).run P w = .ok i.toNat w:=by
 simp only[Instr.sliceBound,asIntOf,zp,rx,zh,zb (And.intro h0 h)]
theorem pW(s:ByteArray)(i j:Nat):s.extract i j=r9 (((Y9 s).take j).drop i):=by
 apply Kd;simp[ByteArray.data_extract,List.extract_eq_take_drop,List.drop_take]
theorem uj{w:World}{n:Nat}{l u:Option Value}{i j:Int}(h0:0<=i)(h1:i<=j)(h2:j<=n)(hl:(l=none/\i=0)\/∃k,l=some (.int k i))(hu:(u=none/\j=n)\/∃k,u=some (.int k j)) :
  (Instr.sliceBounds false n n l u none).run P w = .ok (i.toNat,j.toNat,n) w:=by
 have h3:i<=(j.toNat:Int):=by omega
 rcases hl with ⟨rfl,rfl⟩ | ⟨k,rfl⟩ <;> rcases hu with ⟨rfl,rfl⟩ | ⟨k',rfl⟩<;>
  (first | simp[Instr.sliceBounds,zp,rx,zh,qt,h0,h1,h2,h3,Int.le_trans h0 h1,qt (y:=j.toNat) h0 h3] | simp[Instr.sliceBounds,zp,rx,zh,qt,h0,h1,h2,h3,Int.le_trans h0 h1])
theorem CA{ev:Operand->Value}{x:Option Operand}{d n:Int}(h:xJ ρ x d n)(hr:∀y,x=some y->∀k n,ρ y = .int k n->ev y = .int k n):(x.map ev=none/\n=d)\/∃k,x.map ev=some (.int k n):=by
 cases x with
 | none=>exact .inl ⟨rfl,h⟩
 | some y=>obtain⟨k,hk⟩:=h;exact .inr ⟨k,or some (hr y rfl k n hk)⟩
theorem Uh{T:TypeId}{x:Operand}{lo hi:Option Operand}{s r:ByteArray}{i j:Int}(hv:FP s i j=some r)(hx:ρ x = .str s)(hlo:xJ ρ lo 0 i)(hhi:xJ ρ hi s.size j)(hT:P.underlying T=some .string) :
  B9 P σ ρ dst (.slice T x lo hi none) (.str r) .none:=by
 unfold FP at hv;split at hv;case isFalse=>cases hv
 rename_i hb;obtain⟨h0,h1,h2⟩:=hb;have hv:=u8 hv;refine .pureV _ _ (λ_=>nofun) (λ_ _=>nofun) λo w imm μ p7 ev ho hr=>?_;have e1:=hr x (by simp[Op.operands]);rw[hx] at e1;have e1:=e1.ga;have key:=uj (P:=P) (w:=w) h0 h1 h2 (CA hlo λy hy k n hk=>by
  have:=hr y (by simp[Op.operands,hy]);rw[hk] at this;exact this.J5) (CA hhi λy hy k n hk=>by
  have:=hr y (by simp[Op.operands,hy]);rw[hk] at this;exact this.J5)
 refine⟨.string (s.extract i.toNat j.toNat),?_,?_⟩
 .simp only[execOp,ho,Option.map_none];refine F0 ?_;simp only[Instr.sliceAt,Instr.slice,e1,zp,zO hT,zh,Option.isSome_none,zm,zY,key,rx]
 .rw[pW,<-hv];exact .cl (.str _)
theorem tj{t u:TypeId}{x y:Operand}{a b r:ByteArray}(hv:tJ a b=some r)(hx:ρ x = .str a)(hy:ρ y = .str b)(hT:P.underlying t=some .string):B9 P σ ρ dst (.binOp .add t x y u) (.str r) .none:=by
 unfold tJ at hv;split at hv;case isFalse=>cases hv
 rename_i hb;have hv:=u8 hv;refine .pureV _ _ (λ_=>nofun) (λ_ _=>nofun) λo w imm μ p7 ev ho hr=>?_;have e1:=hr x (by simp[Op.operands]);have e2:=hr y (by simp[Op.operands]);rw[hx] at e1;rw[hy] at e2;have e1:=e1.ga;have e2:=e2.ga;have hc:¬((a.size+b.size:Nat):Int) > IntKind.i64.max:=by
  have:IntKind.i64.max=9223372036854775807:=rfl;rw[this];omega
 refine⟨.string (a++b),?_,?_⟩
 .simp only[execOp,ho,e1,e2];refine F0 ?_;simp only[binOp,eqGuard,Op.stringOp,zp,zO hT,zh,rx,za hc];rfl
 .have:a++b=r:=by
   rw[<-hv];apply Kd;simp[ByteArray.data_append]
  rw[this];exact .cl (.str _)
end
abbrev Vw(s:ByteArray)(p:Nat):Row:=⟨[.mapc [.str s,.int .i64 (p:Nat)]],0,false,0,false⟩
section
variable{X:Ctx}{ops:Array Oper}{i:Nat}{os:List Oper}{K:Ctx->St->Prop}{env:Nat->PV}{σ:Nat->Option Row}{ty:TypeId}{pos:String}{after:Array Edge}{gd:Option (Nat × Bool)}{t:Tmp}
theorem NJ{T:TypeId}{x:Operand}{s:ByteArray}(l:Nat)(hw:B1 ops env ⟨some t,.range T x,ty,pos,after,gd⟩=some true)(hx:y5 env x = .str s)(hT:X.P.underlying T=some .string)(hn:σ l=none)
  (k:Sq X ops (i+1) os K ⟨w7 env t (.ptr l 0 0),w7 σ l (some (Vw s 0))⟩)(hl:MB<=l:=by exact zD rfl):Sq X ops i (⟨some t,.range T x,ty,pos,after,gd⟩::os) K ⟨env,σ⟩:=I7 λho=>gj ho hw (λc q=>by cases q) λg a w hs=>by
 have hxv:=hs.eval x;rw[show y5 (St.env ⟨env,σ⟩) x=_ from hx] at hxv;have e1:=hxv.ga;have hS:=hs.RL (l:=l) (o:=.stringIter s 0) (es:=[.str s,.int .i64 (0:Nat)]) rfl (λhp=>.inr ⟨s,0,hp,rfl⟩) hl hn;refine⟨.pointer (some ⟨w.heap.size,0,none⟩),w.alloc (.stringIter s 0),_,_,.ptr l 0 0,?_,hS,?_,k⟩
 .refine F0 ?_;simp only[Instr.range,e1,zp,zO hT,zh,rx];rfl
 .have:=Rd.ptr (w:=w.alloc (.stringIter s 0)) (imm:=g.imm) (μ:=w7 g.μ l ⟨some ⟨w.heap.size,0,none⟩,1,1,0⟩) (p7:=St.p7 ⟨env,w7 σ l (some (Vw s 0))⟩) l 0 0 w.heap.size 0 ⟨_,o8 _ _ _⟩ (or H6.A (o8 _ _ _));simp only[zbu,zaf] at this;exact this
theorem DH{P:Program}{w:World}{b:Nat}{s:ByteArray}{p:Nat}{ty:TypeId}(h:w.heap[b]? = some (.stringIter s p)) :
  (Instr.next (.pointer (some ⟨b,0,none⟩)) true ty).run P w=if p<s.size then .ok (.tuple #[.bool true,.int .i64 p,.int .i32 ((dec s p).1:Nat)]) (w.putObj b (.stringIter s (p+(dec s p).2))) else .ok (.tuple #[.bool false]) w:=by
 have hg:(getObj b).run P w = .ok (.stringIter s p) w:=by
  simp only[getObj,Sem.run,h]
 unfold Instr.next;simp only[zp,hg,zh];split
 .rename_i q;have hs:∀o,(setObj b o).run P w = .ok () (w.putObj b o):=λo=>by
   simp only[setObj,Sem.run,h];rfl
  simp only[zp,hs,zh,rx];rfl
 .rfl
theorem Sj{x:Operand}{l:Nat}{s:ByteArray}{p:Nat}(hw:B1 ops env ⟨some t,.next x true,ty,pos,after,gd⟩=some true)(hx:y5 env x = .ptr l 0 0)(hl:σ l=some (Vw s p))
  (kT:p<s.size->Sq X ops (i+1) os K ⟨w7 env t (.tup [.bool true,.int .i64 (p:Nat),.int .i32 ((dec s p).1:Nat)]),w7 σ l (some (Vw s (p+(dec s p).2)))⟩)
  (kF:¬p<s.size->Sq X ops (i+1) os K ⟨w7 env t (.tup [.bool false]),σ⟩)(hlm:MB<=l:=by exact zD rfl):Sq X ops i (⟨some t,.next x true,ty,pos,after,gd⟩::os) K ⟨env,σ⟩:=by
 have key:∀(g:Gh) (a:Act) (w:World),A3 X g ⟨env,σ⟩ a w->∃b,a.eval x = .pointer (some ⟨b,0,none⟩)/\(g.μ l).A=some ⟨b,0,none⟩/\w.heap[b]? = some (.stringIter s p):=λg a w hs=>by
  have hxv:=hs.eval x;rw[show y5 (St.env ⟨env,σ⟩) x=_ from hx] at hxv;obtain⟨_,b0,s0,hA,e⟩:=hxv.Y4;obtain⟨b,es,m1,m2,m3,m4,_⟩:=hs.maps.at_ l _ hlm hl;rw[hA] at m2;cases m2;cases m1;have hz:(g.μ l).z=0:=(hs.rows l _ hl).z;refine⟨b0,by rw[e,hz],hA,?_⟩;rcases m4 with ⟨ents,clock,q1,q2,q3⟩ | ⟨s',p',q1,q2⟩
  .have:0<ents.size:=by rw[q2];exact Nat.zero_lt_succ _
   obtain⟨k,v,k1,_⟩:=q3 0 ents[0] (zo this);cases k1
  .simp only[List.cons.injEq,PV.str.injEq,PV.int.injEq,true_and,and_true,Int.natCast_inj] at q2;obtain⟨rfl,rfl⟩:=q2;exact q1
 by_cases hp:p<s.size
 .refine I7 (λho=>gj ho hw (λc q=>by cases q) λg a w hs=>?_);obtain⟨b,e,hA,hb⟩:=key g a w hs;refine⟨_,_,_,_,_,F0 (by rw[e,DH hb,zb hp]),hs.o0 hlm hl rfl hA (o':=.stringIter s (p+(dec s p).2)) (es':=[.str s,.int .i64 ((p+(dec s p).2:Nat):Int)]) rfl (λ_ hq=>.inr ⟨s,_,hq,rfl⟩),?_,kT hp⟩;refine .cl (.tup _ _ rfl λi v c hv hc=>?_);match i with
  | 0=>simp at hv hc;subst hv;subst hc;exact .bool _
  | 1=>simp at hv hc;subst hv;subst hc;exact .int _ _
  | 2=>simp at hv hc;subst hv;subst hc;exact .int _ _
  | _+3=>simp at hv
 .refine I7 (λho=>gj ho hw (λc q=>by cases q) λg a w hs=>?_);obtain⟨b,e,hA,hb⟩:=key g a w hs;refine⟨_,w,g,⟨env,σ⟩,_,F0 (by rw[e,DH hb,za hp]),hs,?_,kF hp⟩;refine .cl (.tup _ _ rfl λi v c hv hc=>?_);match i with
  | 0=>simp at hv hc;subst hv;subst hc;exact .bool _
  | _+1=>simp at hv
end
theorem Uk{P:Program}{σ:Nat->Option Row}{ρ:Operand->PV}{dst:Option Tmp}{t:TypeId}{x:Operand}{k:IntKind}{n r:Int}(hx:ρ x = .int k n)(hk:k.signed=true)(hr:vF k n=r):B9 P σ ρ dst (.unOp .xor t x) (.int k r) .none:=by
 subst hr;refine .pureV _ _ (λ_=>nofun) (λ_ _=>nofun) λo w imm μ p7 ev ho hr=>?_;have e1:=hr x (by simp[Op.operands]);rw[hx] at e1;have e1:=e1.J5;refine⟨.int k (vF k n),?_,.cl (.int _ _)⟩;simp only[execOp,ho,e1];refine F0 ?_;simp only[Op.unary,hk,zU,Op.intBits];rfl
def Vv(e:Fw):PV:=match e with
 | none=>.nilfn
 | some (f,none)=>.fn (.func f) []
 | some (f,some n)=>.fn (.func f) [.rptr [.int .i64 n]]
def Yo(e:Fw):World->(Nat->Nat->Prop)->Value->Prop:=λw imm v=>Rd0 w imm v (Vv e)
abbrev AS(e:Fw):PV:=.abs (Yo e)
def PV.Ej:PV->PV
 | .fn (.func f) []=>AS (some (f,none))
 | .fn (.func f) [.rptr [.int .i64 n]]=>AS (some (f,some n))
 | .nilfn=>AS none
 | d=>d
def PV.KX:PV->PV
 | .agg cs=>.agg (cs.map PV.Ej)
 | d=>d.Ej
theorem ME{w:World}{imm:Nat->Nat->Prop}{v:Value}{e:Fw}(h:Rd0 w imm v (Vv e)):Rd0 w imm v (AS e):=
 .abs _ _ (by cases e with
  | none=>exact h.one rfl
  | some p=>obtain⟨f,n⟩:=p;cases n <;> exact h.one rfl) λw' imm' he=>h.mono he
theorem PV.KW{d:PV}(h:d.sc=true):d.Ej.sc=true:=by
 unfold PV.Ej;split <;> first | rfl | exact h
theorem Rd0.Ej{w:World}{imm:Nat->Nat->Prop}{v:Value}{d:PV}(h:Rd0 w imm v d):Rd0 w imm v d.Ej:=by
 unfold PV.Ej;split <;> first | exact ME (e:=some (_,none)) h | exact ME (e:=some (_,some _)) h | exact ME (e:=none) h | exact h
theorem Rd.Ej{w:World}{imm:Nat->Nat->Prop}{μ:Nat->H6}{p7:Nat->Prop}{v:Value}{d:PV}(h:Rd w imm μ p7 v d)(hc:d.fp=true):Rd w imm μ p7 v d.Ej:=.cl (h.fp hc).Ej
def PV.Wa:PV->Bool
 | .agg cs=>cs.all PV.fp
 | d=>d.fp
theorem Rd.KX{w:World}{imm:Nat->Nat->Prop}{μ:Nat->H6}{p7:Nat->Prop}{v:Value}{d:PV}(h:Rd w imm μ p7 v d)(hc:d.Wa=true):Rd w imm μ p7 v d.KX:=by
 by_cases e:∃cs,d = .agg cs
 .obtain⟨cs,rfl⟩:=e;obtain⟨vs,rfl,hn,hk⟩:=h.fL;have hsc:=h.Aw;refine .agg vs _ (zd.2 λc hc=>?_) (by simpa using hn) λi v c hv hc'=>?_
  .obtain⟨c0,h0,rfl⟩:=zI.1 hc;exact PV.KW (zd.1 hsc c0 h0)
  .obtain⟨c0,k1,rfl⟩:=dh hc';exact (hk i v c0 hv k1).Ej (zd.1 hc c0 (zg k1))
 .have:d.KX=d.Ej:=by cases d <;> first | rfl | exact absurd ⟨_,rfl⟩ e
  rw[this];exact h.Ej (by cases d <;> first | exact hc | exact absurd ⟨_,rfl⟩ e)
theorem Rd0.KX{w:World}{imm:Nat->Nat->Prop}{v:Value}{d:PV}(h:Rd0 w imm v d):Rd0 w imm v d.KX:=by
 by_cases e:∃cs,d = .agg cs
 .obtain⟨cs,rfl⟩:=e;cases h with
  | agg vs cs hsc hn hc=>
   refine .agg vs _ (zd.2 λc hc'=>?_) (by simpa using hn) λi v c hv hc'=>?_
   .obtain⟨c0,h0,rfl⟩:=zI.1 hc';exact PV.KW (zd.1 hsc c0 h0)
   .obtain⟨c0,k1,rfl⟩:=dh hc';exact (hc i v c0 hv k1).Ej
 .have:d.KX=d.Ej:=by cases d <;> first | rfl | exact absurd ⟨_,rfl⟩ e
  rw[this];exact h.Ej
theorem WH{P:Program}{σ:Nat->Option Row}{ρ:Operand->PV}{dst:Option Tmp}{KT VT:Type}[BEq KT]{EK:KT->PV}{E:VT->PV}{T kt et:TypeId}{x y:Operand}{ok:Bool}{es:List (KT × VT)}{k:KT}{zv:Value}{d z0:PV}(hx:ρ x = .abs (V5 (es.map (fP EK E))))(hy:ρ y=EK k)(hT:pq P T=some (kt,et))(hK:uw P kt EK)(hz:A2 P et=some zv)
  (hz0:(PV.iu zv).w1.KX=z0)(hd:(RH E (Go.Sh.y9 es k) z0 ok)=d):B9 P σ ρ dst (.lookup T x y ok) d .none:=LV (W:=λd=>d.w1.KX) (λq=>q.w1.KX) hx hy hT hK hz hz0 hd
theorem Ai{s:St}(t:Nat){d':PV}(h:(s.env t).KX=d')(hc:(s.env t).Wa=true):Wk s ⟨w7 s.env t d',s.σ⟩:=by
 subst h;exact Cj t rfl λ_ _ _ _ _ q=>q.KX hc
theorem NC{s:St}(t:Nat){e:Fw}{d:PV}(ht:s.env t=AS e)(he:Vv e=d):Wk s ⟨w7 s.env t d,s.σ⟩:=by
 subst he;refine Cj t ht λw imm μ p7 v q=>?_;exact .cl (show Rd0 w imm v (Vv e) from q.uR)
section
variable{X:Ctx}{ops:Array Oper}{i:Nat}{os:List Oper}{K:Ctx->St->Prop}{env:Nat->PV}{σ:Nat->Option Row}{ty:TypeId}{pos:String}{after:Array Edge}{gd:Option (Nat × Bool)}{t:Tmp}
theorem Xf{T E:TypeId}{x y:Operand}{z b:Nat}{k k':IntKind}{m:Nat}{v:Value}(hw:B1 ops env ⟨some t,.makeSlice T x y,ty,pos,after,gd⟩=some true)(hl:σ t=none)(hlm:t<MB)
  (hx:y5 env x = .int k 0)(hy:y5 env y = .int k' (m:Int))(hE:B0 X.P T=some E)(hz:u0 X.P E=some z)(hv:A2 X.P E=some v)(hb:K7 X.P E=some b)(hbm:b*m<=281474976710656)(hm:m<=9223372036854775807)
  (kk:Sq X ops (i+1) os K ⟨w7 env t (.sl t),w7 σ t (some ⟨[],0,true,z,true⟩)⟩):Sq X ops i (⟨some t,.makeSlice T x y,ty,pos,after,gd⟩::os) K ⟨env,σ⟩:=I7 λho=>gj ho hw (λc q=>by cases q) λg a w hs=>by
 have e1:=hs.eval x;rw[show y5 (St.env ⟨env,σ⟩) x=_ from hx] at e1;have e2:=hs.eval y;rw[show y5 (St.env ⟨env,σ⟩) y=_ from hy] at e2;obtain⟨i,hi,rfl,rfl,hiz⟩:=Bc hz hb hv;have hr:=run_make (P:=X.P) w T E i v (K8 hE) hi hiz k k' 0 m (q9 _) (by omega) (by rw[<-Int.natCast_mul];omega) (by omega);have h1:=hs.tG (l:=t) (els:=[]) (T:=E) (C:=m) (z:=i.size) (opn:=true) (cl:=true) (madeCells v.cells (m*i.size)) hlm hl (t8 _) (by simp[madeCells]) (λx hx=>by cases hx) (λi' x j y u hx=>by simp at hx);refine⟨.slice (some ⟨w.heap.size,0,none⟩) 0 m,_,_,_,.sl t,?_,h1,?_,kk⟩
 .simp only[execOp,e1.J5,e2.J5];refine F0 ?_;simpa using hr
 .exact dy (l:=t) (m:=⟨some ⟨w.heap.size,0,none⟩,0,m,i.size⟩) ⟨_,o8 _ _ _⟩ (o8 _ _ _)
end
section
variable{X:Ctx}{ops:Array Oper}{i:Nat}{os:List Oper}{K:Ctx->St->Prop}{env:Nat->PV}{σ:Nat->Option Row}
theorem rD{n:Nat}{P:Program}{ρ:Option Nat}{Qo:Exit->Act->World->Prop}{o:Oper}{is:List Nat}{a:Act}{w w':World}{v:Value}(ho:ops[i]? = some o)(hg:o.guard=none)(hnd:∀c,o.op ≠ .defer c)(hr:(execOp a.eval o).run P w = .ok (.value v) w')
  (k:wpOpsIn (FX ρ) n P ops Qo is (a.put o.dst v) w'):wpOpsIn (FX ρ) n P ops Qo (i::is) a w:=by
 rw[wpOpsIn_cons];unfold wpOpIn;rw[ho];simp only;rw[zb (by unfold Region.wanted;rw[hg])];exact D2 hnd hr k
theorem Vq{α:Type}{f:α->PV}{T T1 T2 E:TypeId}{x lo y:Operand}{t1 t2 t3:Tmp}{l z:Nat}{xs ys zs:List α}{k:IntKind}{m:Int}{opn tt:Bool}{ty1 ty2 ty3:TypeId}{p1 p2 p3:String}{aft1 aft2 aft3:Array Edge}
  (hv:CE xs m ys=some zs)(hx:y5 env x = .sl l)(hl:σ l=some ⟨xs.map f,0,opn,z,true⟩)(hlo:y5 env lo = .int k m)(hy:y5 (w7 env t1 .junk) y = .G8 tt (ys.map f))(h12:t1≠t2)
  (hE:B0 X.P T=some E)(hE1:B0 X.P T1=some E)(hz:u0 X.P E=some z)(hzz:∀e,(f e).cells.length=z)(hzp:0<z)
  (kk:Sq X ops (i+3) os K ⟨w7 (w7 (w7 env t1 .junk) t2 (.G8 tt (ys.map f))) t3 (.int .i64 ys.length),w7 σ l (some ⟨zs.map f,0,opn,z,true⟩)⟩) :
  Sq X ops i (⟨some t1,.slice T x (some lo) none none,ty1,p1,aft1,none⟩::⟨some t2,.move y,ty2,p2,aft2,none⟩::⟨some t3,.call { callee:=.builtin .copy,args:=#[.tmp t1,.tmp t2],argTypes:=#[T1,T2] },ty3,p3,aft3,none⟩::os) K ⟨env,σ⟩:=λhd hi n g a w Qo hs hq=>by
 unfold CE at hv;split at hv;case isFalse=>cases hv
 rename_i hb;obtain⟨hm0,hmn⟩:=hb;have hv:=u8 hv;have o1:=hi 0;have o2:=hi 1;have o3:=hi 2;simp only[m8,zag,zaf] at o1 o2 o3;show wpOpsIn (FX X.ρ) n X.P ops Qo (i::(i+1)::(i+2)::List.range' (i+3) os.length) a w;have hxv:=hs.eval x;rw[show y5 (St.env ⟨env,σ⟩) x=_ from hx] at hxv;obtain⟨hp,e⟩:=hxv.bz;have hR:=hs.rows l _ hl;have hmz:(g.μ l).z=z:=hR.z;have hnn:xs.length=(g.μ l).n:=by have:=hR.n;simpa using this.symm
 have hC:(g.μ l).n<=(g.μ l).C:=hR.C;generalize hM:m.toNat=M at *;have hmM:m=(M:Int):=by omega
 have hr1:=lS (P:=X.P) hs (A:=(g.μ l).A) (lo:=some lo) (hi:=none) (mx:=none) (len:=(g.μ l).n) (cap:=(g.μ l).C) (i:=M) (j:=(g.μ l).n) (k:=(g.μ l).C) hE hz ⟨k,by rw[show y5 (St.env ⟨env,σ⟩) lo=_ from hlo,hmM]⟩ rfl rfl (λq=>by cases q) (by omega) hC (zq _);generalize hA1:(if (g.μ l).C=M then (g.μ l).A else (g.μ l).A.map (·.add (M*z)))=A1 at hr1;have d1:=F4 hd o1.symm;have d2:=F4 hd o2.symm;have d3:=F4 hd o3.symm;have s1:=hs.put (v:=.slice A1 ((g.μ l).n-M) ((g.μ l).C-M)) (d:=.junk) d1 (.cl (.junk _));refine rD o1.symm rfl (λc q=>by cases q) (by simp only[execOp,e];exact F0 hr1) ?_;have hyv:=s1.eval y;rw[show y5 (St.env ⟨P8 env (some t1) .junk,σ⟩) y=_ from hy] at hyv;refine rD o2.symm rfl (λc q=>by cases q) (v:=(a.put (some t1) (.slice A1 ((g.μ l).n-M) ((g.μ l).C-M))).eval y) (w':=w) rfl ?_;have s2:=s1.put (v:=(a.put (some t1) (.slice A1 ((g.μ l).n-M) ((g.μ l).C-M))).eval y) (d:=.G8 tt (ys.map f)) d2 hyv;generalize hau:(a.put (some t1) (.slice A1 ((g.μ l).n-M) ((g.μ l).C-M))).eval y=U at *;have n1:t1<a.tmps.size:=by rw[hs.size];exact d1 _ rfl
 have n2:t2<a.tmps.size:=by rw[hs.size];exact d2 _ rfl
 show wpOpsIn (FX X.ρ) n X.P ops Qo ((i+2)::List.range' (i+3) os.length) ((a.put (some t1) (.slice A1 ((g.μ l).n-M) ((g.μ l).C-M))).put (some t2) U) w;have et1:((a.put (some t1) (.slice A1 ((g.μ l).n-M) ((g.μ l).C-M))).put (some t2) U).eval (.tmp t1) = .slice A1 ((g.μ l).n-M) ((g.μ l).C-M):=by
  simp[Act.put,Act.eval,zE,m9,h12.symm,n1]
 have et2:((a.put (some t1) (.slice A1 ((g.μ l).n-M) ((g.μ l).C-M))).put (some t2) U).eval (.tmp t2)=U:=by
  simp[Act.put,Act.eval,zE,m9,n2]
 generalize ((a.put (some t1) (.slice A1 ((g.μ l).n-M) ((g.μ l).C-M))).put (some t2) U)=a3 at *;have hu:Rd w g.imm g.μ (St.p7 ⟨w7 (w7 env t1 .junk) t2 (.G8 tt (ys.map f)),σ⟩) U (.G8 tt (ys.map f)):=by
  have:=s2.eval (.tmp t2);rw[et2] at this;have e2:y5 (St.env ⟨w7 (w7 env t1 .junk) t2 (.G8 tt (ys.map f)),σ⟩) (.tmp t2) = .G8 tt (ys.map f):=by
   exact (zb (zbg (d2 _ rfl) hs.big.1)).trans (o8 _ _ _)
  rw[show y5 (St.env ⟨P8 (St.env ⟨P8 env (some t1) .junk,σ⟩) (some t2) (.G8 tt (ys.map f)),σ⟩) (.tmp t2) = .G8 tt (ys.map f) from e2] at this;exact this
 obtain⟨B,cB,vals,eB,hyel,hlv,hvr,hone,hvc⟩:=Src.reads (cl:=true) s2 hu (.inl ⟨tt,rfl,rfl⟩) (z:=z) (λy hy=>by obtain⟨e,_,rfl⟩:=zI.1 hy;exact hzz e);have hly:(ys.map f).length=ys.length:=by simp
 rw[hly] at eB hlv hvc;have hu':=K8 hE1;have hmin:Nat.min ys.length ((g.μ l).n-M)=ys.length:=zb4 (by omega);obtain⟨cs,hc⟩:=X9 (a:=a3) (o:=⟨some t3,.call { callee:=.builtin .copy,args:=#[.tmp t1,.tmp t2],argTypes:=#[T1,T2] },ty3,p3,aft3,none⟩) rfl;have hfc:(Builtin.firstCells z ys.length U).run X.P w = .ok vals.toArray w:=by
  rw[eB];rcases n8 ys.length with q | q
  .have h0:vals = []:=zG (by rw[hlv,q,zbu]);subst h0;rw[q];cases B <;> simp[Builtin.firstCells,loadCells,loadCellsFrom]
  .obtain⟨bB,sB,rfl,hBc⟩:=hvc q;exact run_firstCells_some (P:=X.P) w z ys.length ⟨bB,sB,none⟩ ys.length cB vals hlv (λj u hj=>by rw[H7];exact hBc j u hj)
 have hrun:∀w',(∀A,A1=some A->(storeCells A vals).run X.P w = .ok () w')->(A1=none->w'=w)->(Builtin.copy_ #[T1,T2] ty3 #[.slice A1 ((g.μ l).n-M) ((g.μ l).C-M),U]).run X.P w = .ok (.int .i64 ys.length) w':=by
  intro w' h1 h2;have hle:(Builtin.lenOf U).run X.P w = .ok ys.length w:=by rw[eB];rfl
  cases hA:A1 with
  | none=>
   have:=h2 hA;subst this;simp only[Builtin.copy_,zp,zO hu',zh,hle,hmin,C7 hz,hfc,zb8,m8,zag];rfl
  | some A=>
   have:=h1 A hA;simp only[Builtin.copy_,zp,zO hu',zh,hle,hmin,C7 hz,hfc,zb8,m8,zag,this];rfl
 have hargs:(#[.tmp t1,.tmp t2]:Array Operand).map a3.eval = #[.slice A1 ((g.μ l).n-M) ((g.μ l).C-M),U]:=by simp[et1,et2]
 have fin:∀g' w' σ',σ'=w7 σ l (some ⟨zs.map f,0,opn,z,true⟩)->A3 X g' ⟨w7 (w7 env t1 .junk) t2 (.G8 tt (ys.map f)),σ'⟩ a3 w'->wpOpsIn (FX X.ρ) n X.P ops Qo (List.range' (i+3) os.length) (a3.put (some t3) (.int .i64 ys.length)) w':=λg' w' σ' eσ hS=>by
  subst eσ;exact kk hd (λj=>by have:=hi (j+3);simpa[so,za6 3 j] using this) n g' _ w' Qo (hS.put d3 (.cl (.int _ _))) hq
 have ezs:zs.map f=(xs.map f).take M++(ys.map f++(xs.map f).drop (M+ys.length)):=by
  rw[<-hv];simp[List.map_take,List.map_drop]
 rcases n8 ys.length with hy0 | hy0
 .have h0:ys = []:=zG hy0;have hv0:vals = []:=zG (by rw[hlv,hy0,zbu]);subst hv0;refine rD o3.symm rfl (λc q=>by cases q) (v:=.int .i64 ys.length) (w':=w) (by rw[hc,hargs];exact F0 (hrun w (λA _=>rfl) (λ_=>rfl))) ?_;refine fin g w σ ?_ s2;have:zs=xs:=by rw[<-hv,h0];simp
  rw[this];funext k
  by_cases e:k=l
  .subst e;rw[o8];exact hl
  .rw[o5 _ _ e]
 .have hv0:0<vals.length:=by rw[hlv];exact Nat.mul_pos hy0 hzp
  obtain⟨b,s,hA⟩:=hR.spot (by omega);have hA1':A1=some ⟨b,s+M*z,none⟩:=by
   rw[<-hA1,za (by omega),hA,wd,H7]
  have hmine:∀j,j<vals.length->G9 (g.μ l) ⟨xs.map f,0,opn,z,true⟩ b (s+M*z+j):=λj hj=>⟨s,hA,by simp;omega,by
   have:(M+ys.length)*z<=(if opn then (g.μ l).C else (g.μ l).n)*(g.μ l).z:=by rw[hmz];exact zn _ (by split <;> omega)
   rw[we] at this;show s+M*z+j<s+(if opn=true then (g.μ l).C else (g.μ l).n)*(g.μ l).z;omega⟩
  have hst:=run_storeCells_cells (P:=X.P) b (s+M*z) vals 0 w (λj hj=>by simpa using (hR.own b _ (hmine j hj)).2.1) (λj hj=>by simpa using (hR.own b _ (hmine j hj)).2.2) (λu hu=>by rw[<-Br];exact hone u hu);simp only[zaf] at hst;refine rD o3.symm rfl (λc q=>by cases q) (v:=.int .i64 ys.length) (w':=w.setCells b (s+M*z) vals) (by rw[hc,hargs];exact F0 (hrun _ (λA hA'=>by rw[hA1'] at hA';cases hA';exact hst) (λq=>by rw[hA1'] at q;cases q))) ?_;have hlM:((xs.map f).take M).length=M:=by simp;omega
  have hW:=s2.write (l:=l) (r:=⟨xs.map f,0,opn,z,true⟩) (b:=b) (o:=s+M*z) (vs:=vals) (els:=zs.map f) (cl:=true) hl hmine (by rw[ezs];simp;omega)
   (λx hx=>by
    obtain⟨e,_,rfl⟩:=zI.1 hx;refine⟨?_,hzz e⟩;rw[ezs] at hx;rcases zw.1 hx with q | q
    .exact (hR.el _ (zah q)).1
    .rcases zw.1 q with q | q
     .exact hyel _ q
     .exact (hR.el _ (zal q)).1)
   (λi x j y hx hy=>by
    rw[ezs] at hx;rcases zB i M with q | q
    .rw[zN (by rw[hlM];exact q),List.getElem?_take,zb q] at hx;obtain⟨b',s',u,k1,k2,k3,k4,k5⟩:=hR.cell i x j y hx hy;rw[hA] at k1;cases k1;have hj:=PV.C1 hy;have hxz:x.cells.length=z:=(hR.el x (zg hx)).2;refine⟨b,s,u,hA,?_,?_,k4,k5⟩
     .rw[pi b vals (s+M*z) w _ λ_ _=>?_];·exact k2
      .left;have:(i+1)*(g.μ l).z<=M*z:=by rw[hmz];exact zn _ (by omega)
       rw[we,zaw] at this;simp only;rw[hmz] at this |-;omega
     .exact k3.mono (Ext.refl _ _) λl' hl'=>⟨hl',rfl⟩
    .rw[zM (by rw[hlM];exact q),hlM] at hx;rcases zB (i-M) ys.length with q2 | q2
     .rw[zN (by rw[hly];exact q2)] at hx;have hxz:x.cells.length=z:=by
       obtain⟨e,_,rfl⟩:=zI.1 (zg hx);exact hzz e
      have hj:=PV.C1 hy;have hlt:(i-M)*z+j<vals.length:=by
       have:(i-M+1)*z<=ys.length*z:=zn _ (by omega);rw[we,zaw] at this;omega
      have hrd:=hvr (i-M) x j y _ hx hy (zc hlt);have hin:=my b vals (s+M*z) w (λj' hj'=>(hR.own b _ (hmine j' hj')).2.1) _ hlt;have ei:s+i*z+j=s+M*z+((i-M)*z+j):=by
       have:i*z=M*z+(i-M)*z:=by rw[<-we];congr 1;omega
       omega
      exact⟨b,s,_,hA,by rw[hmz,ei];exact hin,hrd.1,λq'=>by simp at q',λ_=>hrd.2 rfl⟩
     .rw[zM (by rw[hly];exact q2),hly,sm,show M+ys.length+(i-M-ys.length)=i by omega] at hx;obtain⟨b',s',u,k1,k2,k3,k4,k5⟩:=hR.cell i x j y hx hy;rw[hA] at k1;cases k1;refine⟨b,s,u,hA,?_,?_,k4,k5⟩
      .rw[pi b vals (s+M*z) w _ λ_ _=>?_];·exact k2
       .right;have:(M+ys.length)*z<=i*(g.μ l).z:=by rw[hmz];exact zn _ (by omega)
        rw[we] at this;simp only;omega
      .exact k3.mono (Ext.refl _ _) λl' hl'=>⟨hl',rfl⟩) hv0
  exact fin g _ _ rfl hW
end
def Xr(cap:List PV):Prop:=cap = []\/∃c,cap = [.rptr [.int .i64 c]]
theorem Hh{P:Program}{σ:Nat->Option Row}{ρ:Operand->PV}{dst:Option Tmp}{f:FuncId}{args:Array Operand}{ts:Array TypeId}{x:Operand}{ds vs cap:List PV}{ls:List Nat}{d:PV}(hx:ρ x = .fn (.func f) cap)(hc:Xr cap)(hk:x8 P f)(ha:args.toList.map ρ=ds)(h:N7 P f (vs++cap) d)
  (hok:ds.all (PV.ky σ)=true:=by rfl)(hv:ds.map (PV.vw σ)=vs:=by rfl)(hl:ds.flatMap (PV.L0 σ)=ls:=by rfl):B9 P σ ρ dst (.call { callee:=.value x,args,argTypes:=ts }) d (.mo ls):=by
 subst ha;subst hv;subst hl;have key:cap.all (PV.ky σ)=true/\cap.map (PV.vw σ)=cap/\cap.flatMap (PV.L0 σ) = []:=by
  rcases hc with rfl | ⟨c,rfl⟩
  .exact⟨rfl,rfl,rfl⟩
  .exact⟨rfl,rfl,rfl⟩
 obtain⟨k1,k2,k3⟩:=key;have:=B9.callF (P:=P) (σ:=σ) (dst:=dst) f args ts cap d x hx hk (by rw[List.all_append,hok,k1];rfl) (by rw[zad,k2];exact h);rw[List.flatMap_append,k3,p0] at this;exact this
theorem WJ{P:Program}{σ:Nat->Option Row}{ρ:Operand->PV}{dst:Option Tmp}{T E:TypeId}{x:Operand}{xs:List Int}{n:Nat}{ds:List PV}(hx:ρ x = .rptr ds)(hds:ds=xs.map (PV.int .i64))(hT:Cc P T=some (n,E))(hn:xs.length=n)(hs:u0 P E=some 1):B9 P σ ρ dst (.slice T x none none none) (.G8 true (xs.map (PV.int .i64))) .none:=by
 subst hds;refine .pureV _ _ (λ_=>nofun) (λ_ _=>nofun) λo w imm μ p7 ev ho hr=>?_;have h1:=hr x (by simp[Op.operands]);rw[hx] at h1;obtain⟨b,off,u,e,_,hc⟩:=h1.bG;have hu:P.underlying T=some (.array n E):=by
  unfold Cc at hT;split at hT;·rename_i h';cases hT;exact h'
  .cases hT
 refine⟨.slice (some ⟨b,off,none⟩) (xs.map (PV.int .i64)).length n,?_,.cl (.G8 _ n 1 true _ (λi _=>u i) (by simp[hn]) (λ_=>by simp[hn]) (λq=>by cases q) (λy hy=>by obtain⟨i,_,rfl⟩:=zI.1 hy;exact⟨rfl,rfl⟩) (λ_=>⟨b,off,rfl,λi y j z hy hz=>?_⟩) λi y j z hy hz=>?_)⟩
 .simp only[execOp,ho,Option.map_none];refine F0 ?_;have key:=uj (P:=P) (w:=w) (n:=n) (l:=none) (u:=none) (i:=0) (j:=n) (q9 _) (by omega) (q9 _) (.inl ⟨rfl,rfl⟩) (.inl ⟨rfl,rfl⟩);simp only[Instr.sliceAt,Instr.sureAddr,e,zp,zO hu,zh,rx,key,C7 hs,wt,hn];have:(if n=(0:Int).toNat then (⟨b,off,none⟩:Addr) else Addr.add ⟨b,off,none⟩ ((0:Int).toNat*1))=⟨b,off,none⟩:=by
   split;·rfl
   .rfl
  rw[this];simp
 .have hj:j=0:=by
   obtain⟨v,_,rfl⟩:=zI.1 (zg hy);have:=(zx.1 hz).1;simp[PV.cells] at this;exact this
  subst hj;have hz':(xs.map (PV.int .i64))[i]? = some z:=by
   obtain⟨v,_,rfl⟩:=zI.1 (zg hy);have hz2:z = .int .i64 v:=by simpa[PV.cells] using hz.symm
   rw[hz2];exact hy
  obtain⟨q1,q2,_⟩:=hc i z hz';rw[zbx,zaf];exact⟨q1,q2⟩
 .have hj:j=0:=by
   obtain⟨v,_,rfl⟩:=zI.1 (zg hy);have:=(zx.1 hz).1;simp[PV.cells] at this;exact this
  subst hj;have hz':(xs.map (PV.int .i64))[i]? = some z:=by
   obtain⟨v,_,rfl⟩:=zI.1 (zg hy);have hz2:z = .int .i64 v:=by simpa[PV.cells] using hz.symm
   rw[hz2];exact hy
  exact (hc i z hz').2.2
theorem bytes_beq(a b:ByteArray):(a==b)=true↔a=b:=by
 obtain⟨x⟩:=a;obtain⟨y⟩:=b;constructor
 .intro h;have e:x=y:=by simpa using (show (x==y)=true from h)
  rw[e]
 .intro h;have e:x=y:=or ByteArray.data h;show (x==y)=true;simpa using e
theorem tY{n:ByteArray}:∀(ents:List MapEntry) (ks:List ByteArray) (i0:Nat),ents.length=ks.length->(∀(i:Nat) e k,ents[i]? = some e->ks[i]? = some k->e.key = .string k) ->
  Instr.findNow .string (.string n) ents i0=some ((lx ks n).bind λi=>ents[i]?.map λe=>(i0+i,e.val))
 | [],[],i0,_,_=>rfl
 | e::ents,[],_,h,_=>by simp at h
 | [],k::ks,_,h,_=>by simp at h
 | e::ents,k::ks,i0,hl,h=>by
  have h0:=h 0 e k rfl rfl;rw[Instr.findNow,h0,lx];simp only[Instr.sameNow];cases q:(n==k)
  .simp only[zm,zY];rw[tY ents ks (i0+1) (by simpa using hl) λi e' k' h1 h2=>h (i+1) e' k' (by simpa using h1) (by simpa using h2)];cases lx ks n with
   | none=>rfl
   | some j=>
    simp only[zbq,wd,zag];rw[so,za6 1 j]
  .simp
theorem K0{P:Program}{kt:TypeId}(h:P.underlying kt=some .string):uw P kt PV.str where
 check b hr:=by
  cases hr
  unfold Instr.checkKey
  simp only[zp,zO h,zh]
  rfl
 find ents ks hr hk:=by
  cases hr
  unfold Instr.findKey
  simp only[zp,zO h,zh]
  rw[tY ents ks 0 hk.1 λi e k h1 h2=>by
   have:=hk.2 i e k h1 h2
   cases hq:e.key <;> rw[hq] at this <;> cases this
   rfl]
  simp only[zab]
  rfl
 stays h1 h2 he:=by
  cases h1
  cases h2
  rename_i k u
  have:k=u:=(bytes_beq k u).1 he
  subst this
  unfold Instr.keyThatStays
  rw[zb (by simp only[Instr.sameBits];exact he)]
  rfl
 fp k:=⟨rfl,rfl⟩
 eq k u h:=(bytes_beq k u).1 h
end Go.Pw
namespace Go.Sh
def CG:Nat->Nat->List UInt8
 | 0,_=>[]
 | k+1,u=>if u<10 then [UInt8.ofNat (48+u)] else CG k (u / 10) ++ [UInt8.ofNat (48+u % 10)]
def nQ(n:Int):Option ByteArray:=if -9223372036854775808<=n/\n<=9223372036854775807 then some (r9 (if n<0 then 45::CG 20 n.natAbs else CG 20 n.toNat)) else none
def tN(s sep:ByteArray):Option (List ByteArray):=if s.size<4294967281/\1<=sep.size then some (Go.Lib.splitB sep 0 (Go.Lib.countB s sep) s) else none
theorem AJ:∀(k u:Nat),u<10 ^ (k+1)->CG (k+1) u=Go.Lib.decDigits u
 | 0,u,h=>by
  rw[CG,Go.Lib.decDigits,zb (by simpa using h),dif_pos (by simpa using h)]
 | k+1,u,h=>by
  rw[CG,Go.Lib.decDigits];split;·rfl
  .rw[AJ k (u / 10) (by rw[Nat.pow_succ] at h;omega)]
end Go.Sh
namespace Go.Pw
open Go.RowKit Go.Sh Go.Proofs Go.Shelf Go.Sort
variable{P:Program}{ρ:Ren}
theorem Ql(L:LaysM.n171 P ρ)(hn:P.globalNamed (DS P)≠none)(ht:∀w,Lib.TabIs P w (DS P) .u64 Lib.pow10Tab->∀n:Int,-9223372036854775808<=n->n<=9223372036854775807->Calls P (ρ.f 171) #[.int .i64 n] w λe w'=>e = .returned (.string ⟨(Lib.itoa n).toArray⟩)/\∃k os,w'=grow (w.drewN k) os){n:Int}{r:ByteArray}(h:nQ n=some r):N7 P (ρ.f 171) [.int .i64 n] (.str r):=by
 unfold nQ at h;split at h;case isFalse=>cases h
 rename_i hb;have h:=u8 h;intro w imm vs hlt hG hr;obtain⟨g,hg⟩:=Option.ne_none_iff_exists'.1 hn;have hT:=hG.1 g hg;have hvs:vs = #[.int .i64 n]:=by
  obtain⟨h1,h2⟩:=hr;have h3:vs.size=1:=h1;have:=h2 0 vs[0] (.int .i64 n) (zo (by omega)) rfl;apply Array.ext (by simpa using h3);intro i q1 q2;have hi:i=0:=by simp at q2;exact q2
  subst hi;show vs[0]=Value.int .i64 n;generalize vs[0]=v at this;cases this;rfl
 subst hvs;refine (ht w hT n hb.1 hb.2).mono λe w' ⟨he,k,os,hw⟩=>⟨_,he,by rw[hw];exact wc k os,?_⟩;have:(⟨(Lib.itoa n).toArray⟩:ByteArray)=r:=by
  rw[<-h];unfold Lib.itoa;congr 1;split;·rw[AJ 19 _ (by omega)]
  .rw[AJ 19 _ (by omega)]
 rw[this];exact .str _
theorem Mt(L:Lays.n146 P ρ)(hi9:(P.info? (ρ.t 9)).map (λi=>(i.zero,i.size,i.bytes))=some (some (.string ByteArray.empty),1,16))(hM:Ws=some (ρ.g 1)){s sep:ByteArray}{xs:List ByteArray}(h:tN s sep=some xs):N7 P (ρ.f 146) [.str s,.str sep] (.G8 false (xs.map PV.str)):=by
 unfold tN at h;split at h;case isFalse=>cases h
 rename_i hb;have h:=u8 h;intro w imm vs hlt hG hr;obtain⟨m,hm⟩:=hG.2 _ hM;have hvs:vs = #[.string s,.string sep]:=by
  obtain⟨h1,h2⟩:=hr;have h3:vs.size=2:=h1;have k0:=h2 0 vs[0] (.str s) (zo (by omega)) rfl;have k1:=h2 1 vs[1] (.str sep) (zo (by omega)) rfl;apply Array.ext (by simpa using h3);intro i q1 q2;rcases i with _ | _ | i
  .show vs[0]=Value.string s;generalize vs[0]=v at k0;cases k0;rfl
  .show vs[1]=Value.string sep;generalize vs[1]=v at k1;cases k1;rfl
  .simp at q2;omega
 subst hvs;have hlen:=Lib.splitB_all sep hb.2 0 _ s rfl;refine (Any.strings_Split L hi9 s sep m w hb.1 hm hb.2).mono λe w' ⟨he,hw⟩=>⟨_,he,by rw[hw];exact (jf.refl _ _).alloc (zq _) _,?_⟩;rw[h] at hlen hw;have hx:(xs.map PV.str).length=Lib.countB s sep+1:=by simpa using hlen
 rw[<-hx];subst hw;refine .G8 _ _ 1 false _ (λi _=>.string (xs.getD i ByteArray.empty)) (zq _) (λq=>by cases q) (λq=>by cases q) (λy hy=>by obtain⟨i,_,rfl⟩:=zI.1 hy;exact⟨rfl,rfl⟩) (λ_=>⟨w.heap.size,0,rfl,λi y j z hy hz=>?_⟩) λi y j z hy hz=>?_
 .rw[zL] at hy;cases hq:xs[i]? with
  | none=>rw[hq] at hy;cases hy
  | some v=>
   rw[hq] at hy;cases hy;have hj:j=0:=by
    have:=(zx.1 hz).1;simp[PV.cells] at this;exact this
   subst hj;have hl:=(zx.1 hq).1;refine⟨.inr ⟨zq _,by simp⟩,?_⟩;rw[zb7];simp[hq,zf]
 .rw[zL] at hy;cases hq:xs[i]? with
  | none=>rw[hq] at hy;cases hy
  | some v=>
   rw[hq] at hy;cases hy;have hj:j=0:=by
    have:=(zx.1 hz).1;simp[PV.cells] at this;exact this
   subst hj;have hz2:z = .str v:=by simpa[PV.cells] using hz.symm
   subst hz2;simp only[zf,hq,zR];exact .str _
end Go.Pw
namespace Go.Pw
open Go.RowKit Go.Sh
abbrev qk{α:Type}(f:α->PV)(xs:List α)(k r:Nat):List PV:=(xs.map f).set k (.sl r)
theorem Wj{α:Type}{xs:List α}{i:Int}{v:α}(h:ix xs i=some v):i.toNat<xs.length:=(zx.1 (wm h).2).1
section
variable{X:Ctx}{g:Gh}{st:St}{a:Act}{w:World}
theorem A3.RU(h:A3 X g st a w){l0 k:Nat}{r0:Row}{y y':PV}{cl':Bool}(hl:st.σ l0=some r0)(hlm:l0<MB)(hk:r0.els[k]? = some y)(hyc:y.cells = [y])(hyc':y'.cells = [y'])(hel:y'.el=true)
  (hr:∀b s v,(g.μ l0).A=some ⟨b,s,none⟩->w.cell? ⟨b,s+k*(g.μ l0).z+0,none⟩=some v->Rd w g.imm g.μ st.p7 v y->Rd w g.imm g.μ st.p7 v y')
  (hcl:cl'=true->∀(i:Nat) x (j:Nat) c,(r0.els.set k y')[i]? = some x->x.cells[j]? = some c->c.fp=true) :
  A3 X g ⟨st.env,w7 st.σ l0 (some ⟨r0.els.set k y',r0.lo,r0.opn,r0.z,cl'⟩)⟩ a w:=by
 have hp:∀l,st.p7 l->St.p7 ⟨st.env,w7 st.σ l0 (some ⟨r0.els.set k y',r0.lo,r0.opn,r0.z,cl'⟩)⟩ l/\g.μ l=g.μ l:=by
  rintro l ⟨r,hr⟩;refine⟨?_,rfl⟩;by_cases e:l=l0
  .subst e;exact⟨_,o8 _ _ _⟩
  .exact⟨r,by rw[<-hr];exact o5 _ _ e⟩
 have hR:=h.rows l0 r0 hl;have hkl:=(zx.1 hk).1;have hyl:=hR.el y (zg hk);have hz1:r0.z=1:=by rw[<-hyl.2,hyc];rfl
 have hcase:∀l r,w7 st.σ l0 (some ⟨r0.els.set k y',r0.lo,r0.opn,r0.z,cl'⟩) l=some r->∃r1,st.σ l=some r1/\(∀b o,G9 (g.μ l) r b o->G9 (g.μ l) r1 b o):=by
  intro l r q;by_cases e:l=l0
  .subst e;rw[o8] at q;cases q;exact⟨r0,hl,λ_ _ q=>q⟩
  .rw[o5 _ _ e] at q;exact⟨r,q,λ_ _ q=>q⟩
 refine⟨h.size,λi=>(h.env i).mono (Ext.refl _ _) hp,λl r q=>?_,λl l' r r' hne q q' b o ho k=>?_,λl r b o q ho=>?_,h.immlt,h.immsub,h.immsup,h.below,h.marks,h.obs,h.big,h.maps.w7 hl (λq=>absurd hlm (Nat.not_lt.2 q)) λq=>absurd hlm (Nat.not_lt.2 q)⟩
 .by_cases e:l=l0
  .subst e;rw[show (St.mk st.env (w7 st.σ l (some ⟨r0.els.set k y',r0.lo,r0.opn,r0.z,cl'⟩))).σ l=_ from o8 _ _ _] at q;cases q;refine⟨by rw[hR.n];simp,hR.z,hR.C,by simpa using hR.lo,λz hz=>?_,hR.nil,hR.spot,λi z j c hz hc=>?_,λb o ho=>hR.own b o ho⟩
   .rcases zaa hz with q | rfl
    .exact hR.el z q
    .exact⟨hel,by rw[hyc',hz1];rfl⟩
   .by_cases ei:i=k
    .subst ei;rw[ms hkl] at hz;cases hz;rw[hyc'] at hc;have hj:j=0:=by
      have:=(zx.1 hc).1;simpa using this
     subst hj;cases hc;obtain⟨b,s,u,k1,k2,k3,k4,k5⟩:=hR.cell i y 0 y hk (by rw[hyc];rfl);have h3:=(hr b s u k1 k2 k3).mono (Ext.refl _ _) hp;exact⟨b,s,u,k1,k2,h3,k4,λq=>h3.fp (hcl q i y' 0 y' (ms hkl) (by rw[hyc'];rfl))⟩
    .have hz':=hz;rw[zbs (zam ei)] at hz;obtain⟨b,s,u,k1,k2,k3,k4,k5⟩:=hR.cell i z j c hz hc;exact⟨b,s,u,k1,k2,k3.mono (Ext.refl _ _) hp,k4,λq=>k3.fp (hcl q i z j c hz' hc)⟩
  .rw[show (St.mk st.env (w7 st.σ l0 (some ⟨r0.els.set k y',r0.lo,r0.opn,r0.z,cl'⟩))).σ l=st.σ l from o5 _ _ e] at q;exact (h.rows l r q).mono (Ext.refl _ _) hp λ_ _ _=>⟨rfl,rfl⟩
 .obtain⟨r1,h1,k1⟩:=hcase l r q;obtain⟨r2,h2,k2⟩:=hcase l' r' q';exact h.disj l l' r1 r2 hne h1 h2 b o (k1 b o ho) (k2 b o k)
 .obtain⟨r1,h1,k1⟩:=hcase l r q;exact h.ownimm l r1 b o h1 (k1 b o ho)
end
theorem Vm{s:St}{α:Type}{f:α->PV}{xs:List α}{l k r lo z zz:Nat}{opn cl:Bool}(hl:s.σ l=some ⟨(xs.map f).set k (.G8 true []),lo,opn,zz,cl⟩)(hk:k<xs.length)(hr:s.σ r=none)(hne:(l==r)=false)(hlm:l<MB:=by exact zD rfl)(hrm:r<MB:=by exact zD rfl) :
  Wk s ⟨s.env,w7 (w7 s.σ r (some ⟨[],0,true,z,true⟩)) l (some ⟨qk f xs k r,lo,opn,zz,false⟩)⟩:=λX g a w h=>by
 have hne':l≠r:=by simpa using hne
 have hkl:k<(xs.map f).length:=by simpa using hk
 have hR:=h.rows l _ hl;obtain⟨b0,s0,u,hA0,hu,hv,_,_⟩:=hR.cell k (.G8 true []) 0 (.G8 true []) (ms hkl) rfl;obtain⟨A,c,z',u',e,h1,h2,h3,_⟩:=hv.fS;have hc:=h2 rfl;simp only[zW] at hc e;subst hc;have hs:=h.vo (l:=r) (A:=A) (xs:=[]) (z:=z) hrm hr (λ_=>rfl) (λ_ q=>by cases q) (λq=>absurd q (zbz _)) true;have hl':(St.mk s.env (w7 s.σ r (some ⟨[],0,true,z,true⟩))).σ l=some ⟨(xs.map f).set k (.G8 true []),lo,opn,zz,cl⟩:=by rw[<-hl];exact o5 _ _ hne'
 have hs':A3 X ⟨g.imm,w7 g.μ r ⟨A,0,0,z⟩⟩ ⟨s.env,w7 s.σ r (some ⟨[],0,true,z,true⟩)⟩ a w:=hs;have hμ:w7 g.μ r ⟨A,0,0,z⟩ l=g.μ l:=o5 _ _ hne';have:=hs'.RU (k:=k) (y:=.G8 true []) (y':=.sl r) (cl':=false) hl' hlm (ms hkl) rfl rfl rfl (λb s1 v k1 k2 _=>by
  simp only[hμ] at k1 k2;rw[hA0] at k1;cases k1;rw[hu] at k2;cases k2;rw[e];exact dy (m:=⟨A,0,0,z⟩) ⟨_,o8 _ _ _⟩ (o8 _ _ _)) (λq=>by cases q)
 rw[zce] at this;exact⟨_,this⟩
theorem Vl{s:St}{α β:Type}{f:α->PV}{gE:β->PV}{xs:List α}{ys:List β}{v:α}{l k r lo zz:Nat}{opn:Bool}{rr:Row}(hl:s.σ l=some ⟨qk f xs k r,lo,opn,zz,false⟩)(hk:k<xs.length)(hr:s.σ r=some rr)(he:rr.els=ys.map gE)(hrc:rr.cl=true)(hv:f v = .G8 false (ys.map gE))(hf:∀x,(f x).cells.all PV.fp=true)(hne:(l==r)=false)(hlm:l<MB:=by exact zD rfl) :
  Wk s ⟨s.env,w7 (Q2 s.σ [r]) l (some ⟨(xs.set k v).map f,lo,opn,zz,true⟩)⟩:=λX g a w h=>by
 have hne':l≠r:=by simpa using hne
 have hkl:k<(xs.map f).length:=by simpa using hk
 obtain⟨imm',h1,h2,h3⟩:=h.Q2 [r];have hl':(St.mk s.env (Q2 s.σ [r])).σ l=some ⟨qk f xs k r,lo,opn,zz,false⟩:=by
  rw[<-hl];show jr s.σ r l=_;simp only[jr,hr];exact o5 _ _ hne'
 have key:=h1.RU (k:=k) (y:=.sl r) (y':=.G8 false (ys.map gE)) (cl':=true) hl' hlm (ms hkl) rfl rfl rfl (λb s1 u k1 k2 _=>by
  obtain⟨b',s',u',m1,m2,m3,_,_⟩:=(h.rows l _ hl).cell k (.sl r) 0 (.sl r) (ms hkl) rfl;rw[m1] at k1;cases k1;rw[m2] at k2;cases k2;have hok:(PV.sl r).ky s.σ=true:=by simp only[PV.ky,PV.mg,PV.kp,PV.cL,hr,hrc]
  have:=(h.view h2 m3 hok (by simpa[PV.L0,PV.Y6,PV.O1,PV.bA] using h3)).w2;rw[show (PV.sl r).view s.σ = .G8 false (ys.map gE) by simp only[PV.view,PV.v3,PV.v2,PV.v0,hr,he]] at this;exact .cl this) (λ_ i x j c hx hc=>by
  have hx':((xs.set k v).map f)[i]? = some x:=by
   rw[zbw,hv];rw[<-zce (a:=.sl r)];exact hx
  obtain⟨x0,_,rfl⟩:=zI.1 (zg hx');exact zd.1 (hf x0) c (zg hc))
 rw[zce,<-hv,<-zbw] at key;exact⟨_,key⟩
theorem tF{α:Type}{f:α->PV}{xs:List α}{k r:Nat}{π:Nat->Nat}{R:List (Nat × Row)}{σ:Nat->Option Row}{l:Nat}{r0 r':Row}(h:σ (π l)=some r0)(hz:r0.z=r'.z)(hl:r0.lo=r'.lo)(ho:r'.opn=true->r0.opn=true)(hc:r'.cl=false)(he:r0.els=qk f xs k (π r))(he':r'.els=qk f xs k r)
  (hR:(R.lookup r).isSome=true)(h1:∀x,(f x).uH π=f x)(h2:∀x,nG (f x)=true)(h3:∀x,(f x).refs = [])(hm:RQ l (π l) r0.cl r'.cl=true:=by rfl):iB π R σ (l,r'):=by
 refine⟨r0,h,hm,hz,hl,ho,λq=>(by
  have q':r'.cl=true:=q;rw[hc] at q';cases q'),.inr ⟨hc,?_,?_,?_⟩⟩
 .show r0.els=r'.els.map (PV.uH π);rw[he,he',zbw,List.map_map,show (PV.uH π ∘ f)=f from funext h1];rfl
 .show r'.els.all nG=true;rw[he',zd];intro y hy;rcases zaa hy with q | rfl
  .obtain⟨x,_,rfl⟩:=zI.1 q;exact h2 x
  .rfl
 .show (r'.els.flatMap PV.refs).all (λl=>(R.lookup l).isSome)=true;rw[he',zd];intro y hy;obtain⟨z,hz,hyz⟩:=n7.1 hy;rcases zaa hz with q | rfl
  .obtain⟨x,_,rfl⟩:=zI.1 q;rw[h3 x] at hyz;cases hyz
  .have:y=r:=by simpa[PV.refs,PV.yV,PV.ug] using hyz
   subst this;exact hR
section
variable{P:Program}{σ:Nat->Option Row}{ρ:Operand->PV}{dst:Option Tmp}
theorem RO{α:Type}{f:α->PV}{xs:List α}{e:α}{T E:TypeId}{x y:Operand}{l z r k':Nat}{rr:Row}{k:IntKind}{n:Int}(h:ix xs n=some e)(hx:ρ x = .sl l)(hl:σ l=some rr)(he:rr.els=qk f xs k' r)(hy:ρ y = .int k n)(hE:B0 P T=some E)(hz:u0 P E=some z)(hrz:rr.z=z) :
  B9 P σ ρ dst (.indexAddr T x y) (.ptr l n.toNat 0) .none:=by
 subst hrz;obtain⟨h0,h1⟩:=ju f h;have hlt:=(zx.1 h1).1;exact .idxR T x y l rr k n E hx hl hy h0 (by rw[he];simpa using hlt) hE hz
theorem WC{α:Type}{f:α->PV}{xs:List α}{e:α}{T:TypeId}{x:Operand}{l r:Nat}{rr:Row}{n:Int}(h:ix xs n=some e)(hx:ρ x = .ptr l n.toNat 0)(hl:σ l=some rr)(he:rr.els=qk f xs n.toNat r)(ha:I9 P T=some false):B9 P σ ρ dst (.load T x) (.sl r) .none:=by
 have hlt:=(zx.1 (ju f h).2).1;exact .jL T x l n.toNat 0 rr (.sl r) (.sl r) hx hl (by rw[he];exact ms hlt) ha rfl
end
section
variable{P:Program}{ops:Array Oper}{bar:List Nat}{i:Nat}{os:List Oper}{K:St->Prop}{env:Nat->PV}{σ:Nat->Option Row}{ty:TypeId}{pos:String}{after:Array Edge}{gd:Option (Nat × Bool)}
theorem VN{α:Type}{f:α->PV}{xs:List α}{e:α}{m:Int}{x y:Operand}{T:TypeId}{l r r2:Nat}{opn:Bool}{z:Nat}(h:ix xs m=some e)(hw:B1 ops env ⟨none,.store T x y,ty,pos,after,gd⟩=some true)(hx:y5 env x = .ptr l m.toNat 0)(hy:y5 env y = .sl r2)(hs:u0 P T=some 1)
  (hl:σ l=some ⟨qk f xs m.toNat r,0,opn,z,false⟩)(k:Ex P ops bar true (i+1) os ⟨env,w7 σ l (some ⟨qk f xs m.toNat r2,0,opn,z,false⟩)⟩ K)
  (ht:(kept bar).contains l=false:=by rfl)(h4:cls bar i (.store T x y)=4:=by rfl):Ex P ops bar true i (⟨none,.store T x y,ty,pos,after,gd⟩::os) ⟨env,σ⟩ K:=by
 have hlt:=(zx.1 (ju f h).2).1;refine Sg (x:=.sl r) (x':=.sl r2) (cs:=[.sl r2]) (es:=qk f xs m.toNat r2) hw (oJ (d:=.sl r2) hx (.inl hy) rfl rfl hs (Nat.zero_lt_one) rfl) hl (ms hlt) (t8 _) (zq _) rfl (cl:=false) rfl rfl ?_ (λ_=>?_) (λ_=>by rw[h4];trivial) k;·exact zce ..
 .simp only[U1.off,ht];rfl
end
section
variable{X:Ctx}{ops:Array Oper}{i:Nat}{os:List Oper}{K:Ctx->St->Prop}{env:Nat->PV}{σ:Nat->Option Row}{ty:TypeId}{pos:String}{after:Array Edge}{gd:Option (Nat × Bool)}
theorem Rl{α:Type}{f:α->PV}{xs:List α}{e:α}{m:Int}{x y:Operand}{T:TypeId}(r z:Nat){l:Nat}{opn:Bool}{zz:Nat}(h:ix xs m=some e)(hw:B1 ops env ⟨none,.store T x y,ty,pos,after,gd⟩=some true)(hx:y5 env x = .ptr l m.toNat 0)(hy:y5 env y = .G8 true [])(hs:u0 X.P T=some 1)
  (hl:σ l=some ⟨xs.map f,0,opn,zz,true⟩)(hr:σ r=none)(hne:(l==r)=false)(hsc:(f e).cells.length=1)
  (k:Sq X ops (i+1) os K ⟨env,w7 (w7 σ r (some ⟨[],0,true,z,true⟩)) l (some ⟨qk f xs m.toNat r,0,opn,zz,false⟩)⟩)(hlm:l<MB:=by exact zD rfl)(hrm:r<MB:=by exact zD rfl)(hset:G5 (f e) 0 [.G8 true []] = .G8 true []:=by rfl) :
  Sq X ops i (⟨none,.store T x y,ty,pos,after,gd⟩::os) K ⟨env,σ⟩:=by
 have hx0:=(ju f h).2;have hlt:=(zx.1 hx0).1;have hlt':m.toNat<xs.length:=by simpa using hlt
 have hne':l≠r:=by simpa using hne
 have h0:B9 X.P σ (y5 env) none (.store T x y) (.tup []) (.sto l m.toNat 0 [.G8 true []]):=oJ (d:=.G8 true []) hx (.inl hy) rfl rfl hs Nat.zero_lt_one rfl;refine mG (X:=X) (K:=K) (os:=os) (i:=i) (ops:=ops) (st:=⟨env,σ⟩) (.run (.tup []) (.sto l m.toNat 0 [.G8 true []]) hw h0 ⟨E6.refl _,E1.refl _⟩ ⟨_,f e,hl,hx0,t8 _,by rw[hsc];exact zq _,rfl⟩ (λq=>nomatch q) (λq=>nomatch q)) ?_;simp only[U1.apply,hl,hx0,hset];refine N2 (Vm (f:=f) (xs:=xs) (k:=m.toNat) (r:=r) (z:=z) (l:=l) (lo:=0) (opn:=opn) (zz:=zz) (o8 _ _ _) hlt' ((o5 _ _ hne'.symm).trans hr) hne hlm hrm) ?_;have:w7 (w7 (w7 σ l (some ⟨(xs.map f).set m.toNat (.G8 true []),0,opn,zz,true && [PV.G8 true []].all PV.Z0⟩)) r (some ⟨[],0,true,z,true⟩)) l (some ⟨qk f xs m.toNat r,0,opn,zz,false⟩)=w7 (w7 σ r (some ⟨[],0,true,z,true⟩)) l (some ⟨qk f xs m.toNat r,0,opn,zz,false⟩):=by
  funext i
  unfold w7;split;·rfl
  .split <;> rfl
 rw[this];exact k
end
end Go.Pw
