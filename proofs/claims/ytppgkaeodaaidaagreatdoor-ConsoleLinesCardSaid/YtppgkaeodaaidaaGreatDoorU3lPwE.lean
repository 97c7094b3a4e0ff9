/- A part. -/
import Derived.Test.YtppgkaeodaaidaaGreatDoorU3lPwC
import Derived.Test.YtppgkaeodaaidaaGreatDoorU3lPwD
set_option linter.unusedVariables false
set_option linter.unusedSimpArgs false
set_option linter.unusedSectionVars false
namespace Go.Sh
abbrev r9(l:List UInt8):ByteArray:=⟨l.toArray⟩
abbrev aA(s:ByteArray):List UInt8:=s.data.toList
def Iu{α:Type}(xs:List α)(n:Int)(ys:List α):Option (List α):=if 0<=n/\n.toNat+ys.length<=xs.length then some (xs.take n.toNat++(ys++xs.drop (n.toNat+ys.length))) else none
def UK(s:ByteArray)(i:Int):Option Int:=if 0<=i then ((aA s)[i.toNat]?).map λb=>(b.toNat:Int) else none
def sT(s:ByteArray)(i j:Int):Option ByteArray:=if 0<=i/\i<=j/\j<=s.size then some (r9 (((aA s).take j.toNat).drop i.toNat)) else none
def ra(a b:ByteArray):Option ByteArray:=if a.size+b.size<=9223372036854775807 then some (r9 (aA a++aA b)) else none
def Bl(k:IntKind)(n:Int):Int:=k.wrap ((BitVec.ofInt k.bits (-1) ^^^ BitVec.ofInt k.bits n).toNat:Int)
abbrev Fw:=Option (Nat × Option Int)
abbrev dec(s:ByteArray)(p:Nat):Nat × Nat:=Go.Utf8.decode s p
end Go.Sh
namespace Go.Pw
open Go.RowKit Go.Sh
theorem Ry{a b:ByteArray}(h:a.data.toList=b.data.toList):a=b:=by
 cases a;cases b;simp only[ByteArray.mk.injEq];exact Array.toList_inj.1 h
section
variable{P:Program}{σ:Nat->Option Row}{ρ:Operand->PV}{dst:Option Tmp}
theorem Ji{T:TypeId}{x y:Operand}{s:ByteArray}{k:IntKind}{i v:Int}(hv:UK s i=some v)(hx:ρ x = .str s)(hy:ρ y = .int k i)(hT:P.underlying T=some .string):E6 P σ ρ dst (.index T x y) (.int .u8 v) .none:=by
 refine .pureV _ _ (λ_=>nofun) (λ_ _=>nofun) λo w imm μ u3 ev ho hr=>?_;have e:=hr x Ωb;have j:=hr y Ωb;rw[hx] at e;rw[hy] at j;have m:=e.gV;have n:=j.L1;unfold UK at hv;split at hv;case isFalse=>cases hv
 rename_i h0;cases hb:(aA s)[i.toNat]? with
 | none=>rw[hb] at hv;cases hv
 | some b=>
  rw[hb] at hv;have hv:=t8 hv;refine⟨.int .u8 v,?_,.cl (.int _ _)⟩;have q:s[i.toNat]? = some b:=by
   have c:i.toNat<s.size:=by
    have:=(zA.1 hb).1;simpa using this
   have p:=(zA.1 hb).2;rw[getElem?_pos s i.toNat c];exact m9 some p
  simp only[execOp,ho,Instr.index,zt,asIntOf,m,n,or,zi,zZ hT,zc h0,q,<-hv]
theorem uj{w:World}{k:IntKind}{i:Int}{y:Nat}{c:BoundsCode}(h0:0<=i)(h:i<=y):(Instr.sliceBound (.int k i) y c).run P w = .ok i.toNat w:=by
 simp only[Instr.sliceBound,asIntOf,zt,or,zi,zc (And.intro h0 h)]
theorem tL(s:ByteArray)(i j:Nat):s.extract i j=r9 (((aA s).take j).drop i):=by
 apply Ry;simp[ByteArray.data_extract,List.extract_eq_take_drop,List.drop_take]
theorem yG{w:World}{n:Nat}{l u:Option Value}{i j:Int}(h0:0<=i)(b:i<=j)(e:j<=n)(hl:(l=none/\i=0)\/∃k,l=some (.int k i))(hu:(u=none/\j=n)\/∃k,u=some (.int k j)) :
  (Instr.sliceBounds false n n l u none).run P w = .ok (i.toNat,j.toNat,n) w:=by
 have c:i<=(j.toNat:Int):=Δ
 rcases hl with ⟨rfl,rfl⟩ | ⟨k,rfl⟩ <;> rcases hu with ⟨rfl,rfl⟩ | ⟨k',rfl⟩<;>
  (first | simp[Instr.sliceBounds,zt,or,zi,uj,h0,b,e,c,Int.le_trans h0 b,uj (y:=j.toNat) h0 c] | simp[Instr.sliceBounds,zt,or,zi,uj,h0,b,e,c,Int.le_trans h0 b])
theorem Io{ev:Operand->Value}{x:Option Operand}{d n:Int}(h:Dl ρ x d n)(hr:∀y,x=some y->∀k n,ρ y = .int k n->ev y = .int k n):(x.map ev=none/\n=d)\/∃k,x.map ev=some (.int k n):=by
 cases x with
 | none=>exact .inl ⟨rfl,h⟩
 | some y=>obtain⟨k,hk⟩:=h;exact .inr ⟨k,m9 some (hr y rfl k n hk)⟩
theorem Gy{T:TypeId}{x:Operand}{lo hi:Option Operand}{s r:ByteArray}{i j:Int}(hv:sT s i j=some r)(hx:ρ x = .str s)(hlo:Dl ρ lo 0 i)(hhi:Dl ρ hi s.size j)(hT:P.underlying T=some .string) :
  E6 P σ ρ dst (.slice T x lo hi none) (.str r) .none:=by
 unfold sT at hv;split at hv;case isFalse=>cases hv
 rename_i hb;obtain⟨h0,c,e⟩:=hb;have hv:=t8 hv;refine .pureV _ _ (λ_=>nofun) (λ_ _=>nofun) λo w imm μ u3 ev ho hr=>?_;have b:=hr x Ωb;rw[hx] at b;have b:=b.gV;have key:=yG (P:=P) (w:=w) h0 c e (Io hlo λy hy k n hk=>by
  have:=hr y (by simp[Op.operands,hy]);rw[hk] at this;exact this.L1) (Io hhi λy hy k n hk=>by
  have:=hr y (by simp[Op.operands,hy]);rw[hk] at this;exact this.L1)
 refine⟨.string (s.extract i.toNat j.toNat),?_,?_⟩
 .simp only[execOp,ho,Option.map_none];refine I2 ?_;simp only[Instr.sliceAt,Instr.slice,b,zt,zZ hT,zi,Option.isSome_none,zj,wf,key,or]
 .rw[tL,<-hv];exact .cl (.str _)
theorem lV{t u:TypeId}{x y:Operand}{a b r:ByteArray}(hv:ra a b=some r)(hx:ρ x = .str a)(hy:ρ y = .str b)(hT:P.underlying t=some .string):E6 P σ ρ dst (.binOp .add t x y u) (.str r) .none:=by
 unfold ra at hv;split at hv;case isFalse=>cases hv
 rename_i hb;have hv:=t8 hv;refine .pureV _ _ (λ_=>nofun) (λ_ _=>nofun) λo w imm μ u3 ev ho hr=>?_;have c:=hr x Ωb;have e:=hr y Ωb;rw[hx] at c;rw[hy] at e;have c:=c.gV;have e:=e.gV;have hc:¬((a.size+b.size:Nat):Int) > IntKind.i64.max:=by
  have:IntKind.i64.max=9223372036854775807:=rfl;rw[this];omega
 refine⟨.string (a++b),?_,?_⟩
 .simp only[execOp,ho,c,e];refine I2 ?_;simp only[binOp,eqGuard,Op.stringOp,zt,zZ hT,zi,or,za hc];rfl
 .have:a++b=r:=by
   rw[<-hv];apply Ry;simp[ByteArray.data_append]
  rw[this];exact .cl (.str _)
end
abbrev itR(s:ByteArray)(p:Nat):Row:=⟨[.mapc [.str s,.int .i64 (p:Nat)]],0,false,0,false⟩
section
variable{X:Ctx}{ops:Array Oper}{i:Nat}{os:List Oper}{K:Ctx->St->Prop}{env:Nat->PV}{σ:Nat->Option Row}{ty:TypeId}{pos:String}{after:Array Edge}{gd:Option (Nat × Bool)}{t:Tmp}
theorem Vn{T:TypeId}{x:Operand}{s:ByteArray}(l:Nat)(hw:D9 ops env ⟨some t,.range T x,ty,pos,after,gd⟩=some true)(hx:B6 env x = .str s)(hT:X.P.underlying T=some .string)(hn:σ l=none)
  (k:Sq X ops (i+1) os K ⟨z7 env t (.ptr l 0 0),z7 σ l (some (itR s 0))⟩)(hl:MB<=l:=by exact zF rfl):Sq X ops i (⟨some t,.range T x,ty,pos,after,gd⟩::os) K ⟨env,σ⟩:=M9 λho=>jz ho hw (λc q=>Γ) λg a w hs=>by
 have b:=hs.eval x;rw[show B6 (St.env ⟨env,σ⟩) x=_ from hx] at b;have e:=b.gV;have j:=hs.Zj (l:=l) (o:=.stringIter s 0) (es:=[.str s,.int .i64 (0:Nat)]) rfl (λhp=>.inr ⟨s,0,hp,rfl⟩) hl hn;refine⟨.pointer (some ⟨w.heap.size,0,none⟩),w.alloc (.stringIter s 0),_,_,.ptr l 0 0,?_,j,?_,k⟩
 .refine I2 ?_;simp only[Instr.range,e,zt,zZ hT,zi,or];rfl
 .have:=Rd.ptr (w:=w.alloc (.stringIter s 0)) (imm:=g.imm) (μ:=z7 g.μ l ⟨some ⟨w.heap.size,0,none⟩,1,1,0⟩) (u3:=St.u3 ⟨env,z7 σ l (some (itR s 0))⟩) l 0 0 w.heap.size 0 ⟨_,s7 _ _ _⟩ (m9 L7.A (s7 _ _ _));simp only[zb3,zam] at this;exact this
theorem Kc{P:Program}{w:World}{b:Nat}{s:ByteArray}{p:Nat}{ty:TypeId}(h:w.heap[b]? = some (.stringIter s p)) :
  (Instr.next (.pointer (some ⟨b,0,none⟩)) true ty).run P w=if p<s.size then .ok (.tuple #[.bool true,.int .i64 p,.int .i32 ((dec s p).1:Nat)]) (w.putObj b (.stringIter s (p+(dec s p).2))) else .ok (.tuple #[.bool false]) w:=by
 have c:(getObj b).run P w = .ok (.stringIter s p) w:=by
  simp only[getObj,Sem.run,h]
 unfold Instr.next;simp only[zt,c,zi];split
 .rename_i q;have hs:∀o,(setObj b o).run P w = .ok () (w.putObj b o):=λo=>by
   simp only[setObj,Sem.run,h];rfl
  simp only[zt,hs,zi,or];rfl
 .rfl
theorem ZA{x:Operand}{l:Nat}{s:ByteArray}{p:Nat}(hw:D9 ops env ⟨some t,.next x true,ty,pos,after,gd⟩=some true)(hx:B6 env x = .ptr l 0 0)(hl:σ l=some (itR s p))
  (kT:p<s.size->Sq X ops (i+1) os K ⟨z7 env t (.tup [.bool true,.int .i64 (p:Nat),.int .i32 ((dec s p).1:Nat)]),z7 σ l (some (itR s (p+(dec s p).2)))⟩)
  (kF:¬p<s.size->Sq X ops (i+1) os K ⟨z7 env t (.tup [.bool false]),σ⟩)(j:MB<=l:=by exact zF rfl):Sq X ops i (⟨some t,.next x true,ty,pos,after,gd⟩::os) K ⟨env,σ⟩:=by
 have key:∀(g:Gh) (a:Act) (w:World),D1 X g ⟨env,σ⟩ a w->∃b,a.eval x = .pointer (some ⟨b,0,none⟩)/\(g.μ l).A=some ⟨b,0,none⟩/\w.heap[b]? = some (.stringIter s p):=λg a w hs=>by
  have m:=hs.eval x;rw[show B6 (St.env ⟨env,σ⟩) x=_ from hx] at m;obtain⟨_,b0,s0,hA,e⟩:=m.aK;obtain⟨b,es,h,o,E,B,_⟩:=hs.maps.at_ l _ j hl;rw[hA] at o;cases o;cases h;have hz:(g.μ l).z=0:=(hs.rows l _ hl).z;refine⟨b0,by rw[e,hz],hA,?_⟩;rcases B with ⟨ents,clock,u,n,C⟩ | ⟨s',F,u,n⟩
  .have:0<ents.size:=by rw[n];exact Nat.zero_lt_succ _
   obtain⟨k,v,k1,_⟩:=C 0 ents[0] (zu this);cases k1
  .simp only[List.cons.injEq,PV.str.injEq,PV.int.injEq,true_and,and_true,Int.natCast_inj] at n;obtain⟨rfl,rfl⟩:=n;exact u
 by_cases hp:p<s.size
 .refine M9 (λho=>jz ho hw (λc q=>Γ) λg a w hs=>?_);obtain⟨b,e,hA,hb⟩:=key g a w hs;refine⟨_,_,_,_,_,I2 (by rw[e,Kc hb,zc hp]),hs.r7 j hl rfl hA (o':=.stringIter s (p+(dec s p).2)) (es':=[.str s,.int .i64 ((p+(dec s p).2:Nat):Int)]) rfl (λ_ y=>.inr ⟨s,_,y,rfl⟩),?_,kT hp⟩;refine .cl (.tup _ _ rfl λi v c hv hc=>?_);match i with
  | 0=>simp at hv hc;subst hv;subst hc;exact .bool _
  | 1=>simp at hv hc;subst hv;subst hc;exact .int _ _
  | 2=>simp at hv hc;subst hv;subst hc;exact .int _ _
  | _+3=>simp at hv
 .refine M9 (λho=>jz ho hw (λc q=>Γ) λg a w hs=>?_);obtain⟨b,e,hA,hb⟩:=key g a w hs;refine⟨_,w,g,⟨env,σ⟩,_,I2 (by rw[e,Kc hb,za hp]),hs,?_,kF hp⟩;refine .cl (.tup _ _ rfl λi v c hv hc=>?_);match i with
  | 0=>simp at hv hc;subst hv;subst hc;exact .bool _
  | _+1=>simp at hv
end
theorem a1b{P:Program}{σ:Nat->Option Row}{ρ:Operand->PV}{dst:Option Tmp}{t:TypeId}{x:Operand}{k:IntKind}{n r:Int}(hx:ρ x = .int k n)(hk:k.signed=true)(hr:Bl k n=r):E6 P σ ρ dst (.unOp .xor t x) (.int k r) .none:=by
 subst hr;refine .pureV _ _ (λ_=>nofun) (λ_ _=>nofun) λo w imm μ u3 ev ho hr=>?_;have b:=hr x Ωb;rw[hx] at b;have b:=b.L1;refine⟨.int k (Bl k n),?_,.cl (.int _ _)⟩;simp only[execOp,ho,b];refine I2 ?_;simp only[Op.unary,hk,wd,Op.intBits];rfl
def fwP(e:Fw):PV:=match e with
 | none=>.nilfn
 | some (f,none)=>.fn (.func f) []
 | some (f,some n)=>.fn (.func f) [.rptr [.int .i64 n]]
def FwR(e:Fw):World->(Nat->Nat->Prop)->Value->Prop:=λw imm v=>Rd0 w imm v (fwP e)
abbrev Gd(e:Fw):PV:=.abs (FwR e)
def PV.KM:PV->PV
 | .fn (.func f) []=>Gd (some (f,none))
 | .fn (.func f) [.rptr [.int .i64 n]]=>Gd (some (f,some n))
 | .nilfn=>Gd none
 | d=>d
def PV.Sr:PV->PV
 | .agg cs=>.agg (cs.map PV.KM)
 | d=>d.KM
theorem Uh{w:World}{imm:Nat->Nat->Prop}{v:Value}{e:Fw}(h:Rd0 w imm v (fwP e)):Rd0 w imm v (Gd e):=
 .abs _ _ (by cases e with
  | none=>exact h.one rfl
  | some p=>obtain⟨f,n⟩:=p;cases n <;> exact h.one rfl) λw' imm' he=>h.mono he
theorem PV.Sp{d:PV}(h:d.sc=true):d.KM.sc=true:=by
 unfold PV.KM;split <;> first | rfl | exact h
variable {w:World}{imm:Nat->Nat->Prop}{v:Value}
theorem Rd0.KM{d:PV}(h:Rd0 w imm v d):Rd0 w imm v d.KM:=by
 unfold PV.KM;split <;> first | exact Uh (e:=some (_,none)) h | exact Uh (e:=some (_,some _)) h | exact Uh (e:=none) h | exact h
theorem Rd.KM{μ:Nat->L7}{u3:Nat->Prop}{d:PV}(h:Rd w imm μ u3 v d)(hc:d.iD=true):Rd w imm μ u3 v d.KM:=.cl (h.iD hc).KM
def PV.a2G:PV->Bool
 | .agg cs=>cs.all PV.iD
 | d=>d.iD
theorem Rd.Sr{μ:Nat->L7}{u3:Nat->Prop}{d:PV}(h:Rd w imm μ u3 v d)(hc:d.a2G=true):Rd w imm μ u3 v d.Sr:=by
 by_cases e:∃cs,d = .agg cs
 .obtain⟨cs,rfl⟩:=e;obtain⟨vs,rfl,hn,hk⟩:=h.jd;have hsc:=h.FD;refine .agg vs _ (zf.2 λc hc=>?_) (Ω hn) λi v c hv b=>?_
  .obtain⟨c0,h0,rfl⟩:=zP.1 hc;exact PV.Sp (zf.1 hsc c0 h0)
  .obtain⟨c0,k1,rfl⟩:=fA b;exact (hk i v c0 hv k1).KM (zf.1 hc c0 (zh k1))
 .have:d.Sr=d.KM:=by cases d <;> first | rfl | exact absurd ⟨_,rfl⟩ e
  rw[this];exact h.KM (by cases d <;> first | exact hc | exact absurd ⟨_,rfl⟩ e)
theorem Rd0.Sr{w:World}{imm:Nat->Nat->Prop}{v:Value}{d:PV}(h:Rd0 w imm v d):Rd0 w imm v d.Sr:=by
 by_cases e:∃cs,d = .agg cs
 .obtain⟨cs,rfl⟩:=e;cases h with
  | agg vs cs hsc hn hc=>
   refine .agg vs _ (zf.2 λc b=>?_) (Ω hn) λi v c hv b=>?_
   .obtain⟨c0,h0,rfl⟩:=zP.1 b;exact PV.Sp (zf.1 hsc c0 h0)
   .obtain⟨c0,k1,rfl⟩:=fA b;exact (hc i v c0 hv k1).KM
 .have:d.Sr=d.KM:=by cases d <;> first | rfl | exact absurd ⟨_,rfl⟩ e
  rw[this];exact h.KM
theorem a3f{P:Program}{σ:Nat->Option Row}{ρ:Operand->PV}{dst:Option Tmp}{KT VT:Type}[BEq KT]{EK:KT->PV}{E:VT->PV}{T kt et:TypeId}{x y:Operand}{ok:Bool}{es:List (KT × VT)}{k:KT}{zv:Value}{d z0:PV}(hx:ρ x = .abs (aa (es.map (jg EK E))))(hy:ρ y=EK k)(hT:sV P T=some (kt,et))(c:yM P kt EK)(hz:B1 P et=some zv)
  (b:(PV.kG zv).w1.Sr=z0)(hd:(Zg E (Go.Sh.C0 es k) z0 ok)=d):E6 P σ ρ dst (.lookup T x y ok) d .none:=TD (W:=λd=>d.w1.Sr) (λq=>q.w1.Sr) hx hy hT c hz b hd
theorem EV{s:St}(t:Nat){d':PV}(h:(s.env t).Sr=d')(hc:(s.env t).a2G=true):Wk s ⟨z7 s.env t d',s.σ⟩:=by
 subst h;exact HU t rfl λ_ _ _ _ _ q=>q.Sr hc
theorem Vh{s:St}(t:Nat){e:Fw}{d:PV}(ht:s.env t=Gd e)(he:fwP e=d):Wk s ⟨z7 s.env t d,s.σ⟩:=by
 subst he;refine HU t ht λw imm μ u3 v q=>?_;exact .cl (show Rd0 w imm v (fwP e) from q.As)
section
variable{X:Ctx}{ops:Array Oper}{i:Nat}{os:List Oper}{K:Ctx->St->Prop}{env:Nat->PV}{σ:Nat->Option Row}{ty:TypeId}{pos:String}{after:Array Edge}{gd:Option (Nat × Bool)}{t:Tmp}
theorem a3A{T E:TypeId}{x y:Operand}{z b:Nat}{k k':IntKind}{m:Nat}{v:Value}(hw:D9 ops env ⟨some t,.makeSlice T x y,ty,pos,after,gd⟩=some true)(hl:σ t=none)(n:t<MB)
  (hx:B6 env x = .int k 0)(hy:B6 env y = .int k' (m:Int))(hE:C1 X.P T=some E)(hz:w9 X.P E=some z)(hv:B1 X.P E=some v)(hb:I1 X.P E=some b)(hbm:b*m<=281474976710656)(hm:m<=9223372036854775807)
  (kk:Sq X ops (i+1) os K ⟨z7 env t (.sl t),z7 σ t (some ⟨[],0,true,z,true⟩)⟩):Sq X ops i (⟨some t,.makeSlice T x y,ty,pos,after,gd⟩::os) K ⟨env,σ⟩:=M9 λho=>jz ho hw (λc q=>Γ) λg a w hs=>by
 have o:=hs.eval x;rw[show B6 (St.env ⟨env,σ⟩) x=_ from hx] at o;have p:=hs.eval y;rw[show B6 (St.env ⟨env,σ⟩) y=_ from hy] at p;obtain⟨i,hi,rfl,rfl,e⟩:=Gq hz hb hv;have hr:=run_make (P:=X.P) w T E i v (O9 hE) hi e k k' 0 m (md _) Δ (by rw[<-Int.natCast_mul];omega) Δ;have s:=hs.xN (l:=t) (els:=[]) (T:=E) (C:=m) (z:=i.size) (opn:=true) (cl:=true) (madeCells v.cells (m*i.size)) n hl (rg _) (by simp[madeCells]) (λx hx=>by cases hx) (λh x j y u hx=>by simp at hx);refine⟨.slice (some ⟨w.heap.size,0,none⟩) 0 m,_,_,_,.sl t,?_,s,?_,kk⟩
 .simp only[execOp,o.L1,p.L1];refine I2 ?_;simpa using hr
 .exact fL (l:=t) (m:=⟨some ⟨w.heap.size,0,none⟩,0,m,i.size⟩) ⟨_,s7 _ _ _⟩ (s7 _ _ _)
end
section
variable{X:Ctx}{ops:Array Oper}{i:Nat}{os:List Oper}{K:Ctx->St->Prop}{env:Nat->PV}{σ:Nat->Option Row}
theorem vA{n:Nat}{P:Program}{ρ:Option Nat}{Qo:Exit->Act->World->Prop}{o:Oper}{is:List Nat}{a:Act}{w w':World}{v:Value}(ho:ops[i]? = some o)(b:o.guard=none)(hnd:∀c,o.op ≠ .defer c)(hr:(execOp a.eval o).run P w = .ok (.value v) w')
  (k:wpOpsIn (FX ρ) n P ops Qo is (a.put o.dst v) w'):wpOpsIn (FX ρ) n P ops Qo (i::is) a w:=by
 rw[wpOpsIn_cons];unfold wpOpIn;rw[ho];simp only;rw[zc (by unfold Region.wanted;rw[b])];exact G3 hnd hr k
theorem a2a{α:Type}{f:α->PV}{T T1 T2 E:TypeId}{x lo y:Operand}{p h t3:Tmp}{l z:Nat}{xs ys zs:List α}{k:IntKind}{m:Int}{opn tt:Bool}{ty1 ty2 ty3:TypeId}{p1 p2 p3:String}{aft1 aft2 aft3:Array Edge}
  (hv:Iu xs m ys=some zs)(hx:B6 env x = .sl l)(hl:σ l=some ⟨xs.map f,0,opn,z,true⟩)(hlo:B6 env lo = .int k m)(hy:B6 (z7 env p .junk) y = .H4 tt (ys.map f))(h12:p≠h)
  (hE:C1 X.P T=some E)(hE1:C1 X.P T1=some E)(hz:w9 X.P E=some z)(hzz:∀e,(f e).cells.length=z)(hzp:0<z)
  (kk:Sq X ops (i+3) os K ⟨z7 (z7 (z7 env p .junk) h (.H4 tt (ys.map f))) t3 (.int .i64 ys.length),z7 σ l (some ⟨zs.map f,0,opn,z,true⟩)⟩) :
  Sq X ops i (⟨some p,.slice T x (some lo) none none,ty1,p1,aft1,none⟩::⟨some h,.move y,ty2,p2,aft2,none⟩::⟨some t3,.call { callee:=.builtin .copy,args:=#[.tmp p,.tmp h],argTypes:=#[T1,T2] },ty3,p3,aft3,none⟩::os) K ⟨env,σ⟩:=λhd hi n g a w Qo hs hq=>by
 unfold Iu at hv;split at hv;case isFalse=>cases hv
 rename_i hb;obtain⟨hm0,hmn⟩:=hb;have hv:=t8 hv;have o1:=hi 0;have o2:=hi 1;have o3:=hi 2;simp only[zae,zaf,zam] at o1 o2 o3;show wpOpsIn (FX X.ρ) n X.P ops Qo (i::(i+1)::(i+2)::List.range' (i+3) os.length) a w;have hxv:=hs.eval x;rw[show B6 (St.env ⟨env,σ⟩) x=_ from hx] at hxv;obtain⟨hp,e⟩:=hxv.df;have F:=hs.rows l _ hl;have H:(g.μ l).z=z:=F.z;have hnn:xs.length=(g.μ l).n:=by have:=F.n;simpa using this.symm
 have hC:(g.μ l).n<=(g.μ l).C:=F.C;generalize hM:m.toNat=M at *;have hmM:m=(M:Int):=Δ
 have hr1:=pq (P:=X.P) hs (A:=(g.μ l).A) (lo:=some lo) (hi:=none) (mx:=none) (len:=(g.μ l).n) (cap:=(g.μ l).C) (i:=M) (j:=(g.μ l).n) (k:=(g.μ l).C) hE hz ⟨k,by rw[show B6 (St.env ⟨env,σ⟩) lo=_ from hlo,hmM]⟩ rfl rfl (λq=>Γ) Δ hC (zq _);generalize hA1:(if (g.μ l).C=M then (g.μ l).A else (g.μ l).A.map (·.add (M*z)))=A1 at hr1;have d1:=I7 hd o1.symm;have d2:=I7 hd o2.symm;have d3:=I7 hd o3.symm;have s1:=hs.put (v:=.slice A1 ((g.μ l).n-M) ((g.μ l).C-M)) (d:=.junk) d1 (.cl (.junk _));refine vA o1.symm rfl (λc q=>Γ) (by simp only[execOp,e];exact I2 hr1) ?_;have hyv:=s1.eval y;rw[show B6 (St.env ⟨V1 env (some p) .junk,σ⟩) y=_ from hy] at hyv;refine vA o2.symm rfl (λc q=>Γ) (v:=(a.put (some p) (.slice A1 ((g.μ l).n-M) ((g.μ l).C-M))).eval y) (w':=w) rfl ?_;have s2:=s1.put (v:=(a.put (some p) (.slice A1 ((g.μ l).n-M) ((g.μ l).C-M))).eval y) (d:=.H4 tt (ys.map f)) d2 hyv;generalize hau:(a.put (some p) (.slice A1 ((g.μ l).n-M) ((g.μ l).C-M))).eval y=U at *;have n1:p<a.tmps.size:=by rw[hs.size];exact d1 _ rfl
 have n2:h<a.tmps.size:=by rw[hs.size];exact d2 _ rfl
 show wpOpsIn (FX X.ρ) n X.P ops Qo ((i+2)::List.range' (i+3) os.length) ((a.put (some p) (.slice A1 ((g.μ l).n-M) ((g.μ l).C-M))).put (some h) U) w;have et1:((a.put (some p) (.slice A1 ((g.μ l).n-M) ((g.μ l).C-M))).put (some h) U).eval (.tmp p) = .slice A1 ((g.μ l).n-M) ((g.μ l).C-M):=by
  simp[Act.put,Act.eval,zL,zah,h12.symm,n1]
 have et2:((a.put (some p) (.slice A1 ((g.μ l).n-M) ((g.μ l).C-M))).put (some h) U).eval (.tmp h)=U:=by
  simp[Act.put,Act.eval,zL,zah,n2]
 generalize ((a.put (some p) (.slice A1 ((g.μ l).n-M) ((g.μ l).C-M))).put (some h) U)=a3 at *;have hu:Rd w g.imm g.μ (St.u3 ⟨z7 (z7 env p .junk) h (.H4 tt (ys.map f)),σ⟩) U (.H4 tt (ys.map f)):=by
  have:=s2.eval (.tmp h);rw[et2] at this;have e2:B6 (St.env ⟨z7 (z7 env p .junk) h (.H4 tt (ys.map f)),σ⟩) (.tmp h) = .H4 tt (ys.map f):=by
   exact (zc (zbm (d2 _ rfl) hs.big.1)).trans (s7 _ _ _)
  rw[show B6 (St.env ⟨V1 (St.env ⟨V1 env (some p) .junk,σ⟩) (some h) (.H4 tt (ys.map f)),σ⟩) (.tmp h) = .H4 tt (ys.map f) from e2] at this;exact this
 obtain⟨B,cB,vals,eB,hyel,G,hvr,hone,hvc⟩:=Src.reads (cl:=true) s2 hu (.inl ⟨tt,rfl,rfl⟩) (z:=z) (λy hy=>by obtain⟨e,_,rfl⟩:=zP.1 hy;exact hzz e);have N:(ys.map f).length=ys.length:=Ψ
 rw[N] at eB G hvc;have hu':=O9 hE1;have S:Nat.min ys.length ((g.μ l).n-M)=ys.length:=zce Δ;obtain⟨cs,hc⟩:=aH (a:=a3) (o:=⟨some t3,.call { callee:=.builtin .copy,args:=#[.tmp p,.tmp h],argTypes:=#[T1,T2] },ty3,p3,aft3,none⟩) rfl;have hfc:(Builtin.firstCells z ys.length U).run X.P w = .ok vals.toArray w:=by
  rw[eB];rcases m8 ys.length with q | q
  .have h0:vals = []:=zN (by rw[G,q,zb3]);subst h0;rw[q];cases B <;> simp[Builtin.firstCells,loadCells,loadCellsFrom]
  .obtain⟨bB,sB,rfl,hBc⟩:=hvc q;exact run_firstCells_some (P:=X.P) w z ys.length ⟨bB,sB,none⟩ ys.length cB vals G (λj u hj=>ΩC)
 have V:∀w',(∀A,A1=some A->(storeCells A vals).run X.P w = .ok () w')->(A1=none->w'=w)->(Builtin.copy_ #[T1,T2] ty3 #[.slice A1 ((g.μ l).n-M) ((g.μ l).C-M),U]).run X.P w = .ok (.int .i64 ys.length) w':=by
  intro w' h1 h2;have hle:(Builtin.lenOf U).run X.P w = .ok ys.length w:=by rw[eB];rfl
  cases hA:A1 with
  | none=>
   have:=h2 hA;subst this;simp only[Builtin.copy_,zt,zZ hu',zi,hle,S,F8 hz,hfc,zcj,zae,zaf];rfl
  | some A=>
   have:=h1 A hA;simp only[Builtin.copy_,zt,zZ hu',zi,hle,S,F8 hz,hfc,zcj,zae,zaf,this];rfl
 have hargs:(#[.tmp p,.tmp h]:Array Operand).map a3.eval = #[.slice A1 ((g.μ l).n-M) ((g.μ l).C-M),U]:=by simp[et1,et2]
 have fin:∀g' w' σ',σ'=z7 σ l (some ⟨zs.map f,0,opn,z,true⟩)->D1 X g' ⟨z7 (z7 env p .junk) h (.H4 tt (ys.map f)),σ'⟩ a3 w'->wpOpsIn (FX X.ρ) n X.P ops Qo (List.range' (i+3) os.length) (a3.put (some t3) (.int .i64 ys.length)) w':=λg' w' σ' eσ hS=>by
  subst eσ;exact kk hd (λj=>by have:=hi (j+3);simpa[n8,zbf 3 j] using this) n g' _ w' Qo (hS.put d3 (.cl (.int _ _))) hq
 have ezs:zs.map f=(xs.map f).take M++(ys.map f++(xs.map f).drop (M+ys.length)):=by
  rw[<-hv];simp[List.map_take,List.map_drop]
 rcases m8 ys.length with Q | Q
 .have h0:ys = []:=zN Q;have hv0:vals = []:=zN (by rw[G,Q,zb3]);subst hv0;refine vA o3.symm rfl (λc q=>Γ) (v:=.int .i64 ys.length) (w':=w) (by rw[hc,hargs];exact I2 (V w (λA _=>rfl) (λ_=>rfl))) ?_;refine fin g w σ ?_ s2;have:zs=xs:=by rw[<-hv,h0];simp
  rw[this];funext k
  by_cases e:k=l
  .subst e;rw[s7];exact hl
  .rw[r8 _ _ e]
 .have hv0:0<vals.length:=by rw[G];exact Nat.mul_pos Q hzp
  obtain⟨b,s,hA⟩:=F.spot Δ;have R:A1=some ⟨b,s+M*z,none⟩:=by
   rw[<-hA1,za Δ,hA,ww,L8]
  have hmine:∀j,j<vals.length->L2 (g.μ l) ⟨xs.map f,0,opn,z,true⟩ b (s+M*z+j):=λj hj=>⟨s,hA,Ξ,by
   have:(M+ys.length)*z<=(if opn then (g.μ l).C else (g.μ l).n)*(g.μ l).z:=by rw[H];exact zp _ ΩV
   rw[un] at this;show s+M*z+j<s+(if opn=true then (g.μ l).C else (g.μ l).n)*(g.μ l).z;omega⟩
  have hst:=run_storeCells_cells (P:=X.P) b (s+M*z) vals 0 w (λj hj=>Ω ((F.own b _ (hmine j hj)).2.1)) (λj hj=>Ω ((F.own b _ (hmine j hj)).2.2)) (λu hu=>by rw[<-GG];exact hone u hu);simp only[zam] at hst;refine vA o3.symm rfl (λc q=>Γ) (v:=.int .i64 ys.length) (w':=w.setCells b (s+M*z) vals) (by rw[hc,hargs];exact I2 (V _ (λA hA'=>by rw[R] at hA';cases hA';exact hst) (λq=>by rw[R] at q;cases q))) ?_;have hlM:((xs.map f).take M).length=M:=by simp;omega
  have hW:=s2.write (l:=l) (r:=⟨xs.map f,0,opn,z,true⟩) (b:=b) (o:=s+M*z) (vs:=vals) (els:=zs.map f) (cl:=true) hl hmine (by rw[ezs];simp;omega)
   (λx hx=>by
    obtain⟨e,_,rfl⟩:=zP.1 hx;refine⟨?_,hzz e⟩;rw[ezs] at hx;rcases zC.1 hx with q | q
    .exact (F.el _ (zak q)).1
    .rcases zC.1 q with q | q
     .exact hyel _ q
     .exact (F.el _ (zat q)).1)
   (λi x j y hx hy=>by
    rw[ezs] at hx;rcases zE i M with q | q
    .rw[zU (by rw[hlM];exact q),List.getElem?_take,zc q] at hx;obtain⟨b',s',u,k1,k2,k3,k4,k5⟩:=F.cell i x j y hx hy;rw[hA] at k1;cases k1;have hj:=PV.F1 hy;have hxz:x.cells.length=z:=(F.el x (zh hx)).2;refine⟨b,s,u,hA,?_,?_,k4,k5⟩
     .rw[me b vals (s+M*z) w _ λ_ _=>?_];·exact k2
      .left;have:(i+1)*(g.μ l).z<=M*z:=by rw[H];exact zp _ Δ
       rw[un,za7] at this;simp only;rw[H] at this |-;omega
     .exact k3.mono (Ext.refl _ _) λl' hl'=>⟨hl',rfl⟩
    .rw[zK (by rw[hlM];exact q),hlM] at hx;rcases zE (i-M) ys.length with q2 | q2
     .rw[zU (by rw[N];exact q2)] at hx;have hxz:x.cells.length=z:=by
       obtain⟨e,_,rfl⟩:=zP.1 (zh hx);exact hzz e
      have hj:=PV.F1 hy;have hlt:(i-M)*z+j<vals.length:=by
       have:(i-M+1)*z<=ys.length*z:=zp _ Δ;rw[un,za7] at this;omega
      have hrd:=hvr (i-M) x j y _ hx hy (zd hlt);have hin:=zad b vals (s+M*z) w (λj' hj'=>(F.own b _ (hmine j' hj')).2.1) _ hlt;have ei:s+i*z+j=s+M*z+((i-M)*z+j):=by
       have:i*z=M*z+(i-M)*z:=by rw[<-un];congr 1;omega
       omega
      exact⟨b,s,_,hA,by rw[H,ei];exact hin,hrd.1,λq'=>by simp at q',λ_=>hrd.2 rfl⟩
     .rw[zK (by rw[N];exact q2),N,pm,show M+ys.length+(i-M-ys.length)=i by omega] at hx;obtain⟨b',s',u,k1,k2,k3,k4,k5⟩:=F.cell i x j y hx hy;rw[hA] at k1;cases k1;refine⟨b,s,u,hA,?_,?_,k4,k5⟩
      .rw[me b vals (s+M*z) w _ λ_ _=>?_];·exact k2
       .right;have:(M+ys.length)*z<=i*(g.μ l).z:=by rw[H];exact zp _ Δ
        rw[un] at this;simp only;omega
      .exact k3.mono (Ext.refl _ _) λl' hl'=>⟨hl',rfl⟩) hv0
  exact fin g _ _ rfl hW
end
def FwC(cap:List PV):Prop:=cap = []\/∃c,cap = [.rptr [.int .i64 c]]
theorem Oa{P:Program}{σ:Nat->Option Row}{ρ:Operand->PV}{dst:Option Tmp}{f:FuncId}{args:Array Operand}{ts:Array TypeId}{x:Operand}{ds vs cap:List PV}{ls:List Nat}{d:PV}(hx:ρ x = .fn (.func f) cap)(hc:FwC cap)(hk:B0 P f)(ha:args.toList.map ρ=ds)(h:S0 P f (vs++cap) d)
  (hok:ds.all (PV.nI σ)=true:=by rfl)(hv:ds.map (PV.vw σ)=vs:=by rfl)(hl:ds.flatMap (PV.P1 σ)=ls:=by rfl):E6 P σ ρ dst (.call { callee:=.value x,args,argTypes:=ts }) d (.pM ls):=by
 subst ha;subst hv;subst hl;have key:cap.all (PV.nI σ)=true/\cap.map (PV.vw σ)=cap/\cap.flatMap (PV.P1 σ) = []:=by
  rcases hc with rfl | ⟨c,rfl⟩
  .exact⟨rfl,rfl,rfl⟩
  .exact⟨rfl,rfl,rfl⟩
 obtain⟨k1,k2,b⟩:=key;have:=E6.callF (P:=P) (σ:=σ) (dst:=dst) f args ts cap d x hx hk (by rw[List.all_append,hok,k1];rfl) (by rw[n7,k2];exact h);rw[List.flatMap_append,b,t6] at this;exact this
theorem a3g{P:Program}{σ:Nat->Option Row}{ρ:Operand->PV}{dst:Option Tmp}{T E:TypeId}{x:Operand}{xs:List Int}{n:Nat}{ds:List PV}(hx:ρ x = .rptr ds)(p:ds=xs.map (PV.int .i64))(hT:DI P T=some (n,E))(hn:xs.length=n)(hs:w9 P E=some 1):E6 P σ ρ dst (.slice T x none none none) (.H4 true (xs.map (PV.int .i64))) .none:=by
 subst p;refine .pureV _ _ (λ_=>nofun) (λ_ _=>nofun) λo w imm μ u3 ev ho hr=>?_;have s:=hr x Ωb;rw[hx] at s;obtain⟨b,off,u,e,_,hc⟩:=s.dA;have hu:P.underlying T=some (.array n E):=by
  unfold DI at hT;split at hT;·rename_i h';cases hT;exact h'
  .cases hT
 refine⟨.slice (some ⟨b,off,none⟩) (xs.map (PV.int .i64)).length n,?_,.cl (.H4 _ n 1 true _ (λi _=>u i) ΩA (λ_=>ΩA) (λq=>Γ) (λy hy=>by obtain⟨i,_,rfl⟩:=zP.1 hy;exact⟨rfl,rfl⟩) (λ_=>⟨b,off,rfl,λi y j z hy hz=>?_⟩) λi y j z hy hz=>?_)⟩
 .simp only[execOp,ho,Option.map_none];refine I2 ?_;have key:=yG (P:=P) (w:=w) (n:=n) (l:=none) (u:=none) (i:=0) (j:=n) (md _) Δ (md _) (.inl ⟨rfl,rfl⟩) (.inl ⟨rfl,rfl⟩);simp only[Instr.sliceAt,Instr.sureAddr,e,zt,zZ hu,zi,or,key,F8 hs,zX,hn];have:(if n=(0:Int).toNat then (⟨b,off,none⟩:Addr) else Addr.add ⟨b,off,none⟩ ((0:Int).toNat*1))=⟨b,off,none⟩:=by
   split;·rfl
   .rfl
  rw[this];simp
 .have hj:j=0:=by
   obtain⟨v,_,rfl⟩:=zP.1 (zh hy);have:=(zA.1 hz).1;simp[PV.cells] at this;exact this
  subst hj;have c:(xs.map (PV.int .i64))[i]? = some z:=by
   obtain⟨v,_,rfl⟩:=zP.1 (zh hy);have m:z = .int .i64 v:=Δv
   rw[m];exact hy
  obtain⟨h,A,_⟩:=hc i z c;rw[zb5,zam];exact⟨h,A⟩
 .have hj:j=0:=by
   obtain⟨v,_,rfl⟩:=zP.1 (zh hy);have:=(zA.1 hz).1;simp[PV.cells] at this;exact this
  subst hj;have c:(xs.map (PV.int .i64))[i]? = some z:=by
   obtain⟨v,_,rfl⟩:=zP.1 (zh hy);have m:z = .int .i64 v:=Δv
   rw[m];exact hy
  exact (hc i z c).2.2
theorem bytes_beq(a b:ByteArray):(a==b)=true↔a=b:=by
 obtain⟨x⟩:=a;obtain⟨y⟩:=b;constructor
 .intro h;have e:x=y:=by simpa using (show (x==y)=true from h)
  rw[e]
 .intro h;have e:x=y:=m9 ByteArray.data h;show (x==y)=true;simpa using e
theorem ym{n:ByteArray}:∀(ents:List MapEntry) (ks:List ByteArray) (b:Nat),ents.length=ks.length->(∀(i:Nat) e k,ents[i]? = some e->ks[i]? = some k->e.key = .string k) ->
  Instr.findNow .string (.string n) ents b=some ((oI ks n).bind λi=>ents[i]?.map λe=>(b+i,e.val))
 | [],[],b,_,_=>rfl
 | e::ents,[],_,h,_=>by simp at h
 | [],k::ks,_,h,_=>by simp at h
 | e::ents,k::ks,b,hl,h=>by
  have h0:=h 0 e k rfl rfl;rw[Instr.findNow,h0,oI];simp only[Instr.sameNow];cases q:(n==k)
  .simp only[zj,wf];rw[ym ents ks (b+1) (Ω hl) λi c k' m o=>h (i+1) c k' (Ω m) (Ω o)];cases oI ks n with
   | none=>rfl
   | some j=>
    simp only[zbw,ww,zaf];rw[n8,zbf 1 j]
  .simp
theorem O3{P:Program}{kt:TypeId}(h:P.underlying kt=some .string):yM P kt PV.str where
 check b hr:=by
  cases hr
  unfold Instr.checkKey
  simp only[zt,zZ h,zi]
  rfl
 find ents ks hr hk:=by
  cases hr
  unfold Instr.findKey
  simp only[zt,zZ h,zi]
  rw[ym ents ks 0 hk.1 λi e k c j=>by
   have:=hk.2 i e k c j
   cases m:e.key <;> rw[m] at this <;> cases this
   rfl]
  simp only[m7]
  rfl
 stays c j he:=by
  cases c
  cases j
  rename_i k u
  have:k=u:=(bytes_beq k u).1 he
  subst this
  unfold Instr.keyThatStays
  rw[zc (by simp only[Instr.sameBits];exact he)]
  rfl
 iD k:=⟨rfl,rfl⟩
 eq k u h:=(bytes_beq k u).1 h
end Go.Pw
namespace Go.Sh
def sL:Nat->Nat->List UInt8
 | 0,_=>[]
 | k+1,u=>if u<10 then [UInt8.ofNat (48+u)] else sL k (u / 10) ++ [UInt8.ofNat (48+u % 10)]
def nB(n:Int):Option ByteArray:=if -9223372036854775808<=n/\n<=9223372036854775807 then some (r9 (if n<0 then 45::sL 20 n.natAbs else sL 20 n.toNat)) else none
def xU(s sep:ByteArray):Option (List ByteArray):=if s.size<4294967281/\1<=sep.size then some (Go.Lib.splitB sep 0 (Go.Lib.countB s sep) s) else none
theorem FQ:∀(k u:Nat),u<10 ^ (k+1)->sL (k+1) u=Go.Lib.decDigits u
 | 0,u,h=>by
  rw[sL,Go.Lib.decDigits,zc (Ω h),dif_pos (Ω h)]
 | k+1,u,h=>by
  rw[sL,Go.Lib.decDigits];split;·rfl
  .rw[FQ k (u / 10) (by rw[Nat.pow_succ] at h;omega)]
end Go.Sh
namespace Go.Pw
open Go.RowKit Go.Sh Go.Proofs Go.Shelf Go.Sort
variable{P:Program}{ρ:Ren}
theorem XN(L:LaysM.n171 P ρ)(hn:P.globalNamed (Kr P)≠none)(ht:∀w,Lib.TabIs P w (Kr P) .u64 Lib.pow10Tab->∀n:Int,-9223372036854775808<=n->n<=9223372036854775807->Calls P (ρ.f 171) #[.int .i64 n] w λe w'=>e = .returned (.string ⟨(Lib.itoa n).toArray⟩)/\∃k os,w'=grow (w.drewN k) os){n:Int}{r:ByteArray}(h:nB n=some r):S0 P (ρ.f 171) [.int .i64 n] (.str r):=by
 unfold nB at h;split at h;case isFalse=>cases h
 rename_i hb;have h:=t8 h;intro w imm vs s p hr;obtain⟨g,q⟩:=Option.ne_none_iff_exists'.1 hn;have hT:=p.1 g q;have b:vs = #[.int .i64 n]:=by
  obtain⟨j,m⟩:=hr;have o:vs.size=1:=j;have:=m 0 vs[0] (.int .i64 n) (zu Δ) rfl;apply Array.ext (Ω o);intro i u c;have hi:i=0:=by simp at c;exact c
  subst hi;show vs[0]=Value.int .i64 n;generalize vs[0]=v at this;cases this;rfl
 subst b;refine (ht w hT n hb.1 hb.2).mono λe w' ⟨he,k,os,hw⟩=>⟨_,he,by rw[hw];exact BF k os,?_⟩;have:(⟨(Lib.itoa n).toArray⟩:ByteArray)=r:=by
  rw[<-h];unfold Lib.itoa;congr 1;split;·rw[FQ 19 _ Δ]
  .rw[FQ 19 _ Δ]
 rw[this];exact .str _
theorem Ua(L:Lays.n146 P ρ)(c:(P.info? (ρ.t 9)).map (λi=>(i.zero,i.size,i.bytes))=some (some (.string ByteArray.empty),1,16))(C:a2T=some (ρ.g 1)){s sep:ByteArray}{xs:List ByteArray}(h:xU s sep=some xs):S0 P (ρ.f 146) [.str s,.str sep] (.H4 false (xs.map PV.str)):=by
 unfold xU at h;split at h;case isFalse=>cases h
 rename_i hb;have h:=t8 h;intro w imm vs E B hr;obtain⟨m,hm⟩:=B.2 _ C;have n:vs = #[.string s,.string sep]:=by
  obtain⟨x,p⟩:=hr;have A:vs.size=2:=x;have u:=p 0 vs[0] (.str s) (zu Δ) rfl;have k1:=p 1 vs[1] (.str sep) (zu Δ) rfl;apply Array.ext (Ω A);intro i G F;rcases i with _ | _ | i
  .show vs[0]=Value.string s;generalize vs[0]=v at u;cases u;rfl
  .show vs[1]=Value.string sep;generalize vs[1]=v at k1;cases k1;rfl
  .simp at F;omega
 subst n;have hlen:=Lib.splitB_all sep hb.2 0 _ s rfl;refine (Any.strings_Split L c s sep m w hb.1 hm hb.2).mono λe w' ⟨he,hw⟩=>⟨_,he,by rw[hw];exact (lG.refl _ _).alloc (zq _) _,?_⟩;rw[h] at hlen hw;have hx:(xs.map PV.str).length=Lib.countB s sep+1:=Ω hlen
 rw[<-hx];subst hw;refine .H4 _ _ 1 false _ (λi _=>.string (xs.getD i ByteArray.empty)) (zq _) (λq=>Γ) (λq=>Γ) (λy hy=>by obtain⟨i,_,rfl⟩:=zP.1 hy;exact⟨rfl,rfl⟩) (λ_=>⟨w.heap.size,0,rfl,λi y j z hy hz=>?_⟩) λi y j z hy hz=>?_
 .rw[zW] at hy;cases b:xs[i]? with
  | none=>rw[b] at hy;cases hy
  | some v=>
   rw[b] at hy;cases hy;have hj:j=0:=by
    have:=(zA.1 hz).1;simp[PV.cells] at this;exact this
   subst hj;have hl:=(zA.1 b).1;refine⟨.inr ⟨zq _,Ψ⟩,?_⟩;rw[zci];simp[b,zg]
 .rw[zW] at hy;cases b:xs[i]? with
  | none=>rw[b] at hy;cases hy
  | some v=>
   rw[b] at hy;cases hy;have hj:j=0:=by
    have:=(zA.1 hz).1;simp[PV.cells] at this;exact this
   subst hj;have o:z = .str v:=Δv
   subst o;simp only[zg,b,wp];exact .str _
end Go.Pw
namespace Go.Pw
open Go.RowKit Go.Sh
abbrev tZ{α:Type}(f:α->PV)(xs:List α)(k r:Nat):List PV:=(xs.map f).set k (.sl r)
theorem a2N{α:Type}{xs:List α}{i:Int}{v:α}(h:ix xs i=some v):i.toNat<xs.length:=(zA.1 (BK h).2).1
section
variable{X:Ctx}{g:Gh}{st:St}{a:Act}{w:World}
theorem D1.Zr(h:D1 X g st a w){l0 k:Nat}{m:Row}{y y':PV}{cl':Bool}(hl:st.σ l0=some m)(G:l0<MB)(hk:m.els[k]? = some y)(H:y.cells = [y])(B:y'.cells = [y'])(hel:y'.el=true)
  (hr:∀b s v,(g.μ l0).A=some ⟨b,s,none⟩->w.cell? ⟨b,s+k*(g.μ l0).z+0,none⟩=some v->Rd w g.imm g.μ st.u3 v y->Rd w g.imm g.μ st.u3 v y')
  (hcl:cl'=true->∀(i:Nat) x (j:Nat) c,(m.els.set k y')[i]? = some x->x.cells[j]? = some c->c.iD=true) :
  D1 X g ⟨st.env,z7 st.σ l0 (some ⟨m.els.set k y',m.lo,m.opn,m.z,cl'⟩)⟩ a w:=by
 have hp:∀l,st.u3 l->St.u3 ⟨st.env,z7 st.σ l0 (some ⟨m.els.set k y',m.lo,m.opn,m.z,cl'⟩)⟩ l/\g.μ l=g.μ l:=by
  rintro l ⟨r,hr⟩;refine⟨?_,rfl⟩;by_cases e:l=l0
  .subst e;exact⟨_,s7 _ _ _⟩
  .exact⟨r,by rw[<-hr];exact r8 _ _ e⟩
 have p:=h.rows l0 m hl;have F:=(zA.1 hk).1;have S:=p.el y (zh hk);have V:m.z=1:=by rw[<-S.2,H];rfl
 have hcase:∀l r,z7 st.σ l0 (some ⟨m.els.set k y',m.lo,m.opn,m.z,cl'⟩) l=some r->∃E,st.σ l=some E/\(∀b o,L2 (g.μ l) r b o->L2 (g.μ l) E b o):=by
  intro l r q;by_cases e:l=l0
  .subst e;rw[s7] at q;cases q;exact⟨m,hl,λ_ _ q=>q⟩
  .rw[r8 _ _ e] at q;exact⟨r,q,λ_ _ q=>q⟩
 refine⟨h.size,λi=>(h.env i).mono (Ext.refl _ _) hp,λl r q=>?_,λl l' r r' R q q' b o ho k=>?_,λl r b o q ho=>?_,h.immlt,h.immsub,h.immsup,h.below,h.marks,h.obs,h.big,h.maps.z7 hl (λq=>absurd G (Nat.not_lt.2 q)) λq=>absurd G (Nat.not_lt.2 q)⟩
 .by_cases e:l=l0
  .subst e;rw[show (St.mk st.env (z7 st.σ l (some ⟨m.els.set k y',m.lo,m.opn,m.z,cl'⟩))).σ l=_ from s7 _ _ _] at q;cases q;refine⟨by rw[p.n];simp,p.z,p.C,Ω p.lo,λz hz=>?_,p.nil,p.spot,λi z j c hz hc=>?_,λb o ho=>p.own b o ho⟩
   .rcases zan hz with q | rfl
    .exact p.el z q
    .exact⟨hel,by rw[B,V];rfl⟩
   .by_cases ei:i=k
    .subst ei;rw[zaa F] at hz;cases hz;rw[B] at hc;have hj:j=0:=by
      have:=(zA.1 hc).1;simpa using this
     subst hj;cases hc;obtain⟨b,s,u,k1,k2,N,k4,k5⟩:=p.cell i y 0 y hk (by rw[H];rfl);have h3:=(hr b s u k1 k2 N).mono (Ext.refl _ _) hp;exact⟨b,s,u,k1,k2,h3,k4,λq=>h3.iD (hcl q i y' 0 y' (zaa F) (by rw[B];rfl))⟩
    .have T:=hz;rw[zb0 (zav ei)] at hz;obtain⟨b,s,u,k1,k2,N,k4,k5⟩:=p.cell i z j c hz hc;exact⟨b,s,u,k1,k2,N.mono (Ext.refl _ _) hp,k4,λq=>N.iD (hcl q i z j c T hc)⟩
  .rw[show (St.mk st.env (z7 st.σ l0 (some ⟨m.els.set k y',m.lo,m.opn,m.z,cl'⟩))).σ l=st.σ l from r8 _ _ e] at q;exact (h.rows l r q).mono (Ext.refl _ _) hp λ_ _ _=>⟨rfl,rfl⟩
 .obtain⟨E,Q,k1⟩:=hcase l r q;obtain⟨r2,h2,k2⟩:=hcase l' r' q';exact h.disj l l' E r2 R Q h2 b o (k1 b o ho) (k2 b o k)
 .obtain⟨E,Q,k1⟩:=hcase l r q;exact h.ownimm l E b o Q (k1 b o ho)
end
variable {α:Type}{f:α->PV}{xs:List α}{k r:Nat}
theorem a15{s:St}{l lo z zz:Nat}{opn cl:Bool}(hl:s.σ l=some ⟨(xs.map f).set k (.H4 true []),lo,opn,zz,cl⟩)(hk:k<xs.length)(hr:s.σ r=none)(B:(l==r)=false)(x:l<MB:=by exact zF rfl)(C:r<MB:=by exact zF rfl) :
  Wk s ⟨s.env,z7 (z7 s.σ r (some ⟨[],0,true,z,true⟩)) l (some ⟨tZ f xs k r,lo,opn,zz,false⟩)⟩:=λX g a w h=>by
 have j:l≠r:=Ω B
 have n:k<(xs.map f).length:=Ω hk
 have H:=h.rows l _ hl;obtain⟨b0,s0,u,o,hu,hv,_,_⟩:=H.cell k (.H4 true []) 0 (.H4 true []) (zaa n) rfl;obtain⟨A,c,S,R,e,N,G,Q,_⟩:=hv.ji;have hc:=G rfl;simp only[zT] at hc e;subst hc;have hs:=h.AV (l:=r) (A:=A) (xs:=[]) (z:=z) C hr (λ_=>rfl) (λ_ q=>Γ) (λq=>absurd q (zb7 _)) true;have p:(St.mk s.env (z7 s.σ r (some ⟨[],0,true,z,true⟩))).σ l=some ⟨(xs.map f).set k (.H4 true []),lo,opn,zz,cl⟩:=by rw[<-hl];exact r8 _ _ j
 have E:D1 X ⟨g.imm,z7 g.μ r ⟨A,0,0,z⟩⟩ ⟨s.env,z7 s.σ r (some ⟨[],0,true,z,true⟩)⟩ a w:=hs;have F:z7 g.μ r ⟨A,0,0,z⟩ l=g.μ l:=r8 _ _ j;have:=E.Zr (k:=k) (y:=.H4 true []) (y':=.sl r) (cl':=false) p x (zaa n) rfl rfl rfl (λb s1 v k1 k2 _=>by
  simp only[F] at k1 k2;rw[o] at k1;cases k1;rw[hu] at k2;cases k2;rw[e];exact fL (m:=⟨A,0,0,z⟩) ⟨_,s7 _ _ _⟩ (s7 _ _ _)) (λq=>Γ)
 rw[zcn] at this;exact⟨_,this⟩
theorem a14{s:St}{β:Type}{gE:β->PV}{ys:List β}{v:α}{l lo zz:Nat}{opn:Bool}{rr:Row}(hl:s.σ l=some ⟨tZ f xs k r,lo,opn,zz,false⟩)(hk:k<xs.length)(hr:s.σ r=some rr)(he:rr.els=ys.map gE)(q:rr.cl=true)(hv:f v = .H4 false (ys.map gE))(hf:∀x,(f x).cells.all PV.iD=true)(p:(l==r)=false)(o:l<MB:=by exact zF rfl) :
  Wk s ⟨s.env,z7 (T0 s.σ [r]) l (some ⟨(xs.set k v).map f,lo,opn,zz,true⟩)⟩:=λX g a w h=>by
 have m:l≠r:=Ω p
 have e:k<(xs.map f).length:=Ω hk
 obtain⟨imm',A,B,C⟩:=h.T0 [r];have n:(St.mk s.env (T0 s.σ [r])).σ l=some ⟨tZ f xs k r,lo,opn,zz,false⟩:=by
  rw[<-hl];show lQ s.σ r l=_;simp only[lQ,hr];exact r8 _ _ m
 have key:=A.Zr (k:=k) (y:=.sl r) (y':=.H4 false (ys.map gE)) (cl':=true) n o (zaa e) rfl rfl rfl (λb s1 u k1 k2 _=>by
  obtain⟨H,s',N,E,F,G,_,_⟩:=(h.rows l _ hl).cell k (.sl r) 0 (.sl r) (zaa e) rfl;rw[E] at k1;cases k1;rw[F] at k2;cases k2;have hok:(PV.sl r).nI s.σ=true:=by simp only[PV.nI,PV.pF,PV.nF,PV.eN,hr,q]
  have:=(h.view B G hok (by simpa[PV.P1,PV.aO,PV.T7,PV.dh] using C)).w2;rw[show (PV.sl r).view s.σ = .H4 false (ys.map gE) by simp only[PV.view,PV.v3,PV.v2,PV.v0,hr,he]] at this;exact .cl this) (λ_ i x j c hx hc=>by
  have z:((xs.set k v).map f)[i]? = some x:=by
   rw[zbt,hv];rw[<-zcn (a:=.sl r)];exact hx
  obtain⟨x0,_,rfl⟩:=zP.1 (zh z);exact zf.1 (hf x0) c (zh hc))
 rw[zcn,<-hv,<-zbt] at key;exact⟨_,key⟩
theorem xM{π:Nat->Nat}{R:List (Nat × Row)}{σ:Nat->Option Row}{l:Nat}{b r':Row}(h:σ (π l)=some b)(hz:b.z=r'.z)(hl:b.lo=r'.lo)(ho:r'.opn=true->b.opn=true)(hc:r'.cl=false)(he:b.els=tZ f xs k (π r))(c:r'.els=tZ f xs k r)
  (p:(R.lookup r).isSome=true)(m:∀x,(f x).Aa π=f x)(n:∀x,qU (f x)=true)(o:∀x,(f x).refs = [])(hm:Zo l (π l) b.cl r'.cl=true:=by rfl):kM π R σ (l,r'):=by
 refine⟨b,h,hm,hz,hl,ho,λq=>(by
  have j:r'.cl=true:=q;rw[hc] at j;cases j),.inr ⟨hc,?_,?_,?_⟩⟩
 .show b.els=r'.els.map (PV.Aa π);rw[he,c,zbt,List.map_map,show (PV.Aa π ∘ f)=f from funext m];rfl
 .show r'.els.all qU=true;rw[c,zf];intro y hy;rcases zan hy with q | rfl
  .obtain⟨x,_,rfl⟩:=zP.1 q;exact n x
  .rfl
 .show (r'.els.flatMap PV.refs).all (λl=>(R.lookup l).isSome)=true;rw[c,zf];intro y hy;obtain⟨z,hz,e⟩:=mt.1 hy;rcases zan hz with q | rfl
  .obtain⟨x,_,rfl⟩:=zP.1 q;rw[o x] at e;cases e
  .have:y=r:=by simpa[PV.refs,PV.EH,PV.yE] using e
   subst this;exact p
section
variable{P:Program}{σ:Nat->Option Row}{ρ:Operand->PV}{dst:Option Tmp}
theorem Zm{α:Type}{f:α->PV}{xs:List α}{e:α}{T E:TypeId}{x y:Operand}{l z r k':Nat}{rr:Row}{k:IntKind}{n:Int}(h:ix xs n=some e)(hx:ρ x = .sl l)(hl:σ l=some rr)(he:rr.els=tZ f xs k' r)(hy:ρ y = .int k n)(hE:C1 P T=some E)(hz:w9 P E=some z)(hrz:rr.z=z) :
  E6 P σ ρ dst (.indexAddr T x y) (.ptr l n.toNat 0) .none:=by
 subst hrz;obtain⟨h0,c⟩:=lS f h;have b:=(zA.1 c).1;exact .idxR T x y l rr k n E hx hl hy h0 (by rw[he];simpa using b) hE hz
theorem a3d{α:Type}{f:α->PV}{xs:List α}{e:α}{T:TypeId}{x:Operand}{l r:Nat}{rr:Row}{n:Int}(h:ix xs n=some e)(hx:ρ x = .ptr l n.toNat 0)(hl:σ l=some rr)(he:rr.els=tZ f xs n.toNat r)(ha:I4 P T=some false):E6 P σ ρ dst (.load T x) (.sl r) .none:=by
 have b:=(zA.1 (lS f h).2).1;exact .mG T x l n.toNat 0 rr (.sl r) (.sl r) hx hl (by rw[he];exact zaa b) ha rfl
end
section
variable{P:Program}{ops:Array Oper}{bar:List Nat}{i:Nat}{os:List Oper}{K:St->Prop}{env:Nat->PV}{σ:Nat->Option Row}{ty:TypeId}{pos:String}{after:Array Edge}{gd:Option (Nat × Bool)}
theorem a2w{α:Type}{f:α->PV}{xs:List α}{e:α}{m:Int}{x y:Operand}{T:TypeId}{l r b:Nat}{opn:Bool}{z:Nat}(h:ix xs m=some e)(hw:D9 ops env ⟨none,.store T x y,ty,pos,after,gd⟩=some true)(hx:B6 env x = .ptr l m.toNat 0)(hy:B6 env y = .sl b)(hs:w9 P T=some 1)
  (hl:σ l=some ⟨tZ f xs m.toNat r,0,opn,z,false⟩)(k:Ex P ops bar true (i+1) os ⟨env,z7 σ l (some ⟨tZ f xs m.toNat b,0,opn,z,false⟩)⟩ K)
  (ht:(kept bar).contains l=false:=by rfl)(j:cls bar i (.store T x y)=4:=by rfl):Ex P ops bar true i (⟨none,.store T x y,ty,pos,after,gd⟩::os) ⟨env,σ⟩ K:=by
 have c:=(zA.1 (lS f h).2).1;refine Zz (x:=.sl r) (x':=.sl b) (cs:=[.sl b]) (es:=tZ f xs m.toNat b) hw (rU (d:=.sl b) hx (.inl hy) rfl rfl hs (Nat.zero_lt_one) rfl) hl (zaa c) (rg _) (zq _) rfl (cl:=false) rfl rfl ?_ (λ_=>?_) (λ_=>by rw[j];trivial) k;·exact zcn ..
 .simp only[Y5.off,ht];rfl
end
section
variable{X:Ctx}{ops:Array Oper}{i:Nat}{os:List Oper}{K:Ctx->St->Prop}{env:Nat->PV}{σ:Nat->Option Row}{ty:TypeId}{pos:String}{after:Array Edge}{gd:Option (Nat × Bool)}
theorem YG{α:Type}{f:α->PV}{xs:List α}{e:α}{m:Int}{x y:Operand}{T:TypeId}(r z:Nat){l:Nat}{opn:Bool}{zz:Nat}(h:ix xs m=some e)(hw:D9 ops env ⟨none,.store T x y,ty,pos,after,gd⟩=some true)(hx:B6 env x = .ptr l m.toNat 0)(hy:B6 env y = .H4 true [])(hs:w9 X.P T=some 1)
  (hl:σ l=some ⟨xs.map f,0,opn,zz,true⟩)(hr:σ r=none)(j:(l==r)=false)(hsc:(f e).cells.length=1)
  (k:Sq X ops (i+1) os K ⟨env,z7 (z7 σ r (some ⟨[],0,true,z,true⟩)) l (some ⟨tZ f xs m.toNat r,0,opn,zz,false⟩)⟩)(p:l<MB:=by exact zF rfl)(u:r<MB:=by exact zF rfl)(o:K7 (f e) 0 [.H4 true []] = .H4 true []:=by rfl) :
  Sq X ops i (⟨none,.store T x y,ty,pos,after,gd⟩::os) K ⟨env,σ⟩:=by
 have b:=(lS f h).2;have s:=(zA.1 b).1;have c:m.toNat<xs.length:=Ω s
 have n:l≠r:=Ω j
 have h0:E6 X.P σ (B6 env) none (.store T x y) (.tup []) (.sto l m.toNat 0 [.H4 true []]):=rU (d:=.H4 true []) hx (.inl hy) rfl rfl hs Nat.zero_lt_one rfl;refine pX (X:=X) (K:=K) (os:=os) (i:=i) (ops:=ops) (st:=⟨env,σ⟩) (.run (.tup []) (.sto l m.toNat 0 [.H4 true []]) hw h0 ⟨H7.refl _,H2.refl _⟩ ⟨_,f e,hl,b,rg _,by rw[hsc];exact zq _,rfl⟩ (λq=>nomatch q) (λq=>nomatch q)) ?_;simp only[Y5.apply,hl,b,o];refine Q2 (a15 (f:=f) (xs:=xs) (k:=m.toNat) (r:=r) (z:=z) (l:=l) (lo:=0) (opn:=opn) (zz:=zz) (s7 _ _ _) c ((r8 _ _ n.symm).trans hr) j p u) ?_;have:z7 (z7 (z7 σ l (some ⟨(xs.map f).set m.toNat (.H4 true []),0,opn,zz,true && [PV.H4 true []].all PV.aP⟩)) r (some ⟨[],0,true,z,true⟩)) l (some ⟨tZ f xs m.toNat r,0,opn,zz,false⟩)=z7 (z7 σ r (some ⟨[],0,true,z,true⟩)) l (some ⟨tZ f xs m.toNat r,0,opn,zz,false⟩):=by
  funext i
  unfold z7;split;·rfl
  .split <;> rfl
 rw[this];exact k
end
end Go.Pw
