/-
 Several texts of one kind, one behind the other.
-/
import Derived.Test.YtppgkaeodaaidaaGreatDoorU3tPwC
import Derived.Shelf.SlSortCmp.Kit1
import Derived.Sort.AssemblyPlain
import Derived.Lib.BitFns
import Derived.Lib.RowBridge
import Derived.Shelf.SlSortCmp.Whole1
import Derived.Shelf.SortM.Plain
import Derived.Shelf.SortM.SortNone
set_option linter.unusedVariables false
set_option linter.unusedSimpArgs false
set_option linter.unusedSectionVars false
namespace Go.Sh
def b06(c:Int→Int→Option Int):Prop:=(∀x y,(c x y).isSome=true)∧Go.Sort.SWO (Go.Proofs.ltOf λx y=>(c x y).getD 0)
def b2K(c:Int→Int→Option Int)(x:Int):List Int→Option (List Int)
 | []=>some [x]
 | y::r=>match c x y with
  | none=>none
  | some a=>if a<0 then some (x::y::r) else match c y x with
   | none=>none
   | some b=>if b<0 then (b2K c x r).map (y :: ·) else none
def isC(c:Int→Int→Option Int):List Int→Option (List Int)
 | []=>some []
 | x::r=>(isC c r).bind (b2K c x)
noncomputable def a7I(c:Int→Int→Option Int)(xs:List Int):Option (List Int):=
 if xs.length<4611686018427387904 then match isC c xs with
  | some ys=>some ys
  | none=>some (Go.Sort.pdq (Go.Proofs.ltOf λx y=>(c x y).getD 0) xs.toArray 0 xs.length (Go.Lib.bitLen xs.length) true true).toList
 else none
theorem a8B{c:Int→Int→Option Int}(hO:Go.Sort.SWO (Go.Proofs.ltOf λx y=>(c x y).getD 0))(x:Int):∀ {l ys:List Int},b2K c x l=some ys→ys.Perm (x::l)∧(l.Pairwise (λa b=>Go.Proofs.ltOf (λx y=>(c x y).getD 0) a b=true)→ys.Pairwise (λa b=>Go.Proofs.ltOf (λx y=>(c x y).getD 0) a b=true))
 | [],ys,h=>by
  cases h;exact⟨.refl _,λ_=>List.pairwise_singleton _ _⟩
 | y::r,ys,h=>by
  unfold b2K at h;split at h;·cases h
  rename_i a ha;split at h
  ·rename_i q;cases h;refine⟨.refl _,λhp=>List.pairwise_cons.2 ⟨λz hz=>?_,hp⟩⟩;have hxy:Go.Proofs.ltOf (λx y=>(c x y).getD 0) x y=true:=by
    show decide ((c x y).getD 0<0)=true;rw[ha];exact decide_eq_true q
   rcases List.mem_cons.1 hz with e | e
   ·rw[e];exact hxy
   ·exact hO.trans _ _ _ hxy ((List.pairwise_cons.1 hp).1 z e)
  split at h;·cases h
  rename_i b hb;split at h;case isFalse=>cases h
  rename_i q;cases hi:b2K c x r with
  | none=>rw[hi] at h;cases h
  | some zs=>
   rw[hi] at h;cases h;obtain⟨h1,h2⟩:=a8B hO x hi;refine⟨(h1.cons y).trans (List.Perm.swap x y r),λhp=>List.pairwise_cons.2 ⟨λz hz=>?_,h2 (List.pairwise_cons.1 hp).2⟩⟩;rcases List.mem_cons.1 (h1.mem_iff.1 hz) with e | e
   ·rw[e];show decide ((c y x).getD 0<0)=true;rw[hb];exact decide_eq_true q
   ·exact (List.pairwise_cons.1 hp).1 z e
theorem a95{c:Int→Int→Option Int}(hO:Go.Sort.SWO (Go.Proofs.ltOf λx y=>(c x y).getD 0)):∀ {l ys:List Int},isC c l=some ys→ys.Perm l∧ys.Pairwise (λa b=>Go.Proofs.ltOf (λx y=>(c x y).getD 0) a b=true)
 | [],ys,h=>by
  cases h;exact⟨.refl _,.nil⟩
 | x::r,ys,h=>by
  unfold isC at h;cases hi:isC c r with
  | none=>rw[hi] at h;cases h
  | some zs=>
   rw[hi] at h;obtain⟨h1,h2⟩:=a95 hO hi;obtain⟨h3,h4⟩:=a8B hO x h;exact⟨h3.trans (h1.cons x),h4 h2⟩
theorem b0i{lt:Int→Int→Bool}:∀ {l m:List Int},l.Perm m→l.Pairwise (λa b=>lt a b=true)→m.Pairwise (λa b=>lt b a=false)→l=m
 | [],m,hp,_,_=>(List.nil_perm.1 hp).symm
 | a::l,[],hp,_,_=>by simp at hp
 | a::l,b::m,hp,h1,h2=>by
  have ha:=List.pairwise_cons.1 h1;have hb:=List.pairwise_cons.1 h2;have e:a=b:=by
   have m1:b∈a::l:=hp.mem_iff.2 (List.mem_cons_self ..);have m2:a∈b::m:=hp.mem_iff.1 (List.mem_cons_self ..);rcases List.mem_cons.1 m1 with q | q
   ·exact q.symm
   rcases List.mem_cons.1 m2 with q' | q'
   ·exact q'
   have:=ha.1 b q;rw[hb.1 a q'] at this;cases this
  subst e;rw[b0i (List.perm_cons a |>.1 hp) ha.2 hb.2]
theorem b25{lt:Int→Int→Bool}(hO:Go.Sort.SWO lt)(xs:List Int) :
  (Go.Sort.pdq lt xs.toArray 0 xs.length (Go.Lib.bitLen xs.length) true true).toList.Perm xs∧(Go.Sort.pdq lt xs.toArray 0 xs.length (Go.Lib.bitLen xs.length) true true).toList.Pairwise (λa b=>lt b a=false):=by
 obtain⟨⟨p1,p2,p3⟩,p4⟩:=Go.Sort.pdq_sorts lt hO xs.toArray 0 xs.length (Go.Lib.bitLen xs.length) true true (Nat.zero_le _) (by simp) (Or.inl rfl);generalize Go.Sort.pdq lt xs.toArray 0 xs.length (Go.Lib.bitLen xs.length) true true=d at p1 p2 p3 p4 ⊢;have hs:d.size=xs.length:=by simpa using p1
 refine⟨?_,?_⟩
 ·have e1:d.extract 0 xs.length=d:=by rw[←hs];exact Array.extract_size
  have e2:xs.toArray.extract 0 xs.length=xs.toArray:=by simp
  rw[e1,e2] at p3;simpa using p3
 ·rw[List.pairwise_iff_getElem];intro i j hi hj hij;have hi':i<d.size:=by simpa using hi
  have hj':j<d.size:=by simpa using hj
  have:=p4 i j (Nat.zero_le _) hij (by omega);rw[getElem!_pos d j hj',getElem!_pos d i hi'] at this;simpa using this
theorem b19{c:Int→Int→Option Int}(hO:b06 c){xs ys:List Int}(h:a7I c xs=some ys):xs.length<4611686018427387904∧(Go.Sort.pdq (Go.Proofs.ltOf λx y=>(c x y).getD 0) xs.toArray 0 xs.length (Go.Lib.bitLen xs.length) true true).toList=ys:=by
 unfold a7I at h;split at h;case isFalse=>cases h
 rename_i hl;refine⟨hl,?_⟩;split at h
 ·rename_i zs hz;cases h;obtain⟨h1,h2⟩:=a95 hO.2 hz;obtain⟨h3,h4⟩:=b25 hO.2 xs;exact (b0i (h1.trans h3.symm) h2 h4).symm
 ·exact Option.some.inj h
theorem b29{c:Int→Int→Option Int}(key:Int→Int)(hc:∀x y,∃r,c x y=some r∧(r<0↔key x<key y)):b06 c:=by
 have hlt:∀x y,Go.Proofs.ltOf (λx y=>(c x y).getD 0) x y=decide (key x<key y):=λx y=>by
  obtain⟨r,h1,h2⟩:=hc x y;show decide ((c x y).getD 0<0)=_;rw[h1,Option.getD_some];exact decide_eq_decide.2 h2
 refine⟨λx y=>?_,⟨λx=>?_,λx y z=>?_,λx y z=>?_⟩⟩
 ·obtain⟨r,h1,_⟩:=hc x y;rw[h1];rfl
 ·rw[hlt];simp
 ·rw[hlt,hlt,hlt];simp;omega
 ·rw[hlt,hlt,hlt];simp;omega
theorem b6W(a b:Int):∃r,((if decide (a<b) then some (-1:Int) else if decide (a > b) then some 1 else some 0).bind λv=>some v)=some r∧(r<0↔a<b):=by
 by_cases h1:a<b
 ·rw[decide_eq_true h1];exact⟨-1,rfl,by simp[h1]⟩
 ·rw[decide_eq_false h1];by_cases h2:a > b
  ·rw[decide_eq_true h2];exact⟨1,rfl,by simp[h1]⟩
  ·rw[decide_eq_false h2];exact⟨0,rfl,by simp[h1]⟩
end Go.Sh
namespace Go.Pw
open Go.RowKit Go.Sort Go.Proofs
structure a8S (P:Program) (f:FuncId):Prop where
 some_:∀(cf:Int→Int→Int) (hO:SWO (ltOf cf)) (g:Nat) (cb:Array Value) (blk off cap:Nat) (d:Array Int) (w:World),(∀args w,(callFunc g args).run P w = .ok (.enter g args) w) →
  CmpLays1 P g cb (Value.int .i64) cf blk off d.size w→Holds (Value.int .i64) w blk off d→blk<w.heap.size→d.size<4611686018427387904 →
  Calls P f #[.slice (some ⟨blk,off,none⟩) d.size cap,.func (.func g) #[] cb] w λe w'=>
   e = .returned (.tuple #[])∧∃n os,w'=sortWorld (Value.int .i64) w blk off n (pdq (ltOf cf) d 0 d.size (Lib.bitLen d.size) true true) os
 none_:∀(g:Nat) (cb:Array Value) (A:Option Addr) (cap:Nat) (w:World),Calls P f #[.slice A 0 cap,.func (.func g) #[] cb] w λe w'=>e = .returned (.tuple #[])∧Bel w.heap.size w w'
theorem b2x{W w':World}(h:Bel W.heap.size W w'):∃q os,w'=grow (W.drewN q) os:=by
 refine⟨w'.drawn-W.drawn,w'.heap.extract W.heap.size w'.heap.size,?_⟩;obtain⟨⟨h1,h2,h3,h4,h5⟩,h6⟩:=h;obtain⟨heap,tape,drawn,os,output⟩:=w';simp only at *;subst h1;subst h2;subst h3;unfold grow World.drewN;simp only[World.mk.injEq,true_and,and_true];refine⟨?_,by omega⟩;apply Array.ext_getElem?;intro k;rw[Array.getElem?_append];split
 ·rename_i q;exact h5 k q
 ·rename_i q;rw[Array.getElem?_extract];split
  ·rename_i q2;rw[show W.heap.size+(k-W.heap.size)=k by omega]
  ·rename_i q2;rw[Array.getElem?_eq_none (by simp at q2;omega)]
theorem a7m{W:World}(q:Nat)(os:Array Obj):Bel W.heap.size W (grow (W.drewN q) os):=
 ⟨⟨rfl,rfl,rfl,by simp[grow,World.drewN],λk hk=>by
  show (W.heap++os)[k]? = _;rw[Array.getElem?_append_left hk]⟩,Nat.le_add_right _ _⟩
theorem setCells_drewN(b q:Nat):∀(vs:List Value) (o:Nat) (w:World),(w.drewN q).setCells b o vs=(w.setCells b o vs).drewN q
 | [],_,_=>rfl
 | v::r,o,w=>by rw[World.setCells,World.setCells,←setCells_drewN b q r];rfl
theorem b0J{P:Program}{f:FuncId}(hb:∃fn c,P.funcs[f]? = some fn∧fn.body=some c∧fn.name ≠ "runtime.NumGoroutine")(args:Array Value)(w:World):(callFunc f args).run P w = .ok (.enter f args) w:=by
 obtain⟨fn,c,h1,h2,h3⟩:=hb;exact a4e h1 h2 h3 _ _
section
variable{X:Ctx}{g:Gh}{st:St}{a:Act}{w:World}{n:Nat}{K:Act→World→Prop}{Q:Exit→Act→World→Prop}{ρ:Option Nat}{P:Program}
theorem b4p{o:Oper}{x y u:Operand}{ts:Array TypeId}{f gf:FuncId}{cap:List PV}{l:Nat}{opn:Bool}{xs ys:List Int}{c:Int→Int→Option Int}(h:r7 X g st a w)
  (ho:o.op = .call { callee:=.value x,args:=#[y,u],argTypes:=ts })(hdst:∀t,o.dst=some t→t<X.N)(hf:p6 st.env x = .fn (.func f) [])
  (hb:∃fn c,X.P.funcs[f]? = some fn∧fn.body=some c∧fn.name ≠ "runtime.NumGoroutine")(hS:a8S X.P f)
  (hy:p6 st.env y = .sl l)(hl:st.σ l=some ⟨xs.map (PV.int .i64),0,opn,1,true⟩)(hu:p6 st.env u = .fn (.func gf) cap)
  (hbg:∃fn c,X.P.funcs[gf]? = some fn∧fn.body=some c∧fn.name ≠ "runtime.NumGoroutine")(hok:cap.all (PV.a1A st.σ)=true){ls:List Nat}(hls:cap.flatMap (PV.E7 st.σ)=ls){σ':Nat→Option Row}(hσ:F6 st.σ ls=σ')
  (hl':σ' l=some ⟨xs.map (PV.int .i64),0,opn,1,true⟩)(hs:Go.Sh.a7I c xs=some ys)(hO:Go.Sh.b06 c)
  (hc:∀p q r,c p q=some r→E5 X.P gf (.int .i64 p :: .int .i64 q::cap.map (PV.v2 st.σ)) (.int .i64 r))
  (hK:∀g' a' w',r7 X g' ⟨F3 st.env o.dst (.tup []),o0 σ' l (some ⟨ys.map (PV.int .i64),0,opn,1,true⟩)⟩ a' w'→K a' w'):o.wpIn (FX ρ) n X.P a w K Q:=by
 subst hls;subst hσ;obtain⟨h62,hs⟩:=Go.Sh.b19 hO hs;obtain⟨htot,hO⟩:=hO;generalize hcf:(λx y=>(c x y).getD 0:Int→Int→Int)=cf at hO hs;have hc':∀p q,E5 X.P gf (.int .i64 p :: .int .i64 q::cap.map (PV.v2 st.σ)) (.int .i64 (cf p q)):=λp q=>by
  obtain⟨r,hr⟩:=Option.isSome_iff_exists.1 (htot p q);rw[←hcf];simp only[hr,Option.getD_some];exact hc p q r hr
 have hv:=h.eval x;rw[hf] at hv;obtain⟨vs0,e0,hn0,_⟩:=a0r hv;obtain rfl:vs0 = #[]:=Array.eq_empty_of_size_eq_zero (by simpa using hn0);have huv:=h.eval u;rw[hu] at huv;obtain⟨cb,eu,hncb,hcap⟩:=a0r huv;have hyv:=h.eval y;rw[hy] at hyv;obtain⟨_,ey⟩:=hyv.O6;obtain⟨imm2,hF,hX,hSh⟩:=h.F6 (cap.flatMap (PV.E7 st.σ));have hview:=a1C h (y6.refl st.σ) hX (vs:=#[a.eval u]) (ds:=[.fn (.func gf) cap]) rfl (λi v d hv hd=>by
  match i with
  | 0=>simp at hv hd;subst hv;subst hd;rw[←hu];exact h.eval u
  | _+1=>simp at hd) (by simpa[PV.vok,PV.a2m] using hok) (λl2 hl2 r hr=>hSh l2 (by simpa[PV.D0,PV.K0] using hl2) r hr)
 have hcb:RdL w imm2 cb (cap.map (PV.v2 st.σ)):=by
  have:=hview.2 0 (a.eval u) (.fn (.func gf) (cap.map (PV.v2 st.σ))) rfl rfl;rw[eu] at this;cases this with
  | fn f vs cs hn h=>exact⟨hn,h⟩
 have hexec:(execOp a.eval o).run X.P w = .ok (.enter f #[.slice (g.μ l).A (g.μ l).n (g.μ l).C,.func (.func gf) #[] cb]) w:=by
  have:=a0h (P:=X.P) (w:=w) (a:=a) ho e0 hb;rw[this];simp[ey,eu]
 have hR:=hF.rows l _ hl';have hRn:(g.μ l).n=xs.length:=by simpa using hR.n
 have hRz:(g.μ l).z=1:=hR.z;rcases Nat.eq_zero_or_pos xs.length with h0 | h0
 ·obtain rfl:xs = []:=List.eq_nil_of_length_eq_zero h0;have hys:ys = []:=by
   rw[←hs];have hp:=(pdq_sorts (ltOf cf) hO (#[]:Array Int) 0 0 (Lib.bitLen 0) true true (Nat.le_refl _) (Nat.le_refl _) (Or.inl rfl)).1.1;exact List.eq_nil_of_length_eq_zero (by simpa using hp)
  subst hys;refine M8 (λc=>by rw[ho];simp) hexec ?_;rw[hRn];refine (hS.none_ gf cb (g.μ l).A (g.μ l).C w).mono λev w' hr=>?_;obtain⟨rfl,hbel⟩:=hr;refine⟨_,rfl,?_⟩;have hS':=hF.called hbel (λ_ _=>False);have hid:o0 (F6 st.σ (cap.flatMap (PV.E7 st.σ))) l (some ⟨List.map (PV.int .i64) [],0,opn,1,true⟩)=F6 st.σ (cap.flatMap (PV.E7 st.σ)):=by
   funext k
   by_cases e:k=l
   ·subst e;rw[j4];exact hl'.symm
   ·rw[e6 _ _ e]
  rw[hid] at hK;exact hK _ _ _ (hS'.put hdst (.cl (.tup #[] [] rfl λi v c _ hc=>by simp at hc)))
 ·obtain⟨b,s,hA⟩:=hR.spot (by have:(g.μ l).n≤(g.μ l).C:=hR.C;rw[hRn] at this;show 0<(g.μ l).C;omega);have hown:∀i,i<xs.length→A2 (g.μ l) ⟨xs.map (PV.int .i64),0,opn,1,true⟩ b (s+i):=λi hi=>by
   refine⟨s,hA,by simp,?_⟩;rw[hRz,Nat.mul_one];have hC:=hR.C;have hC2:xs.length≤(g.μ l).C:=by rw[←hRn];exact hC
   cases opn;·simp only[Bool.false_eq_true,if_false,hRn];omega
   ·simp only[if_true];omega
  have hcells:∀i,i<xs.length→w.cell? ⟨b,s+i,none⟩=some (.int .i64 xs[i]!):=λi hi=>by
   obtain⟨b',s',v,k1,k2,k3,k4,k5⟩:=hR.cell i (.int .i64 xs[i]!) 0 (.int .i64 xs[i]!) (by simp[hi]) rfl;rw[hA] at k1;cases k1;rw[hRz,Nat.mul_one,Nat.add_zero] at k2;rw[k2];have:=k5 rfl;cases this;rfl
  have hbs:b<w.heap.size:=(hF.O4 hl' (hown 0 h0)).2;have hHolds:Holds (Value.int .i64) w b s xs.toArray:=λj hj=>by
   have hj':j<xs.length:=by simpa using hj
   refine⟨?_,(hR.own b _ (hown j hj')).2.2⟩;rw[hcells j hj'];simp
  have hcmp:CmpLays1 X.P gf cb (Value.int .i64) cf b s xs.toArray.size w:=by
   intro m os dk hdk p q;have hdk':dk.size=xs.length:=by simpa using hdk
   generalize hW:sortWorld (Value.int .i64) w b s m dk os=W;have hWs:w.heap.size≤W.heap.size:=by rw[←hW];simp[sortWorld]
   have hxW:Ext w imm2 W imm2:=by
    refine⟨λ_ _ q=>q,λb' o' q=>?_,λb' o' x q hx hm=>?_⟩
    ·have hlt:=hF.immlt b' o' q;rw[←hW,sortWorld,cell?_grow _ _ _ (by simpa using hlt)];refine (cell?_putRow_other _ _ _ _ _ _ ?_).trans (cell?_ahead _ _ _);by_cases e:b'=b
     ·right;simp only;rcases Nat.lt_or_ge o' s with k | k
      ·exact .inl k
      ·rcases Nat.lt_or_ge o' (s+dk.size) with k2 | k2
       ·exfalso;subst e;have:=hown (o'-s) (by omega);rw[show s+(o'-s)=o' by omega] at this;exact hF.ownimm l _ _ _ hl' this q
       ·exact .inr k2
     ·exact .inl e
    ·have hlt:=hF.immlt b' o' q;have hne:b≠b':=λe=>by
      subst e;obtain⟨c,e,fr,hb2,_⟩:=cells_of_cell? (hcells 0 h0);rw[hb2] at hx;cases hx;cases hm
     rw[←hW,sortWorld,heap_grow_old _ _ (by simpa using hlt)];show (mapBlock (Sort.ahead w m) b _).heap[b']? = _;simp only[mapBlock,Array.getElem?_modify,if_neg hne];exact hx
   have hGW:GT X.P W:=X.tab.heap λk hk=>by
    have hne:b≠k:=λe=>by
     subst e;have:=(hR.own b _ (hown 0 h0)).1;omega
    have hkw:k<w.heap.size:=Nat.lt_of_lt_of_le hk h.below.size;rw[←hW,sortWorld,heap_grow_old _ _ (by simpa using hkw)];show (mapBlock (Sort.ahead w m) b _).heap[k]? = _;simp only[mapBlock,Array.getElem?_modify,if_neg hne];exact h.below.block k hk
   refine (hc' p q W imm2 _ (λb o k=>Nat.lt_of_lt_of_le (hF.immlt b o k) hWs) hGW ⟨by simp[hcb.1];omega,λi v d hv hd=>?_⟩).mono λev w' hr=>?_
   ·match i with
    | 0=>rw[Array.getElem?_append_left (by simp)] at hv;simp at hv hd;subst hv;subst hd;exact .int _ _
    | 1=>rw[Array.getElem?_append_left (by simp)] at hv;simp at hv hd;subst hv;subst hd;exact .int _ _
    | i+2=>
     rw[Array.getElem?_append_right (by simp)] at hv;exact (hcb.2 i v d (by simpa using hv) (by simpa using hd)).mono hxW
   ·obtain⟨v,rfl,hbel,hrv⟩:=hr;cases hrv;exact⟨rfl,b2x hbel⟩
  have hcall:=hS.some_ cf hO gf cb b s (g.μ l).C xs.toArray w (λargs w=>b0J hbg args w) hcmp hHolds hbs (by simpa using h62);refine M8 (λc=>by rw[ho];simp) hexec ?_;rw[hRn,hA];refine (show Calls X.P f _ w _ from hcall).mono λev w' hr=>?_;obtain⟨rfl,q,os,rfl⟩:=hr;refine⟨_,rfl,?_⟩;have hsz:ys.length=xs.length:=by
   rw[←hs];have:=(pdq_sorts (ltOf cf) hO xs.toArray 0 xs.length (Lib.bitLen xs.length) true true (Nat.zero_le _) (by simp) (Or.inl rfl)).1.1;simpa using this
  have hw':sortWorld (Value.int .i64) w b s q (pdq (ltOf cf) xs.toArray 0 xs.toArray.size (Lib.bitLen xs.toArray.size) true true) os=grow ((w.setCells b s (ys.map (Value.int .i64))).drewN q) os:=by
   unfold sortWorld;have:pdq (ltOf cf) xs.toArray 0 xs.toArray.size (Lib.bitLen xs.toArray.size) true true=ys.toArray:=by
    rw[←hs];simp
   rw[this,Lib.putRow_eq_setCells _ _ _ _ xs.toArray ys q hHolds (by simpa using hsz),setCells_drewN]
  rw[hw'];have hin:=World.cell?_setCells_in b (ys.map (Value.int .i64)) s w (λj' hj'=>(hR.own b _ (hown j' (by simpa[hsz] using hj'))).2.1);have hWr:=hF.write (b:=b) (o:=s) (vs:=ys.map (Value.int .i64)) (els:=ys.map (PV.int .i64)) (cl:=true) hl' (λj hj=>hown j (by simpa[hsz] using hj)) (by simp[hsz])
   (λx hx=>by obtain⟨v,_,rfl⟩:=List.mem_map.1 hx;exact⟨rfl,rfl⟩)
   (λi x j y hx hy=>by
    rw[List.getElem?_map] at hx;cases hyi:ys[i]? with
    | none=>rw[hyi] at hx;cases hx
    | some v=>
     rw[hyi] at hx;cases hx;have hi:=r6 hyi;have hj:j=0∧y = .int .i64 v:=by
      cases j with
      | zero=>simp[PV.cells] at hy;exact⟨rfl,hy.symm⟩
      | succ j=>simp[PV.cells] at hy
     obtain⟨rfl,rfl⟩:=hj;have:=hin i (by simpa using hi);refine⟨b,s,.int .i64 v,hA,?_,.cl (.int _ _),λq=>absurd q (Nat.not_lt_zero _),λ_=>.int _ _⟩;rw[hRz,Nat.mul_one,Nat.add_zero,this];simp;exact (List.getElem?_eq_some_iff.1 hyi).2) (by simp;omega)
  have hS':=hWr.called (a7m q os) (λ_ _=>False);exact hK _ _ _ (hS'.put hdst (.cl (.tup #[] [] rfl λi v c _ hc=>by simp at hc)))
end
theorem b4D{s:St}(l:Nat){es:List PV}{lo z:Nat}{opn:Bool}(hl:MB≤l)(hr:s.σ l=some ⟨[.mapc es],lo,opn,z,false⟩) :
  Wk s ⟨s.env,o0 s.σ l (some ⟨[.mapc es],lo,opn,z,true⟩)⟩:=λX g a w h=>by
 obtain⟨b,es0,m1,hA,m3,m4,m5,m6⟩:=h.maps.at_ l _ hl hr;cases m1;obtain⟨x0,q0,q0m⟩:=m4.obj;have hx:Ext w g.imm w (λb2 o=>g.imm b2 o∨b2=b):=⟨λ_ _ q=>.inl q,λ_ _ _=>rfl,λ_ _ _ _ q _=>q⟩;have hp:∀l',s.j2 l'→St.j2 ⟨s.env,o0 s.σ l (some ⟨[.mapc es],lo,opn,z,true⟩)⟩ l'∧g.μ l'=g.μ l':=by
  rintro l' ⟨r',hr'⟩;refine⟨?_,rfl⟩;by_cases e:l'=l
  ·exact⟨_,by rw[e];exact j4 _ _ _⟩
  ·exact⟨r',by rw[show (St.mk s.env (o0 s.σ l (some ⟨[.mapc es],lo,opn,z,true⟩))).σ l'=s.σ l' from e6 _ _ e];exact hr'⟩
 have hcase:∀l' r',o0 s.σ l (some ⟨[.mapc es],lo,opn,z,true⟩) l'=some r'→(l'=l∧r'=⟨[.mapc es],lo,opn,z,true⟩)∨(l'≠l∧s.σ l'=some r'):=by
  intro l' r' q;by_cases e:l'=l
  ·subst e;rw[j4] at q;cases q;exact .inl ⟨rfl,rfl⟩
  ·rw[e6 _ _ e] at q;exact .inr ⟨e,q⟩
 have hR:=h.rows l _ hr;have hlt:b<w.heap.size:=(Array.getElem?_eq_some_iff.1 q0).1;refine⟨⟨λb2 o=>g.imm b2 o∨b2=b,g.μ⟩,⟨h.size,λi=>?_,λl' r' q=>?_,λl1 l2 r1 r2 hne q1 q2 b' o' ho=>?_,λl' r' b' o' q ho=>?_,λb2 o q=>?_,λb2 o q=>?_,λb2 o q=>.inl (h.immsup b2 o q),h.below,h.marks,h.obs,h.big,⟨λl' r' hl' q=>?_,λl1 l2 r1 r2 h1 h2 hne q1 q2 q3=>?_⟩⟩⟩;·exact (h.env i).mono hx hp
 ·rcases hcase l' r' q with ⟨rfl,rfl⟩ | ⟨e,q'⟩
  ·refine⟨hR.n,hR.z,hR.C,hR.lo,hR.el,hR.nil,hR.spot,λi x j y hx' hy=>?_,λb2 o2 ho=>hR.own b2 o2 ho⟩;have:x = .mapc es:=by
    cases i with
    | zero=>simp at hx';exact hx'.symm
    | succ i=>simp at hx'
   subst this;cases hy
  ·exact (h.rows l' r' q').mono hx hp λ_ _ _=>⟨rfl,rfl⟩
 ·rcases hcase l1 r1 q1 with ⟨rfl,rfl⟩ | ⟨e1,q1'⟩ <;> rcases hcase l2 r2 q2 with ⟨rfl,rfl⟩ | ⟨e2,q2'⟩
  ·exact absurd rfl hne
  ·exact λk=>h.disj l1 l2 _ r2 hne hr q2' b' o' ho k
  ·exact λk=>h.disj l1 l2 r1 _ hne q1' hr b' o' ho k
  ·exact h.disj l1 l2 r1 r2 hne q1' q2' b' o' ho
 ·have own':∀r0,s.σ l'=some r0→A2 (g.μ l') r0 b' o'→¬(g.imm b' o'∨b'=b):=λr0 q0' ho' k=>by
   rcases k with k | k
   ·exact h.ownimm l' r0 b' o' q0' ho' k
   ·subst k;have:=a11 (h.rows l' r0 q0') ho' q0;rw[q0m] at this;cases this
  rcases hcase l' r' q with ⟨rfl,rfl⟩ | ⟨e,q'⟩;·exact own' _ hr ho
  ·exact own' _ q' ho
 ·rcases q with q | rfl
  ·exact h.immlt b2 o q
  ·exact hlt
 ·rcases q with q | rfl
  ·exact h.immsub b2 o q
  ·exact .inr m3
 ·rcases hcase l' r' q with ⟨rfl,rfl⟩ | ⟨e,q'⟩;·exact⟨b,es,rfl,hA,m3,m4.mono hx λo k1 k2=>k1,λq=>(by cases q),λ_=>.inr rfl⟩
  ·obtain⟨b2,es2,n1,n2,n3,n4,n5,n6⟩:=h.maps.at_ l' r' hl' q';have hne:b2≠b:=λe2=>by
    subst e2;exact h.maps.apart l l' _ r' hl hl' (Ne.symm e) hr q' rfl (by rw[hA,n2])
   exact⟨b2,es2,n1,n2,n3,n4.mono hx λo k1 k2=>k1,λc o k=>k.elim (n5 c o) hne,λc=>.inl (n6 c)⟩
 ·rcases hcase l1 r1 q1 with ⟨rfl,rfl⟩ | ⟨e1,q1'⟩;·cases q3
  ·rcases hcase l2 r2 q2 with ⟨rfl,rfl⟩ | ⟨e2,q2'⟩;·exact h.maps.apart l1 l2 r1 _ h1 h2 hne q1' hr q3
   ·exact h.maps.apart l1 l2 r1 r2 h1 h2 hne q1' q2' q3
theorem b56{s:St}(l0 j l:Nat){x x':PV}{lo zz lo2 z2:Nat}{opn cl opn2:Bool}{es:List PV}(hl0:s.σ l0=some ⟨[x],lo,opn,zz,cl⟩)(hj:x.cells[j]? = some (.mp l))(hm:s.σ l=some ⟨[.mapc es],lo2,opn2,z2,true⟩)(hx:R7 x j [.abs (I0 es)]=x') :
  Wk s ⟨s.env,o0 s.σ l0 (some ⟨[x'],lo,opn,zz,false⟩)⟩:=λX g a w h=>by
 subst hx;refine⟨g,h.b27 hl0 rfl hj rfl (λb s1 v hA hv hr=>?_) (λq=>by cases q)⟩;obtain⟨_,hl,b',hA',e⟩:=hr.a7u;obtain⟨b2,es2,m1,m2,m3,m4,m5,m6⟩:=h.maps.at_ l _ hl hm;rw[hA'] at m2;cases m2;cases m1;rw[e];exact .cl (b0e ⟨b',rfl,m6 rfl,m4⟩)
section
variable{X:Ctx}{ops:Array Oper}{i:Nat}{os:List Oper}{K:Ctx→St→Prop}{env:Nat→PV}{σ:Nat→Option Row}{ty:TypeId}{pos:String}{after:Array Edge}{gd:Option (Nat × Bool)}{t:Tmp}
theorem b45{α:Type}{f:α→PV}{xs ys zs:List α}{x y:Operand}{T E:TypeId}{b z s:Nat}{zv:Value}(L:List (Nat × PV))(R:List (Nat × Row))(hw:s9 ops env ⟨some t,.call { callee:=.builtin .append,args:=#[x,y],argTypes:=#[T,T] },ty,pos,after,gd⟩=some true)
  (h:Go.Sh.app b xs ys=some zs)(hAg:Ag R ⟨env,σ⟩ L)(hAr:Ar R ⟨env,σ⟩ R)(hsR:R.lookup s=none)(hl:R.lookup t=none)
  (hx:p6 env x = .sl s)(hsr:σ s=some ⟨xs.map f,0,true,z,true⟩)(hy:Src σ (p6 env y) (ys.map f) true)
  (hE:r5 X.P T=some E)(hz:l5 X.P E=some z)(hb:C2 X.P E=some b)(hzv:r4 X.P E=some zv)(hzz:zv.cells.size=z)(hel:∀v,(f v).cells.length=z)
  (k:Sq X ops (i+1) os K ⟨o0 (b2E L) t (.sl t),o0 (rowsOf R) t (some ⟨zs.map f,0,true,z,true⟩)⟩) :
  Sq X ops i (⟨some t,.call { callee:=.builtin .append,args:=#[x,y],argTypes:=#[T,T] },ty,pos,after,gd⟩::os) K ⟨env,σ⟩:=B7 λho=>by
 intro hd n g a w next Qo hs hq;unfold wpOpIn;rw[ho];simp only;rw[if_pos (F9 hs hw)];obtain⟨h1,h2,rfl⟩:=Go.Sh.a6Y h;have htN:=y8 hd ho t rfl;have hlm:t<MB:=Nat.lt_of_lt_of_le htN (Nat.le_trans hs.big.1 (by decide));refine b5L (ρ:=X.ρ) L R hs hAg hAr hsR rfl (y8 hd ho) hlm hl hx hsr rfl rfl rfl hy hE hz hb hzv hzz (λe he=>?_) rfl (by simpa using h1) (by simpa using h2) λg' a' w' hs'=>hq X _ _ _ _ hs' ⟨⟨rfl,rfl⟩,rfl⟩ ?_
 ·simp only[←List.map_append,List.mem_map] at he;obtain⟨v,_,rfl⟩:=he;exact hel v
 ·simp only[F3,←List.map_append];exact k
theorem b6b{x y u:Operand}{ts:Array TypeId}{f gf:FuncId}{cap:List PV}{l:Nat}{opn:Bool}{xs ys:List Int}{c:Int→Int→Option Int}(hs:Go.Sh.a7I c xs=some ys)(hO:Go.Sh.b06 c)(hw:s9 ops env ⟨some t,.call { callee:=.value x,args:=#[y,u],argTypes:=ts },ty,pos,after,gd⟩=some true)
  (hf:p6 env x = .fn (.func f) [])(hb:o7 X.P f)(hS:a8S X.P f)(hy:p6 env y = .sl l)(hl:σ l=some ⟨xs.map (PV.int .i64),0,opn,1,true⟩)(hu:p6 env u = .fn (.func gf) cap)
  (hbg:o7 X.P gf)(hok:cap.all (PV.a1A σ)=true){ls:List Nat}(hls:cap.flatMap (PV.E7 σ)=ls){σ':Nat→Option Row}(hσ:F6 σ ls=σ')
  (hl':σ' l=some ⟨xs.map (PV.int .i64),0,opn,1,true⟩){ds:List PV}(hds:cap.map (PV.v2 σ)=ds)
  (hc:∀p q r,c p q=some r→E5 X.P gf (.int .i64 p :: .int .i64 q::ds) (.int .i64 r))
  (k:Sq X ops (i+1) os K ⟨o0 env t (.tup []),o0 σ' l (some ⟨ys.map (PV.int .i64),0,opn,1,true⟩)⟩) :
  Sq X ops i (⟨some t,.call { callee:=.value x,args:=#[y,u],argTypes:=ts },ty,pos,after,gd⟩::os) K ⟨env,σ⟩:=B7 λho=>by
 intro hd n g a w next Qo hsm hq;unfold wpOpIn;rw[ho];simp only;rw[if_pos (F9 hsm hw)];subst hds;exact b4p (ρ:=X.ρ) hsm rfl (y8 hd ho) hf hb hS hy hl hu hbg hok hls hσ hl' hs hO hc λg' a' w' hs'=>hq X _ _ _ _ hs' ⟨⟨rfl,rfl⟩,rfl⟩ k
end
end Go.Pw
namespace Go.Proofs
open Go.Shelf Go.RowKit Go.Lib Go.Sort
variable{P:Program}{ρ:Ren}
set_option maxHeartbeats 2000000 in
set_option maxRecDepth 100000 in
theorem Any.a0F (L:SlLaysF.n20 P ρ) (g:Nat) (cb:Array Value) (A:Option Addr) (cap:Nat) (w:World) :
  Calls P (ρ.f 20) #[.slice A 0 cap,.int .i64 0,.int .i64 0,.func (.func g) #[] cb] w λe w'=>e = .returned (.tuple #[])∧∃n,w'=w.drewN n:=by
 have mixed:=L.mixed;have t0:=L.t0;have a0:=L.a0;have z0:=L.z0;have v0:=L.v0;have t3:=L.t3;have a3:=L.a3;have z3:=L.z3;have v3:=L.v3;have t4:=L.t4;have a4:=L.a4;have z4:=L.z4;have v4:=L.v4;have t22:=L.t22;have a22:=L.a22;have z22:=L.z22;have v22:=L.v22;obtain⟨nm20,_,F20⟩:=L.f20;go_enter F20,SlBodyF.n20_ntmps ρ
 go_wp2
 refine wp_loop_rounds 1 ?_;rw[rounds_succ];go_wp2
 go_end0
 exact⟨rfl,0,rfl⟩
set_option maxHeartbeats 2000000 in
set_option maxRecDepth 100000 in
theorem Any.a3M (L:SlLaysF.n14 P ρ) (g:Nat) (cb:Array Value) (A:Option Addr) (cap:Nat) (lim:Int) (w:World) :
  Calls P (ρ.f 14) #[.slice A 0 cap,.int .i64 0,.int .i64 0,.int .i64 lim,.func (.func g) #[] cb] w λe w'=>e = .returned (.tuple #[])∧∃n,w'=w.drewN n:=by
 have mixed:=L.mixed;have t0:=L.t0;have a0:=L.a0;have z0:=L.z0;have v0:=L.v0;have t3:=L.t3;have a3:=L.a3;have z3:=L.z3;have v3:=L.v3;have t4:=L.t4;have a4:=L.a4;have z4:=L.z4;have v4:=L.v4;have t5:=L.t5;have a5:=L.a5;have z5:=L.z5;have v5:=L.v5;have t9:=L.t9;have a9:=L.a9;have z9:=L.z9;have v9:=L.v9;have t22:=L.t22;have a22:=L.a22;have z22:=L.z22;have e20:∀args w,(callFunc (ρ.f 20) args).run P w = .ok (.enter (ρ.f 20) args) w:=L.f20.enters rfl;have hi:=λw=>Any.a0F (P:=P) (ρ:=ρ) { L with } g cb A cap w;obtain⟨_,_,FG⟩:=L.f14;go_enter FG,SlBodyF.n14_ntmps ρ
 go_wp2
 refine wp_loop_rounds 1 ?_;rw[rounds_succ];go_wp2_with (go_at_fn (ρ.f 20);refine (hi _).mono ?_;rintro e w' ⟨rfl,n,rfl⟩)
 (try simp only[Exit.inBlock,Exit.then]);refine bodyPost_ret (results_none rfl _ _ _) rfl ?_
 exact⟨rfl,n,rfl⟩
set_option maxHeartbeats 2000000 in
set_option maxRecDepth 100000 in
theorem Any.a3q (L:SlLaysF.n6 P ρ) (g:Nat) (cb:Array Value) (A:Option Addr) (cap:Nat) (w:World) :
  Calls P (ρ.f 6) #[.slice A 0 cap,.func (.func g) #[] cb] w λe w'=>e = .returned (.tuple #[])∧∃n,w'=w.drewN n:=by
 have mixed:=L.mixed;have t0:=L.t0;have a0:=L.a0;have z0:=L.z0;have v0:=L.v0;have t3:=L.t3;have a3:=L.a3;have z3:=L.z3;have v3:=L.v3;have t4:=L.t4;have a4:=L.a4;have z4:=L.z4;have v4:=L.v4;have t5:=L.t5;have a5:=L.a5;have z5:=L.z5;have v5:=L.v5;have t9:=L.t9;have a9:=L.a9;have z9:=L.z9;have v9:=L.v9;have t22:=L.t22;have a22:=L.a22;have z22:=L.z22;have v22:=L.v22;have t25:=L.t25;have a25:=L.a25;have z25:=L.z25;have v25:=L.v25;have t39:=L.t39;have a39:=L.a39;have z39:=L.z39;have v39:=L.v39;have t45:=L.t45;have a45:=L.a45;have z45:=L.z45;have v45:=L.v45;have t46:=L.t46;have a46:=L.a46;have z46:=L.z46;have v46:=L.v46;have t50:=L.t50;have a50:=L.a50;have z50:=L.z50;have v50:=L.v50;have t53:=L.t53;have a53:=L.a53;have z53:=L.z53;have v53:=L.v53;have t55:=L.t55;have a55:=L.a55;have z55:=L.z55;have v55:=L.v55;have t66:=L.t66;have a66:=L.a66;have z66:=L.z66;have v66:=L.v66;have t70:=L.t70;have a70:=L.a70;have z70:=L.z70;have v70:=L.v70;have t76:=L.t76;have a76:=L.a76;have z76:=L.z76;have v76:=L.v76;have t77:=L.t77;have a77:=L.a77;have z77:=L.z77;have v77:=L.v77;have e14:∀args w,(callFunc (ρ.f 14) args).run P w = .ok (.enter (ρ.f 14) args) w:=L.f14.enters rfl;have e15:∀args w,(callFunc (ρ.f 15) args).run P w = .ok (.enter (ρ.f 15) args) w:=enters_of L.f15 (by kernel_rfl) rfl;have wr:IntKind.u64.wrap 0=0:=by decide
 have hp:=λlim w=>Any.a3M (P:=P) (ρ:=ρ) { L with } g cb A cap lim w;have hl:Calls P (ρ.f 15) #[.int .u64 0] w λe w'=>e = .returned (.int .i64 (Lib.bitLen 0:Nat))∧w'=w:=
  Any.bits_Len (SlLaysF0.n15.bits (P:=P) (ρ:=ρ) { L with }) 0 w (by omega) (by omega)
 obtain⟨_,_,FG⟩:=L.f6;go_enter FG,SlBodyF.n6_ntmps ρ
 go_wp2_with (first | (go_at_fn (ρ.f 15);refine hl.mono ?_;rintro e w' ⟨rfl,rfl⟩) | (go_at_fn (ρ.f 14);refine (hp _ _).mono ?_;rintro e w' ⟨rfl,n,rfl⟩))
 go_end0
 exact⟨rfl,n,rfl⟩
theorem b18(L:SlLaysF.n6 P ρ):Pw.a8S P (ρ.f 6) where
 some_ cf hO g cb blk off cap d w eg hcmp hH hblk hsz:=Any.slices_SortFunc_eq L (Value.int .i64) (λ_=>rfl) cf hO g cb blk off cap d w eg hcmp hH hblk hsz
 none_ g cb A cap w:=(Any.a3q L g cb A cap w).mono λe w' ⟨he,n,hw⟩=>⟨he,by rw[hw];exact⟨⟨rfl,rfl,rfl,Nat.le_refl _,λ_ _=>rfl⟩,Nat.le_add_right _ _⟩⟩
end Go.Proofs
namespace Go.Sh
def a9k(x:Int):List Int→List Int
 | []=>[x]
 | y::r=>if x≤y then x::y::r else y::a9k x r
def a6N(xs:List Int):Option (List Int):=if xs.length<4611686018427387904 then some (xs.foldr a9k []) else none
theorem a5H(x:Int):∀l,(a9k x l).Perm (x::l)
 | []=>.refl _
 | y::r=>by
  unfold a9k;split;·exact .refl _
  ·exact ((a5H x r).cons y).trans (List.Perm.swap x y r)
theorem a6h(x:Int):∀l,l.Pairwise (λa b=>a≤b)→(a9k x l).Pairwise (λa b=>a≤b)
 | [],_=>List.pairwise_singleton _ _
 | y::r,h=>by
  obtain⟨h1,h2⟩:=List.pairwise_cons.1 h;unfold a9k;split
  ·rename_i q;refine List.pairwise_cons.2 ⟨λz hz=>?_,h⟩;rcases List.mem_cons.1 hz with e | e
   ·rw[e];exact q
   ·exact Int.le_trans q (h1 z e)
  ·rename_i q;refine List.pairwise_cons.2 ⟨λz hz=>?_,a6h x r h2⟩;rcases List.mem_cons.1 ((a5H x r).mem_iff.1 hz) with e | e
   ·rw[e];omega
   ·exact h1 z e
theorem a96:∀l:List Int,(l.foldr a9k []).Perm l
 | []=>.refl _
 | x::r=>(a5H x _).trans ((a96 r).cons x)
theorem a7p:∀l:List Int,(l.foldr a9k []).Pairwise (λa b=>a≤b)
 | []=>.nil
 | x::r=>a6h x _ (a7p r)
theorem b1r:∀ {l m:List Int},l.Perm m→l.Pairwise (λa b=>a≤b)→m.Pairwise (λa b=>a≤b)→l=m
 | [],m,hp,_,_=>(List.nil_perm.1 hp).symm
 | a::l,[],hp,_,_=>by simp at hp
 | a::l,b::m,hp,h1,h2=>by
  have ha:=List.pairwise_cons.1 h1;have hb:=List.pairwise_cons.1 h2;have e:a=b:=by
   have m1:b∈a::l:=hp.mem_iff.2 (List.mem_cons_self ..);have m2:a∈b::m:=hp.mem_iff.1 (List.mem_cons_self ..);rcases List.mem_cons.1 m1 with q | q
   ·exact q.symm
   rcases List.mem_cons.1 m2 with q' | q'
   ·exact q'
   exact Int.le_antisymm (ha.1 b q) (hb.1 a q')
  subst e;rw[b1r (List.perm_cons a |>.1 hp) ha.2 hb.2]
theorem b5A(l:List Int):l.foldr a9k []=l.mergeSort λx y=>decide (x≤y):=
 b1r ((a96 l).trans (List.mergeSort_perm l _).symm) (a7p l)
  ((List.pairwise_mergeSort (le:=λx y=>decide (x≤y)) (λa b c h1 h2=>by simp only[decide_eq_true_eq] at h1 h2 ⊢;omega) (λa b=>by simp only[Bool.or_eq_true,decide_eq_true_eq];omega) l).imp λh=>of_decide_eq_true h)
end Go.Sh
namespace Go.Pw
open Go.RowKit Go.Sort Go.Proofs
structure a6E (P:Program) (f:FuncId):Prop where
 some_:∀(blk off cap:Nat) (zs:List Int) (w:World),Holds (Value.int .i64) w blk off zs.toArray→blk<w.heap.size→zs.length<4611686018427387904 →
  Calls P f #[.slice (some ⟨blk,off,none⟩) zs.length cap] w λe w'=>
   e = .returned (.tuple #[])∧∃n os,w'=grow (putRow (Value.int .i64) (Sort.ahead w n) blk off (zs.mergeSort λx y=>decide (x≤y)).toArray) os
 none_:∀(A:Option Addr) (cap:Nat) (w:World),Calls P f #[.slice A 0 cap] w λe w'=>e = .returned (.tuple #[])∧Bel w.heap.size w w'
section
variable{X:Ctx}{g:Gh}{st:St}{a:Act}{w:World}{n:Nat}{K:Act→World→Prop}{Q:Exit→Act→World→Prop}{ρ:Option Nat}{P:Program}
theorem b2Y{o:Oper}{x y:Operand}{ts:Array TypeId}{f:FuncId}{l:Nat}{opn:Bool}{xs ys:List Int}(h:r7 X g st a w)
  (ho:o.op = .call { callee:=.value x,args:=#[y],argTypes:=ts })(hdst:∀t,o.dst=some t→t<X.N)(hf:p6 st.env x = .fn (.func f) [])
  (hb:∃fn c,X.P.funcs[f]? = some fn∧fn.body=some c∧fn.name ≠ "runtime.NumGoroutine")(hS:a6E X.P f)
  (hy:p6 st.env y = .sl l)(hl:st.σ l=some ⟨xs.map (PV.int .i64),0,opn,1,true⟩)(hs:Go.Sh.a6N xs=some ys)
  (hK:∀g' a' w',r7 X g' ⟨F3 st.env o.dst (.tup []),o0 st.σ l (some ⟨ys.map (PV.int .i64),0,opn,1,true⟩)⟩ a' w'→K a' w'):o.wpIn (FX ρ) n X.P a w K Q:=by
 unfold Go.Sh.a6N at hs;split at hs;case isFalse=>cases hs
 rename_i h62;have hs:=Option.some.inj hs;rw[Go.Sh.b5A] at hs;have hv:=h.eval x;rw[hf] at hv;obtain⟨vs0,e0,hn0,_⟩:=a0r hv;obtain rfl:vs0 = #[]:=Array.eq_empty_of_size_eq_zero (by simpa using hn0);have hyv:=h.eval y;rw[hy] at hyv;obtain⟨_,ey⟩:=hyv.O6;have hexec:(execOp a.eval o).run X.P w = .ok (.enter f #[.slice (g.μ l).A (g.μ l).n (g.μ l).C]) w:=by
  have:=a0h (P:=X.P) (w:=w) (a:=a) ho e0 hb;rw[this];simp[ey]
 have hF:=h;have hR:=hF.rows l _ hl;have hRn:(g.μ l).n=xs.length:=by simpa using hR.n
 have hRz:(g.μ l).z=1:=hR.z;have hsz:ys.length=xs.length:=by rw[←hs];exact List.length_mergeSort _
 rcases Nat.eq_zero_or_pos xs.length with h0 | h0
 ·obtain rfl:xs = []:=List.eq_nil_of_length_eq_zero h0;have hys:ys = []:=List.eq_nil_of_length_eq_zero hsz;subst hys;refine M8 (λc=>by rw[ho];simp) hexec ?_;rw[hRn];refine (hS.none_ (g.μ l).A (g.μ l).C w).mono λev w' hr=>?_;obtain⟨rfl,hbel⟩:=hr;refine⟨_,rfl,?_⟩;have hS':=hF.called hbel (λ_ _=>False);have hid:o0 st.σ l (some ⟨List.map (PV.int .i64) [],0,opn,1,true⟩)=st.σ:=by
   funext k
   by_cases e:k=l
   ·subst e;rw[j4];exact hl.symm
   ·rw[e6 _ _ e]
  rw[hid] at hK;exact hK _ _ _ (hS'.put hdst (.cl (.tup #[] [] rfl λi v c _ hc=>by simp at hc)))
 ·obtain⟨b,s,hA⟩:=hR.spot (by have:(g.μ l).n≤(g.μ l).C:=hR.C;rw[hRn] at this;show 0<(g.μ l).C;omega);have hown:∀i,i<xs.length→A2 (g.μ l) ⟨xs.map (PV.int .i64),0,opn,1,true⟩ b (s+i):=λi hi=>by
   refine⟨s,hA,by simp,?_⟩;rw[hRz,Nat.mul_one];have hC:=hR.C;have hC2:xs.length≤(g.μ l).C:=by rw[←hRn];exact hC
   cases opn;·simp only[Bool.false_eq_true,if_false,hRn];omega
   ·simp only[if_true];omega
  have hcells:∀i,i<xs.length→w.cell? ⟨b,s+i,none⟩=some (.int .i64 xs[i]!):=λi hi=>by
   obtain⟨b',s',v,k1,k2,k3,k4,k5⟩:=hR.cell i (.int .i64 xs[i]!) 0 (.int .i64 xs[i]!) (by simp[hi]) rfl;rw[hA] at k1;cases k1;rw[hRz,Nat.mul_one,Nat.add_zero] at k2;rw[k2];have:=k5 rfl;cases this;rfl
  have hbs:b<w.heap.size:=(hF.O4 hl (hown 0 h0)).2;have hHolds:Holds (Value.int .i64) w b s xs.toArray:=λj hj=>by
   have hj':j<xs.length:=by simpa using hj
   refine⟨?_,(hR.own b _ (hown j hj')).2.2⟩;rw[hcells j hj'];simp
  have hcall:=hS.some_ b s (g.μ l).C xs w hHolds hbs h62;refine M8 (λc=>by rw[ho];simp) hexec ?_;rw[hRn,hA];refine (show Calls X.P f _ w _ from hcall).mono λev w' hr=>?_;obtain⟨rfl,q,os,rfl⟩:=hr;refine⟨_,rfl,?_⟩;rw[hs,Lib.putRow_eq_setCells _ _ _ _ xs.toArray ys q hHolds (by simpa using hsz),setCells_drewN];have hin:=World.cell?_setCells_in b (ys.map (Value.int .i64)) s w (λj' hj'=>(hR.own b _ (hown j' (by simpa[hsz] using hj'))).2.1);have hWr:=hF.write (b:=b) (o:=s) (vs:=ys.map (Value.int .i64)) (els:=ys.map (PV.int .i64)) (cl:=true) hl (λj hj=>hown j (by simpa[hsz] using hj)) (by simp[hsz])
   (λx hx=>by obtain⟨v,_,rfl⟩:=List.mem_map.1 hx;exact⟨rfl,rfl⟩)
   (λi x j y hx hy=>by
    rw[List.getElem?_map] at hx;cases hyi:ys[i]? with
    | none=>rw[hyi] at hx;cases hx
    | some v=>
     rw[hyi] at hx;cases hx;have hi:=r6 hyi;have hj:j=0∧y = .int .i64 v:=by
      cases j with
      | zero=>simp[PV.cells] at hy;exact⟨rfl,hy.symm⟩
      | succ j=>simp[PV.cells] at hy
     obtain⟨rfl,rfl⟩:=hj;have:=hin i (by simpa using hi);refine⟨b,s,.int .i64 v,hA,?_,.cl (.int _ _),λq=>absurd q (Nat.not_lt_zero _),λ_=>.int _ _⟩;rw[hRz,Nat.mul_one,Nat.add_zero,this];simp;exact (List.getElem?_eq_some_iff.1 hyi).2) (by simp;omega)
  have hS':=hWr.called (a7m q os) (λ_ _=>False);exact hK _ _ _ (hS'.put hdst (.cl (.tup #[] [] rfl λi v c _ hc=>by simp at hc)))
end
section
variable{X:Ctx}{ops:Array Oper}{i:Nat}{os:List Oper}{K:Ctx→St→Prop}{env:Nat→PV}{σ:Nat→Option Row}{ty:TypeId}{pos:String}{after:Array Edge}{gd:Option (Nat × Bool)}{t:Tmp}
theorem b4E{x y:Operand}{ts:Array TypeId}{f:FuncId}{l:Nat}{opn:Bool}{xs ys:List Int}(hs:Go.Sh.a6N xs=some ys)(hw:s9 ops env ⟨some t,.call { callee:=.value x,args:=#[y],argTypes:=ts },ty,pos,after,gd⟩=some true)
  (hf:p6 env x = .fn (.func f) [])(hb:o7 X.P f)(hS:a6E X.P f)(hy:p6 env y = .sl l)(hl:σ l=some ⟨xs.map (PV.int .i64),0,opn,1,true⟩)
  (k:Sq X ops (i+1) os K ⟨o0 env t (.tup []),o0 σ l (some ⟨ys.map (PV.int .i64),0,opn,1,true⟩)⟩) :
  Sq X ops i (⟨some t,.call { callee:=.value x,args:=#[y],argTypes:=ts },ty,pos,after,gd⟩::os) K ⟨env,σ⟩:=B7 λho=>by
 intro hd n g a w next Qo hsm hq;unfold wpOpIn;rw[ho];simp only;rw[if_pos (F9 hsm hw)];exact b2Y (ρ:=X.ρ) hsm rfl (y8 hd ho) hf hb hS hy hl hs λg' a' w' hs'=>hq X _ _ _ _ hs' ⟨⟨rfl,rfl⟩,rfl⟩ k
end
end Go.Pw
namespace Go.Proofs
open Go.Shelf Go.RowKit Go.Lib Go.Sort
variable{P:Program}{ρ:Ren}
theorem b01(L:SlLaysM.n5 P ρ):Pw.a6E P (ρ.f 5) where
 some_ blk off cap zs w hH hblk hsz:=AnyM.slices_Sort_int L blk off cap zs w hH hblk hsz
 none_ A cap w:=(AnyM.slices_Sort_int_none L A cap w).mono λe w' ⟨he,hw⟩=>⟨he,by rw[hw];exact⟨⟨rfl,rfl,rfl,Nat.le_refl _,λ_ _=>rfl⟩,Nat.le_refl _⟩⟩
end Go.Proofs
