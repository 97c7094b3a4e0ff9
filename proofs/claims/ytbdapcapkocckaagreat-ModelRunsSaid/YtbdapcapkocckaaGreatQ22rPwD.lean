/- A part. -/
import Derived.Test.YtbdapcapkocckaaGreatQ22rPwC
set_option linter.unusedVariables false
set_option linter.unusedSimpArgs false
set_option linter.unusedSectionVars false
namespace Go.Sh
def LM(c:Int->Int->Option Int):Prop:=(∀x y,(c x y).isSome=true)/\Go.Sort.SWO (Go.Proofs.ltOf λx y=>(c x y).getD 0)
def Rq(c:Int->Int->Option Int)(x:Int):List Int->Option (List Int)
 | []=>some [x]
 | y::r=>match c x y with
  | none=>none
  | some a=>if a<0 then some (x::y::r) else match c y x with
   | none=>none
   | some b=>if b<0 then (Rq c x r).map (y :: ·) else none
def isC(c:Int->Int->Option Int):List Int->Option (List Int)
 | []=>some []
 | x::r=>(isC c r).bind (Rq c x)
noncomputable def rF(c:Int->Int->Option Int)(xs:List Int):Option (List Int):=
 if xs.length<4611686018427387904 then match isC c xs with
  | some ys=>some ys
  | none=>some (Go.Sort.pdq (Go.Proofs.ltOf λx y=>(c x y).getD 0) xs.toArray 0 xs.length (Go.Lib.bitLen xs.length) true true).toList
 else none
theorem EB{c:Int->Int->Option Int}(hO:Go.Sort.SWO (Go.Proofs.ltOf λx y=>(c x y).getD 0))(x:Int):∀ {l ys:List Int},Rq c x l=some ys->ys.Perm (x::l)/\(l.Pairwise (λa b=>Go.Proofs.ltOf (λx y=>(c x y).getD 0) a b=true)->ys.Pairwise (λa b=>Go.Proofs.ltOf (λx y=>(c x y).getD 0) a b=true))
 | [],ys,h=>by
  cases h;exact⟨.refl _,λ_=>List.pairwise_singleton _ _⟩
 | y::r,ys,h=>by
  unfold Rq at h;split at h;·cases h
  rename_i a ha;split at h
  .rename_i q;cases h;refine⟨.refl _,λhp=>or.2 ⟨λz hz=>?_,hp⟩⟩;have f:Go.Proofs.ltOf (λx y=>(c x y).getD 0) x y=true:=by
    show decide ((c x y).getD 0<0)=true;rw[ha];exact zG q
   rcases zJ.1 hz with e | e
   .rw[e];exact f
   .exact hO.trans _ _ _ f ((or.1 hp).1 z e)
  split at h;·cases h
  rename_i b hb;split at h;case isFalse=>cases h
  rename_i q;cases hi:Rq c x r with
  | none=>rw[hi] at h;cases h
  | some zs=>
   rw[hi] at h;cases h;obtain⟨j,k⟩:=EB hO x hi;refine⟨(j.cons y).trans (List.Perm.swap x y r),λhp=>or.2 ⟨λz hz=>?_,k (or.1 hp).2⟩⟩;rcases zJ.1 (j.mem_iff.1 hz) with e | e
   .rw[e];show decide ((c y x).getD 0<0)=true;rw[hb];exact zG q
   .exact (or.1 hp).1 z e
theorem IJ{c:Int->Int->Option Int}(hO:Go.Sort.SWO (Go.Proofs.ltOf λx y=>(c x y).getD 0)):∀ {l ys:List Int},isC c l=some ys->ys.Perm l/\ys.Pairwise (λa b=>Go.Proofs.ltOf (λx y=>(c x y).getD 0) a b=true)
 | [],ys,h=>by
  cases h;exact⟨.refl _,.nil⟩
 | x::r,ys,h=>by
  unfold isC at h;cases hi:isC c r with
  | none=>rw[hi] at h;cases h
  | some zs=>
   rw[hi] at h;obtain⟨e,f⟩:=IJ hO hi;obtain⟨j,k⟩:=EB hO x h;exact⟨j.trans (e.cons x),k f⟩
theorem JH{lt:Int->Int->Bool}:∀ {l m:List Int},l.Perm m->l.Pairwise (λa b=>lt a b=true)->m.Pairwise (λa b=>lt b a=false)->l=m
 | [],m,hp,_,_=>(List.nil_perm.1 hp).symm
 | a::l,[],hp,_,_=>by simp at hp
 | a::l,b::m,hp,f,j=>by
  have ha:=or.1 f;have hb:=or.1 j;have e:a=b:=by
   have k:b∈a::l:=hp.mem_iff.2 (zh ..);have o:a∈b::m:=hp.mem_iff.1 (zh ..);rcases zJ.1 k with q | q
   .exact q.symm
   rcases zJ.1 o with c | c
   .exact c
   have:=ha.1 b q;rw[hb.1 a c] at this;cases this
  subst e;rw[JH (List.perm_cons a |>.1 hp) ha.2 hb.2]
theorem Jg{lt:Int->Int->Bool}(hO:Go.Sort.SWO lt)(xs:List Int) :
  (Go.Sort.pdq lt xs.toArray 0 xs.length (Go.Lib.bitLen xs.length) true true).toList.Perm xs/\(Go.Sort.pdq lt xs.toArray 0 xs.length (Go.Lib.bitLen xs.length) true true).toList.Pairwise (λa b=>lt b a=false):=by
 obtain⟨⟨p1,p2,f⟩,k⟩:=Go.Sort.pdq_sorts lt hO xs.toArray 0 xs.length (Go.Lib.bitLen xs.length) true true (zU _) Ψ (Or.inl rfl);generalize Go.Sort.pdq lt xs.toArray 0 xs.length (Go.Lib.bitLen xs.length) true true=d at p1 p2 f k |-;have hs:d.size=xs.length:=Ω p1
 refine⟨?_,?_⟩
 .have m:d.extract 0 xs.length=d:=by rw[<-hs];exact Array.extract_size
  have o:xs.toArray.extract 0 xs.length=xs.toArray:=Ψ
  rw[m,o] at f;simpa using f
 .rw[t7];intro i j hi hj hij;have c:i<d.size:=by simpa using hi
  have e:j<d.size:=Ω hj
  have:=k i j (zU _) hij Δ;rw[getElem!_pos d j e,getElem!_pos d i c] at this;simpa using this
theorem Fc{c:Int->Int->Option Int}(hO:LM c){xs ys:List Int}(h:rF c xs=some ys):xs.length<4611686018427387904/\(Go.Sort.pdq (Go.Proofs.ltOf λx y=>(c x y).getD 0) xs.toArray 0 xs.length (Go.Lib.bitLen xs.length) true true).toList=ys:=by
 unfold rF at h;split at h;case isFalse=>cases h
 rename_i hl;refine⟨hl,?_⟩;split at h
 .rename_i zs hz;cases h;obtain⟨b,e⟩:=IJ hO.2 hz;obtain⟨f,j⟩:=Jg hO.2 xs;exact (JH (b.trans f.symm) e j).symm
 .exact zK h
theorem JI{c:Int->Int->Option Int}(key:Int->Int)(hc:∀x y,∃r,c x y=some r/\(r<0↔key x<key y)):LM c:=by
 have b:∀x y,Go.Proofs.ltOf (λx y=>(c x y).getD 0) x y=decide (key x<key y):=λx y=>by
  obtain⟨r,e,f⟩:=hc x y;show decide ((c x y).getD 0<0)=_;rw[e,un];exact zcg.2 f
 refine⟨λx y=>?_,⟨λx=>?_,λx y z=>?_,λx y z=>?_⟩⟩
 .obtain⟨r,e,_⟩:=hc x y;rw[e];rfl
 .rw[b];simp
 .rw[b,b,b];simp;omega
 .rw[b,b,b];simp;omega
theorem a1Q(a b:Int):∃r,((if decide (a<b) then some (-1:Int) else if decide (a > b) then some 1 else some 0).bind λv=>some v)=some r/\(r<0↔a<b):=by
 by_cases c:a<b
 .rw[zG c];exact⟨-1,rfl,by simp[c]⟩
 .rw[we c];by_cases e:a > b
  .rw[zG e];exact⟨1,rfl,by simp[c]⟩
  .rw[we e];exact⟨0,rfl,by simp[c]⟩
end Go.Sh
namespace Go.Pw
open Go.RowKit Go.Sort Go.Proofs
structure Fq (P:Program) (f:FuncId):Prop where
 some_:∀(cf:Int->Int->Int) (hO:SWO (ltOf cf)) (g:Nat) (cb:Array Value) (blk off cap:Nat) (d:Array Int) (w:World),(∀args w,(callFunc g args).run P w = .ok (.enter g args) w) ->
  CmpLays1 P g cb (Value.int .i64) cf blk off d.size w->Holds (Value.int .i64) w blk off d->blk<w.heap.size->d.size<4611686018427387904 ->
  Calls P f #[.slice (some ⟨blk,off,none⟩) d.size cap,.func (.func g) #[] cb] w λe w'=>
   e = .returned (.tuple #[])/\∃n os,w'=sortWorld (Value.int .i64) w blk off n (pdq (ltOf cf) d 0 d.size (Lib.bitLen d.size) true true) os
 none_:∀(g:Nat) (cb:Array Value) (A:Option Addr) (cap:Nat) (w:World),Calls P f #[.slice A 0 cap,.func (.func g) #[] cb] w λe w'=>e = .returned (.tuple #[])/\nb w.heap.size w w'
theorem Qu{W w':World}(h:nb W.heap.size W w'):∃q os,w'=grow (W.drewN q) os:=by
 refine⟨w'.drawn-W.drawn,w'.heap.extract W.heap.size w'.heap.size,?_⟩;obtain⟨⟨c,e,f,m,j⟩,o⟩:=h;obtain⟨heap,tape,drawn,os,output⟩:=w';simp only at *;subst c;subst e;subst f;unfold grow World.drewN;simp only[World.mk.injEq,true_and,and_true];refine⟨?_,Δ⟩;apply Array.ext_getElem?;intro k;rw[Array.getElem?_append];split
 .rename_i q;exact j k q
 .rename_i q;rw[Array.getElem?_extract];split
  .rename_i b;rw[show W.heap.size+(k-W.heap.size)=k by omega]
  .rename_i b;rw[zci (by simp at b;omega)]
theorem Rm{W:World}(q:Nat)(os:Array Obj):nb W.heap.size W (grow (W.drewN q) os):=
 ⟨⟨rfl,rfl,rfl,by simp[grow,World.drewN],λk hk=>by
  show (W.heap++os)[k]? = _;rw[qr hk]⟩,Nat.le_add_right _ _⟩
theorem rC(b q:Nat):∀(vs:List Value) (o:Nat) (w:World),(w.drewN q).setCells b o vs=(w.setCells b o vs).drewN q
 | [],_,_=>rfl
 | v::r,o,w=>by rw[World.setCells,World.setCells,<-rC b q r];rfl
theorem KE{P:Program}{f:FuncId}(hb:∃fn c,P.funcs[f]? = some fn/\fn.body=some c/\fn.name ≠ "runtime.NumGoroutine")(args:Array Value)(w:World):(callFunc f args).run P w = .ok (.enter f args) w:=by
 obtain⟨fn,c,b,e,j⟩:=hb;exact tI b e j _ _
section
variable{X:Ctx}{g:Gh}{st:St}{a:Act}{w:World}{n:Nat}{K:Act->World->Prop}{Q:Exit->Act->World->Prop}{ρ:Option Nat}{P:Program}
theorem VZ{o:Oper}{x y u:Operand}{ts:Array TypeId}{f gf:FuncId}{cap:List PV}{l:Nat}{opn:Bool}{xs ys:List Int}{c:Int->Int->Option Int}(h:u7 X g st a w)
  (ho:o.op = .call { callee:=.value x,args:=#[y,u],argTypes:=ts })(V:∀t,o.dst=some t->t<X.N)(hf:B8 st.env x = .fn (.func f) [])
  (hb:∃fn c,X.P.funcs[f]? = some fn/\fn.body=some c/\fn.name ≠ "runtime.NumGoroutine")(hS:Fq X.P f)
  (hy:B8 st.env y = .sl l)(hl:st.σ l=some ⟨xs.map (PV.int .i64),0,opn,1,true⟩)(hu:B8 st.env u = .fn (.func gf) cap)
  (hbg:∃fn c,X.P.funcs[gf]? = some fn/\fn.body=some c/\fn.name ≠ "runtime.NumGoroutine")(hok:cap.all (PV.pG st.σ)=true){ls:List Nat}(hls:cap.flatMap (PV.W1 st.σ)=ls){σ':Nat->Option Row}(hσ:V1 st.σ ls=σ')
  (G:σ' l=some ⟨xs.map (PV.int .i64),0,opn,1,true⟩)(hs:Go.Sh.rF c xs=some ys)(hO:Go.Sh.LM c)
  (hc:∀p q r,c p q=some r->cd X.P gf (.int .i64 p :: .int .i64 q::cap.map (PV.v2 st.σ)) (.int .i64 r))
  (hK:∀g' a' w',u7 X g' ⟨Z7 st.env o.dst (.tup []),A3 σ' l (some ⟨ys.map (PV.int .i64),0,opn,1,true⟩)⟩ a' w'->K a' w'):o.wpIn (FX ρ) n X.P a w K Q:=by
 subst hls;subst hσ;obtain⟨h62,hs⟩:=Go.Sh.Fc hO hs;obtain⟨htot,hO⟩:=hO;generalize hcf:(λx y=>(c x y).getD 0:Int->Int->Int)=cf at hO hs;have hc':∀p q,cd X.P gf (.int .i64 p :: .int .i64 q::cap.map (PV.v2 st.σ)) (.int .i64 (cf p q)):=λp q=>by
  obtain⟨r,hr⟩:=zal.1 (htot p q);rw[<-hcf];simp only[hr,un];exact hc p q r hr
 have hv:=h.eval x;rw[hf] at hv;obtain⟨vs0,e0,hn0,_⟩:=mN hv;obtain rfl:vs0 = #[]:=Array.eq_empty_of_size_eq_zero (Ω hn0);have huv:=h.eval u;rw[hu] at huv;obtain⟨cb,eu,hncb,hcap⟩:=mN huv;have hyv:=h.eval y;rw[hy] at hyv;obtain⟨_,ey⟩:=hyv.fC;obtain⟨imm2,hF,hX,hSh⟩:=h.V1 (cap.flatMap (PV.W1 st.σ));have hview:=nY h (I8.refl st.σ) hX (vs:=#[a.eval u]) (ds:=[.fn (.func gf) cap]) rfl (λi v d hv hd=>by
  match i with
  | 0=>simp at hv hd;subst hv;subst hd;rw[<-hu];exact h.eval u
  | _+1=>simp at hd) (by simpa[PV.pY,PV.qp] using hok) (λl2 hl2 r hr=>hSh l2 (by simpa[PV.T9,PV.cC] using hl2) r hr)
 have hcb:HQ w imm2 cb (cap.map (PV.v2 st.σ)):=by
  have:=hview.2 0 (a.eval u) (.fn (.func gf) (cap.map (PV.v2 st.σ))) rfl rfl;rw[eu] at this;cases this with
  | fn f vs cs hn h=>exact⟨hn,h⟩
 have hexec:(execOp a.eval o).run X.P w = .ok (.enter f #[.slice (g.μ l).A (g.μ l).n (g.μ l).C,.func (.func gf) #[] cb]) w:=by
  have:=nh (P:=X.P) (w:=w) (a:=a) ho e0 hb;rw[this];simp[ey,eu]
 have H:=hF.rows l _ G;have E:(g.μ l).n=xs.length:=Ω H.n
 have hRz:(g.μ l).z=1:=H.z;rcases zah xs.length with h0 | h0
 .obtain rfl:xs = []:=ul h0;have hys:ys = []:=by
   rw[<-hs];have hp:=(pdq_sorts (ltOf cf) hO (#[]:Array Int) 0 0 (Lib.bitLen 0) true true (zC _) (zC _) (Or.inl rfl)).1.1;exact ul (Ω hp)
  subst hys;refine iP (λc=>Ωg) hexec ?_;rw[E];refine (hS.none_ gf cb (g.μ l).A (g.μ l).C w).mono λev w' hr=>?_;obtain⟨rfl,F⟩:=hr;refine⟨_,rfl,?_⟩;have hS':=hF.called F (λ_ _=>False);have hid:A3 (V1 st.σ (cap.flatMap (PV.W1 st.σ))) l (some ⟨List.map (PV.int .i64) [],0,opn,1,true⟩)=V1 st.σ (cap.flatMap (PV.W1 st.σ)):=by
   funext k
   by_cases e:k=l
   .subst e;rw[p7];exact G.symm
   .rw[o0 _ _ e]
  rw[hid] at hK;exact hK _ _ _ (hS'.put V (.cl (.tup #[] [] rfl λi v c _ hc=>Ωj)))
 .obtain⟨b,s,hA⟩:=H.spot (by have:(g.μ l).n<=(g.μ l).C:=H.C;rw[E] at this;show 0<(g.μ l).C;omega);have B:∀i,i<xs.length->M1 (g.μ l) ⟨xs.map (PV.int .i64),0,opn,1,true⟩ b (s+i):=λi hi=>by
   refine⟨s,hA,Ψ,?_⟩;rw[hRz,Nat.mul_one];have hC:=H.C;have hC2:xs.length<=(g.μ l).C:=by rw[<-E];exact hC
   cases opn;·simp only[zM,pu,E];omega
   .simp only[ut];omega
  have hcells:∀i,i<xs.length->w.cell? ⟨b,s+i,none⟩=some (.int .i64 xs[i]!):=λi hi=>by
   obtain⟨b',s',v,k1,k2,k3,k4,k5⟩:=H.cell i (.int .i64 xs[i]!) 0 (.int .i64 xs[i]!) (by simp[hi]) rfl;rw[hA] at k1;cases k1;rw[hRz,Nat.mul_one,zbf] at k2;rw[k2];have:=k5 rfl;cases this;rfl
  have hbs:b<w.heap.size:=(hF.fz G (B 0 h0)).2;have hHolds:Holds (Value.int .i64) w b s xs.toArray:=λj hj=>by
   have R:j<xs.length:=Ω hj
   refine⟨?_,(H.own b _ (B j R)).2.2⟩;rw[hcells j R];simp
  have hcmp:CmpLays1 X.P gf cb (Value.int .i64) cf b s xs.toArray.size w:=by
   intro m os dk hdk p q;have hdk':dk.size=xs.length:=Ω hdk
   generalize hW:sortWorld (Value.int .i64) w b s m dk os=W;have hWs:w.heap.size<=W.heap.size:=by rw[<-hW];simp[sortWorld]
   have hxW:Ext w imm2 W imm2:=by
    refine⟨λ_ _ q=>q,λb' o' q=>?_,λb' o' x q hx hm=>?_⟩
    .have hlt:=hF.immlt b' o' q;rw[<-hW,sortWorld,cell?_grow _ _ _ (Ω hlt)];refine (cell?_putRow_other _ _ _ _ _ _ ?_).trans (cell?_ahead _ _ _);by_cases e:b'=b
     .right;simp only;rcases zI o' s with k | k
      .exact .inl k
      .rcases zI o' (s+dk.size) with k2 | k2
       .exfalso;subst e;have:=B (o'-s) Δ;rw[show s+(o'-s)=o' by omega] at this;exact hF.ownimm l _ _ _ G this q
       .exact .inr k2
     .exact .inl e
    .have hlt:=hF.immlt b' o' q;have hne:b≠b':=λe=>by
      subst e;obtain⟨c,e,fr,hb2,_⟩:=cells_of_cell? (hcells 0 h0);rw[hb2] at hx;cases hx;cases hm
     rw[<-hW,sortWorld,heap_grow_old _ _ (Ω hlt)];show (mapBlock (Sort.ahead w m) b _).heap[b']? = _;simp only[mapBlock,Array.getElem?_modify,za hne];exact hx
   have hGW:GT X.P W:=X.tab.heap λk hk=>by
    have hne:b≠k:=λe=>by
     subst e;have:=(H.own b _ (B 0 h0)).1;omega
    have hkw:k<w.heap.size:=zb3 hk h.below.size;rw[<-hW,sortWorld,heap_grow_old _ _ (Ω hkw)];show (mapBlock (Sort.ahead w m) b _).heap[k]? = _;simp only[mapBlock,Array.getElem?_modify,za hne];exact h.below.block k hk
   refine (hc' p q W imm2 _ (λb o k=>zb3 (hF.immlt b o k) hWs) hGW ⟨by simp[hcb.1];omega,λi v d hv hd=>?_⟩).mono λev w' hr=>?_
   .match i with
    | 0=>rw[qr Ψ] at hv;simp at hv hd;subst hv;subst hd;exact .int _ _
    | 1=>rw[qr Ψ] at hv;simp at hv hd;subst hv;subst hd;exact .int _ _
    | i+2=>
     rw[zaj Ψ] at hv;exact (hcb.2 i v d (Ω hv) (Ω hd)).mono hxW
   .obtain⟨v,rfl,F,hrv⟩:=hr;cases hrv;exact⟨rfl,Qu F⟩
  have hcall:=hS.some_ cf hO gf cb b s (g.μ l).C xs.toArray w (λargs w=>KE hbg args w) hcmp hHolds hbs (Ω h62);refine iP (λc=>Ωg) hexec ?_;rw[E,hA];refine (show Calls X.P f _ w _ from hcall).mono λev w' hr=>?_;obtain⟨rfl,q,os,rfl⟩:=hr;refine⟨_,rfl,?_⟩;have S:ys.length=xs.length:=by
   rw[<-hs];have:=(pdq_sorts (ltOf cf) hO xs.toArray 0 xs.length (Lib.bitLen xs.length) true true (zU _) Ψ (Or.inl rfl)).1.1;simpa using this
  have hw':sortWorld (Value.int .i64) w b s q (pdq (ltOf cf) xs.toArray 0 xs.toArray.size (Lib.bitLen xs.toArray.size) true true) os=grow ((w.setCells b s (ys.map (Value.int .i64))).drewN q) os:=by
   unfold sortWorld;have:pdq (ltOf cf) xs.toArray 0 xs.toArray.size (Lib.bitLen xs.toArray.size) true true=ys.toArray:=by
    rw[<-hs];simp
   rw[this,Lib.putRow_eq_setCells _ _ _ _ xs.toArray ys q hHolds (Ω S),rC]
  rw[hw'];have hin:=zaw b (ys.map (Value.int .i64)) s w (λj' R=>(H.own b _ (B j' (by simpa[S] using R))).2.1);have hWr:=hF.write (b:=b) (o:=s) (vs:=ys.map (Value.int .i64)) (els:=ys.map (PV.int .i64)) (cl:=true) G (λj hj=>B j (by simpa[S] using hj)) (by simp[S])
   (λx hx=>by obtain⟨v,_,rfl⟩:=zn.1 hx;exact⟨rfl,rfl⟩)
   (λi x j y hx hy=>by
    rw[zD] at hx;cases T:ys[i]? with
    | none=>rw[T] at hx;cases hx
    | some v=>
     rw[T] at hx;cases hx;have hi:=C6 T;have hj:j=0/\y = .int .i64 v:=by
      cases j with
      | zero=>simp[PV.cells] at hy;exact⟨rfl,hy.symm⟩
      | succ j=>simp[PV.cells] at hy
     obtain⟨rfl,rfl⟩:=hj;have:=hin i (Ω hi);refine⟨b,s,.int .i64 v,hA,?_,.cl (.int _ _),λq=>absurd q (Nat.not_lt_zero _),λ_=>.int _ _⟩;rw[hRz,Nat.mul_one,zbf,this];simp;exact (zbo.1 T).2) Ξ
  have hS':=hWr.called (Rm q os) (λ_ _=>False);exact hK _ _ _ (hS'.put V (.cl (.tup #[] [] rfl λi v c _ hc=>Ωj)))
end
theorem WV{s:St}(l:Nat){es:List PV}{lo z:Nat}{opn:Bool}(hl:MB<=l)(hr:s.σ l=some ⟨[.mapc es],lo,opn,z,false⟩) :
  Wk s ⟨s.env,A3 s.σ l (some ⟨[.mapc es],lo,opn,z,true⟩)⟩:=λX g a w h=>by
 obtain⟨b,es0,m1,hA,m3,m4,m5,m6⟩:=h.maps.at_ l _ hl hr;cases m1;obtain⟨x0,q0,q0m⟩:=m4.obj;have hx:Ext w g.imm w (λm o=>g.imm m o\/m=b):=⟨λ_ _ q=>.inl q,λ_ _ _=>rfl,λ_ _ _ _ q _=>q⟩;have hp:∀l',s.p6 l'->St.p6 ⟨s.env,A3 s.σ l (some ⟨[.mapc es],lo,opn,z,true⟩)⟩ l'/\g.μ l'=g.μ l':=by
  rintro l' ⟨r',T⟩;refine⟨?_,rfl⟩;by_cases e:l'=l
  .exact⟨_,ΩL⟩
  .exact⟨r',by rw[show (St.mk s.env (A3 s.σ l (some ⟨[.mapc es],lo,opn,z,true⟩))).σ l'=s.σ l' from o0 _ _ e];exact T⟩
 have hcase:∀l' r',A3 s.σ l (some ⟨[.mapc es],lo,opn,z,true⟩) l'=some r'->(l'=l/\r'=⟨[.mapc es],lo,opn,z,true⟩)\/(l'≠l/\s.σ l'=some r'):=by
  intro l' r' q;by_cases e:l'=l
  .subst e;rw[p7] at q;cases q;exact .inl ⟨rfl,rfl⟩
  .rw[o0 _ _ e] at q;exact .inr ⟨e,q⟩
 have r:=h.rows l _ hr;have S:b<w.heap.size:=(wp.1 q0).1;refine⟨⟨λm o=>g.imm m o\/m=b,g.μ⟩,⟨h.size,λi=>?_,λl' r' q=>?_,λl1 u A E f V q2 p o' ho=>?_,λl' r' p o' q ho=>?_,λm o q=>?_,λm o q=>?_,λm o q=>.inl (h.immsup m o q),h.below,h.marks,h.obs,h.big,⟨λl' r' F q=>?_,λl1 u A E h1 h2 f V q2 q3=>?_⟩⟩⟩;·exact (h.env i).mono hx hp
 .rcases hcase l' r' q with ⟨rfl,rfl⟩ | ⟨e,B⟩
  .refine⟨r.n,r.z,r.C,r.lo,r.el,r.nil,r.spot,λi x j y v hy=>?_,λm o2 ho=>r.own m o2 ho⟩;have:x = .mapc es:=by
    cases i with
    | zero=>simp at v;exact v.symm
    | succ i=>simp at v
   subst this;cases hy
  .exact (h.rows l' r' B).mono hx hp λ_ _ _=>⟨rfl,rfl⟩
 .rcases hcase l1 A V with ⟨rfl,rfl⟩ | ⟨e1,q1'⟩ <;> rcases hcase u E q2 with ⟨rfl,rfl⟩ | ⟨N,q2'⟩
  .exact absurd rfl f
  .exact λk=>h.disj l1 u _ E f hr q2' p o' ho k
  .exact λk=>h.disj l1 u A _ f q1' hr p o' ho k
  .exact h.disj l1 u A E f q1' q2' p o' ho
 .have own':∀H,s.σ l'=some H->M1 (g.μ l') H p o'->¬(g.imm p o'\/p=b):=λH q0' G k=>by
   rcases k with k | k
   .exact h.ownimm l' H p o' q0' G k
   .subst k;have:=pb (h.rows l' H q0') G q0;rw[q0m] at this;cases this
  rcases hcase l' r' q with ⟨rfl,rfl⟩ | ⟨e,B⟩;·exact own' _ hr ho
  .exact own' _ B ho
 .rcases q with q | rfl
  .exact h.immlt m o q
  .exact S
 .rcases q with q | rfl
  .exact h.immsub m o q
  .exact .inr m3
 .rcases hcase l' r' q with ⟨rfl,rfl⟩ | ⟨e,B⟩;·exact⟨b,es,rfl,hA,m3,m4.mono hx λo k1 k2=>k1,λq=>Γ,λ_=>.inr rfl⟩
  .obtain⟨m,R,n1,n2,n3,n4,n5,n6⟩:=h.maps.at_ l' r' F B;have f:m≠b:=λN=>by
    subst N;exact h.maps.apart l l' _ r' hl F (zaz e) hr B rfl (by rw[hA,n2])
   exact⟨m,R,n1,n2,n3,n4.mono hx λo k1 k2=>k1,λc o k=>k.elim (n5 c o) f,λc=>.inl (n6 c)⟩
 .rcases hcase l1 A V with ⟨rfl,rfl⟩ | ⟨e1,q1'⟩;·cases q3
  .rcases hcase u E q2 with ⟨rfl,rfl⟩ | ⟨N,q2'⟩;·exact h.maps.apart l1 u A _ h1 h2 f q1' hr q3
   .exact h.maps.apart l1 u A E h1 h2 f q1' q2' q3
theorem a0c{s:St}(l0 j l:Nat){x x':PV}{lo zz k z:Nat}{opn cl opn2:Bool}{es:List PV}(f:s.σ l0=some ⟨[x],lo,opn,zz,cl⟩)(hj:x.cells[j]? = some (.mp l))(hm:s.σ l=some ⟨[.mapc es],k,opn2,z,true⟩)(hx:K8 x j [.abs (Y2 es)]=x') :
  Wk s ⟨s.env,A3 s.σ l0 (some ⟨[x'],lo,opn,zz,false⟩)⟩:=λX g a w h=>by
 subst hx;refine⟨g,h.SU f rfl hj rfl (λb s1 v hA hv hr=>?_) (λq=>Γ)⟩;obtain⟨_,hl,o,c,e⟩:=hr.Cm;obtain⟨A,p,r,m,B,u,C,y⟩:=h.maps.at_ l _ hl hm;rw[c] at m;cases m;cases r;rw[e];exact .cl (Jw ⟨o,rfl,y rfl,u⟩)
section
variable{X:Ctx}{ops:Array Oper}{i:Nat}{os:List Oper}{K:Ctx->St->Prop}{env:Nat->PV}{σ:Nat->Option Row}{ty:TypeId}{pos:String}{after:Array Edge}{gd:Option (Nat × Bool)}{t:Tmp}
theorem a1v{α:Type}{f:α->PV}{xs ys zs:List α}{x y:Operand}{T E:TypeId}{b z s:Nat}{zv:Value}(L:List (Nat × PV))(R:List (Nat × Row))(hw:C9 ops env ⟨some t,.call { callee:=.builtin .append,args:=#[x,y],argTypes:=#[T,T] },ty,pos,after,gd⟩=some true)
  (h:Go.Sh.app b xs ys=some zs)(c:Ag R ⟨env,σ⟩ L)(j:Ar R ⟨env,σ⟩ R)(p:R.lookup s=none)(hl:R.lookup t=none)
  (hx:B8 env x = .sl s)(q:σ s=some ⟨xs.map f,0,true,z,true⟩)(hy:Src σ (B8 env y) (ys.map f) true)
  (hE:B7 X.P T=some E)(hz:u5 X.P E=some z)(hb:J7 X.P E=some b)(hzv:A6 X.P E=some zv)(hzz:zv.cells.size=z)(hel:∀v,(f v).cells.length=z)
  (k:Sq X ops (i+1) os K ⟨A3 (MA L) t (.sl t),A3 (rowsOf R) t (some ⟨zs.map f,0,true,z,true⟩)⟩) :
  Sq X ops i (⟨some t,.call { callee:=.builtin .append,args:=#[x,y],argTypes:=#[T,T] },ty,pos,after,gd⟩::os) K ⟨env,σ⟩:=U9 λho=>by
 intro hd n g a w next Qo hs B;unfold wpOpIn;rw[ho];simp only;rw[zb (ax hs hw)];obtain⟨u,A,rfl⟩:=Go.Sh.Bo h;have r:=Q5 hd ho t rfl;have m:t<MB:=zb3 r (zQ hs.big.1 Θ);refine Zi (ρ:=X.ρ) L R hs c j p rfl (Q5 hd ho) m hl hx q rfl rfl rfl hy hE hz hb hzv hzz (λe he=>?_) rfl (Ω u) (Ω A) λF C w' o=>B X _ _ _ _ o ⟨⟨rfl,rfl⟩,rfl⟩ ?_
 .simp only[<-zV,zn] at he;obtain⟨v,_,rfl⟩:=he;exact hel v
 .simp only[Z7,<-zV];exact k
theorem a0f{x y u:Operand}{ts:Array TypeId}{f gf:FuncId}{cap:List PV}{l:Nat}{opn:Bool}{xs ys:List Int}{c:Int->Int->Option Int}(hs:Go.Sh.rF c xs=some ys)(hO:Go.Sh.LM c)(hw:C9 ops env ⟨some t,.call { callee:=.value x,args:=#[y,u],argTypes:=ts },ty,pos,after,gd⟩=some true)
  (hf:B8 env x = .fn (.func f) [])(hb:D6 X.P f)(z:Fq X.P f)(hy:B8 env y = .sl l)(hl:σ l=some ⟨xs.map (PV.int .i64),0,opn,1,true⟩)(hu:B8 env u = .fn (.func gf) cap)
  (e:D6 X.P gf)(hok:cap.all (PV.pG σ)=true){ls:List Nat}(o:cap.flatMap (PV.W1 σ)=ls){σ':Nat->Option Row}(v:V1 σ ls=σ')
  (m:σ' l=some ⟨xs.map (PV.int .i64),0,opn,1,true⟩){ds:List PV}(j:cap.map (PV.v2 σ)=ds)
  (hc:∀p q r,c p q=some r->cd X.P gf (.int .i64 p :: .int .i64 q::ds) (.int .i64 r))
  (k:Sq X ops (i+1) os K ⟨A3 env t (.tup []),A3 σ' l (some ⟨ys.map (PV.int .i64),0,opn,1,true⟩)⟩) :
  Sq X ops i (⟨some t,.call { callee:=.value x,args:=#[y,u],argTypes:=ts },ty,pos,after,gd⟩::os) K ⟨env,σ⟩:=U9 λho=>by
 intro hd n g a w next Qo b h;unfold wpOpIn;rw[ho];simp only;rw[zb (ax b hw)];subst j;exact VZ (ρ:=X.ρ) b rfl (Q5 hd ho) hf hb z hy hl hu e hok o v m hs hO hc λB A w' s=>h X _ _ _ _ s ⟨⟨rfl,rfl⟩,rfl⟩ k
end
end Go.Pw
namespace Go.Proofs
open Go.Shelf Go.RowKit Go.Lib Go.Sort
variable{P:Program}{ρ:Ren}
set_option maxHeartbeats 2000000 in
set_option maxRecDepth 100000 in
theorem Any.lP (L:SlLaysF.n20 P ρ) (g:Nat) (cb:Array Value) (A:Option Addr) (cap:Nat) (w:World) :
  Calls P (ρ.f 20) #[.slice A 0 cap,.int .i64 0,.int .i64 0,.func (.func g) #[] cb] w λe w'=>e = .returned (.tuple #[])/\∃n,w'=w.drewN n:=by
 have mixed:=L.mixed;have t0:=L.t0;have a0:=L.a0;have z0:=L.z0;have v0:=L.v0;have t3:=L.t3;have a3:=L.a3;have z3:=L.z3;have v3:=L.v3;have t4:=L.t4;have a4:=L.a4;have z4:=L.z4;have v4:=L.v4;have t22:=L.t22;have a22:=L.a22;have z22:=L.z22;have v22:=L.v22;obtain⟨b,_,F20⟩:=L.f20;go_enter F20,SlBodyF.n20_ntmps ρ
 go_wp2
 refine wp_loop_rounds 1 ?_;rw[rounds_succ];go_wp2
 go_end0
 exact⟨rfl,0,rfl⟩
set_option maxHeartbeats 2000000 in
set_option maxRecDepth 100000 in
theorem Any.sX (L:SlLaysF.n14 P ρ) (g:Nat) (cb:Array Value) (A:Option Addr) (cap:Nat) (lim:Int) (w:World) :
  Calls P (ρ.f 14) #[.slice A 0 cap,.int .i64 0,.int .i64 0,.int .i64 lim,.func (.func g) #[] cb] w λe w'=>e = .returned (.tuple #[])/\∃n,w'=w.drewN n:=by
 have mixed:=L.mixed;have t0:=L.t0;have a0:=L.a0;have z0:=L.z0;have v0:=L.v0;have t3:=L.t3;have a3:=L.a3;have z3:=L.z3;have v3:=L.v3;have t4:=L.t4;have a4:=L.a4;have z4:=L.z4;have v4:=L.v4;have t5:=L.t5;have a5:=L.a5;have z5:=L.z5;have v5:=L.v5;have t9:=L.t9;have a9:=L.a9;have z9:=L.z9;have v9:=L.v9;have t22:=L.t22;have a22:=L.a22;have z22:=L.z22;have b:∀args w,(callFunc (ρ.f 20) args).run P w = .ok (.enter (ρ.f 20) args) w:=L.f20.enters rfl;have hi:=λw=>Any.lP (P:=P) (ρ:=ρ) { L with } g cb A cap w;obtain⟨_,_,FG⟩:=L.f14;go_enter FG,SlBodyF.n14_ntmps ρ
 go_wp2
 refine wp_loop_rounds 1 ?_;rw[rounds_succ];go_wp2_with (go_at_fn (ρ.f 20);refine (hi _).mono ?_;rintro e w' ⟨rfl,n,rfl⟩)
 (try simp only[Exit.inBlock,Exit.then]);refine bodyPost_ret (results_none rfl _ _ _) rfl ?_
 exact⟨rfl,n,rfl⟩
set_option maxHeartbeats 2000000 in
set_option maxRecDepth 100000 in
theorem Any.rE (L:SlLaysF.n6 P ρ) (g:Nat) (cb:Array Value) (A:Option Addr) (cap:Nat) (w:World) :
  Calls P (ρ.f 6) #[.slice A 0 cap,.func (.func g) #[] cb] w λe w'=>e = .returned (.tuple #[])/\∃n,w'=w.drewN n:=by
 have mixed:=L.mixed;have t0:=L.t0;have a0:=L.a0;have z0:=L.z0;have v0:=L.v0;have t3:=L.t3;have a3:=L.a3;have z3:=L.z3;have v3:=L.v3;have t4:=L.t4;have a4:=L.a4;have z4:=L.z4;have v4:=L.v4;have t5:=L.t5;have a5:=L.a5;have z5:=L.z5;have v5:=L.v5;have t9:=L.t9;have a9:=L.a9;have z9:=L.z9;have v9:=L.v9;have t22:=L.t22;have a22:=L.a22;have z22:=L.z22;have v22:=L.v22;have t25:=L.t25;have a25:=L.a25;have z25:=L.z25;have v25:=L.v25;have t39:=L.t39;have a39:=L.a39;have z39:=L.z39;have v39:=L.v39;have t45:=L.t45;have a45:=L.a45;have z45:=L.z45;have v45:=L.v45;have t46:=L.t46;have a46:=L.a46;have z46:=L.z46;have v46:=L.v46;have t50:=L.t50;have a50:=L.a50;have z50:=L.z50;have v50:=L.v50;have t53:=L.t53;have a53:=L.a53;have z53:=L.z53;have v53:=L.v53;have t55:=L.t55;have a55:=L.a55;have z55:=L.z55;have v55:=L.v55;have t66:=L.t66;have a66:=L.a66;have z66:=L.z66;have v66:=L.v66;have t70:=L.t70;have a70:=L.a70;have z70:=L.z70;have v70:=L.v70;have t76:=L.t76;have a76:=L.a76;have z76:=L.z76;have v76:=L.v76;have t77:=L.t77;have a77:=L.a77;have z77:=L.z77;have v77:=L.v77;have b:∀args w,(callFunc (ρ.f 14) args).run P w = .ok (.enter (ρ.f 14) args) w:=L.f14.enters rfl;have c:∀args w,(callFunc (ρ.f 15) args).run P w = .ok (.enter (ρ.f 15) args) w:=enters_of L.f15 Φ rfl;have wr:IntKind.u64.wrap 0=0:=Θ
 have hp:=λlim w=>Any.sX (P:=P) (ρ:=ρ) { L with } g cb A cap lim w;have hl:Calls P (ρ.f 15) #[.int .u64 0] w λe w'=>e = .returned (.int .i64 (Lib.bitLen 0:Nat))/\w'=w:=
  Any.bits_Len (SlLaysF0.n15.bits (P:=P) (ρ:=ρ) { L with }) 0 w Δ Δ
 obtain⟨_,_,FG⟩:=L.f6;go_enter FG,SlBodyF.n6_ntmps ρ
 go_wp2_with (first | (go_at_fn (ρ.f 15);refine hl.mono ?_;rintro e w' ⟨rfl,rfl⟩) | (go_at_fn (ρ.f 14);refine (hp _ _).mono ?_;rintro e w' ⟨rfl,n,rfl⟩))
 go_end0
 exact⟨rfl,n,rfl⟩
theorem Po(L:SlLaysF.n6 P ρ):Pw.Fq P (ρ.f 6) where
 some_ cf hO g cb blk off cap d w eg c k b j:=Any.slices_SortFunc_eq L (Value.int .i64) (λ_=>rfl) cf hO g cb blk off cap d w eg c k b j
 none_ g cb A cap w:=(Any.rE L g cb A cap w).mono λe w' ⟨he,n,hw⟩=>⟨he,by rw[hw];exact⟨⟨rfl,rfl,rfl,zC _,λ_ _=>rfl⟩,Nat.le_add_right _ _⟩⟩
end Go.Proofs
