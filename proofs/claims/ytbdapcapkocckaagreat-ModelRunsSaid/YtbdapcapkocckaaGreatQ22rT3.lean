/- A part. -/
import Derived.Test.YtbdapcapkocckaaGreatQ22rT2
set_option linter.unusedVariables false
set_option linter.unusedSimpArgs false
set_option linter.unusedSectionVars false
namespace Go.Sh
structure Bn (m:a8):Prop where
 nl:m.Nodes.length<=24
 up:m.Nodes.Pairwise λa b=>a.Serial<b.Serial
 fl:∀n∈m.Nodes,n.Fields.length<=4
 sg:∀n∈m.Nodes,0<=n.Slot/\n.Slot.toNat<m.Slots.length/\n.Slot.toNat<m.Gens.length
 gg:∀g∈m.Gens,0<=g/\g<=9
 gl:m.Slots.length<=24/\m.Gens.length<=24
structure Bl (m:a8):Prop where
 rl:m.Roots.length<=30
 wl:m.b7.length<=30
 pa:m.Pairs.length<=30
 tl:m.Tasks.length<=200
variable {σ:Int->Int}{x:Hp}{m:a8}{s:Int}{n:b8}
theorem u7.bn(e:SR x.S)(q:u7 σ x m):Bn m:=by
 refine⟨q.nd.len e,q.nd.up,λn hn=>?_,λn hn=>?_,λg hg=>?_,?_,?_⟩
 .obtain⟨i,hi,ti,rfl⟩:=(q.nd.mem n).1 hn;show ((Sh.ce x.S i).Val.Fields.map σ).length<=4;rw[zf];exact (e.ok i hi ti).fl
 .obtain⟨i,hi,ti,rfl⟩:=(q.nd.mem n).1 hn;rw[q.sl,q.ge,zf,zf,zbw];unfold Sh.nd;simp;exact hi
 .rw[q.ge] at hg;obtain⟨i,hi,rfl⟩:=zn.1 hg;have:=e.cell i (za1.1 hi);have:=e.l9;omega
 .rw[q.sl,zf,zbw];exact e.len
 .rw[q.ge,zf,zbw];exact e.len
theorem u7.bl(e:lS x)(q:u7 σ x m):Bl m:=by
 refine⟨?_,?_,?_,?_⟩;·rw[q.ro,zf,e.r6];omega
 .rw[q.ce,zf,e.c6];omega
 .rw[(q.perm e).length_eq,zf];have:=Zr e.hr.l8;omega
 .rw[q.tk,zf];have:=e.q30;omega
theorem a09(m:a8):Cn m 0=0:=by
 have h:∀l:List Int,L0 l 0=0:=λl=>by unfold L0;rw[zb rfl]
 unfold Cn;rw[h,h,h];have:((m.Nodes.filter (·.Alive)).map λn=>L0 n.Fields 0)=(m.Nodes.filter (·.Alive)).map λ_=>0:=zt λn _=>h _;rw[this];have hz:∀l:List b8,(l.map λ_=>0).sum=0:=λl=>by
  induction l with
  | nil=>rfl
  | cons a l ih=>rw[zT,zbs,ih]
 rw[hz]
theorem Cf(m:a8):ar m=some ⟨m.Tasks,30⟩:=rfl
theorem MU(B:Bn m):D1 m.Nodes=some (m.Nodes.filter (·.Alive)):=by
 unfold D1;exact ml (λn _=>rfl) Δ Δ ΩF
theorem Ga:∀(l:List b8),(∀n∈l,n.Fields.length<=4)->(l.map (·.Fields)).flatten.length<=4*l.length
 | [],_=>by simp
 | n::l,h=>by
  have e:=Ga l λk hk=>h k (zw _ hk);have f:=h n zh;simp only[zT,List.flatten_cons,zA,zF];omega
theorem yL(y:Int):∀l:List b8,L0 (l.map (·.Fields)).flatten y=(l.map λn=>L0 n.Fields y).sum
 | []=>H6 y
 | x::l=>by rw[zT,List.flatten_cons,H3,yL y l,zT,zbs]
theorem Gx(B:Bn m)(C:Bl m)(s:Int):da m s=some (Cn m s:Int):=by
 have hv:D7 m.Pairs=some (m.Pairs.map (·.Val)):=by
  unfold D7;exact map_eq (λn _=>rfl) Δ Δ (by have:=C.pa;omega)
 have hh:iJ ⟨m.Tasks,30⟩=some (gj m):=To (q:=⟨m.Tasks,30⟩) (by have:=C.tl;show m.Tasks.length<=1000;omega);have j:(m.Nodes.filter (·.Alive)).length<=24:=zQ (zo ..) B.nl;have hfl:((m.Nodes.filter (·.Alive)).map (·.Fields)).flatten.length<=96:=by
  have:=Ga (m.Nodes.filter (·.Alive)) λn hn=>B.fl n (zj.1 hn).1;omega
 have Vu:(gj m).length<=200:=by
  unfold gj qf;rw[zf];exact zQ (zo ..) C.tl
 have gY:(m.Pairs.map (·.Val)).length<=30:=by rw[zf];exact C.pa
 unfold da;simp only[jn];rw[show mh m=some m from rfl,a2D,hv,a2D,Cf,a2D,hh,a2D,MU B,a2D];refine (U4 (e:=[m.Roots,m.Pairs.map (·.Val),gj m]++(m.Nodes.filter (·.Alive)).map (·.Fields)) (S9 (t0:=[m.Roots,m.Pairs.map (·.Val),gj m]) (m.Nodes.filter (·.Alive)).length (λk acc=>acc = [m.Roots,m.Pairs.map (·.Val),gj m]++((m.Nodes.filter (·.Alive)).take k).map (·.Fields)) Δ Ψ (λk acc hk e=>.inl ⟨_,?_,rfl⟩) (λacc e=>⟨acc,?_,?_⟩))).trans ?_
 .subst e;simp only[];rw[zb (Ω hk),u4 hk,a2D,qe Δ (by
   rw[zA,zf,wn];simp;omega),a2D,p8 Δ,zi hk,zV,zac]
  rfl
 .simp only[];rw[za Ψ]
 .subst e;rw[zL]
 .have hlen:([m.Roots,m.Pairs.map (·.Val),gj m]++(m.Nodes.filter (·.Alive)).map (·.Fields)).length<=30:=by
   rw[zA,zf];simp;omega
  have f:([m.Roots,m.Pairs.map (·.Val),gj m]++(m.Nodes.filter (·.Alive)).map (·.Fields)).flatten.length<=400:=by
   rw[zbz,zA];simp only[List.flatten_cons,List.flatten_nil,za9,zA];have:=C.rl;omega
  have hc:J1 ([m.Roots,m.Pairs.map (·.Val),gj m]++(m.Nodes.filter (·.Alive)).map (·.Fields))=some ([m.Roots,m.Pairs.map (·.Val),gj m]++(m.Nodes.filter (·.Alive)).map (·.Fields)).flatten:=by
   unfold J1;exact Kw Δ Δ Δ Δ
  rw[hc,a2D];have hn:Cn m s=L0 ([m.Roots,m.Pairs.map (·.Val),gj m]++(m.Nodes.filter (·.Alive)).map (·.Fields)).flatten s:=by
   rw[zbz,H3,yL];simp only[List.flatten_cons,List.flatten_nil,za9,H3];unfold Cn;omega
  rw[hn];generalize ([m.Roots,m.Pairs.map (·.Val),gj m]++(m.Nodes.filter (·.Alive)).map (·.Fields)).flatten=l at f |-;refine S9 (t0:=(0:Int)) l.length (λk acc=>acc=(L0 (l.take k) s:Int)) Δ (by simp[H6]) (λk acc hk e=>.inl ⟨_,?_,rfl⟩) (λacc e=>⟨_,?_,rfl⟩)
  .subst e;have i:=uE (l.take k) s;rw[wn] at i;rw[zi hk,H3,I6,H6];simp only[];rw[zb (Ω hk),u4 hk,a2D,p8 Δ];by_cases c:l[k]=s/\s≠0
   .rw[zb (by simpa using ⟨c.2,c.1⟩),zb c,jX Δ Δ];congr 4
   .rw[za (by simpa using λa b=>c ⟨b,a⟩),za c];rfl
  .subst e;simp only[];rw[za Ψ,zL]
theorem Cb(B:Bn m)(h:m.Nodes.find? (λn=>n.Serial==s)=some n):∃k:Nat,∃hk:k<m.Nodes.length,m.Nodes[k]=n/\M3 m s=some (k:Int):=by
 obtain⟨k,hk,e,r⟩:=IM (P:=λa=>gE a s) (p:=λn=>n.Serial==s) (λn _=>rfl) ΩF h;refine⟨k,hk,e,?_⟩;unfold M3 B6;exact rX r rfl
theorem VH(B:Bn m)(h:m.Nodes.find? (λn=>n.Serial==s)=none):M3 m s=some (-1):=by
 have r:=IL (P:=λa=>gE a s) (p:=λn=>n.Serial==s) (λn _=>rfl) ΩF h;unfold M3 B6;exact rX r rfl
theorem ga{l:List b8}(h:l.find? (λn=>n.Serial==s)=some n):n.Serial=s/\n∈l:=by
 have:=List.find?_some h;exact⟨Ω this,List.mem_of_find?_eq_some h⟩
theorem Mu{l:List b8}(up:l.Pairwise λa b=>a.Serial<b.Serial){k:Nat}(hk:k<l.length)(hs:l[k].Serial=s)(f:b8->b8):l.set k (f l[k])=cQ l s f:=by
 unfold cQ;refine zb2 Ψ λj p e=>?_;rw[zcw,zx];rw[zf] at e;by_cases c:k=j
 .subst c;rw[zb rfl,zb hs]
 .have i:l[j].Serial≠s:=by
   rw[<-hs];rcases zI k j with d | d
   .have:=t7.1 up k j hk e d;omega
   .have:=t7.1 up j k e hk Δ;omega
  rw[za c,za i]
theorem uY(B:Bn m)(h:m.Nodes.find? (λn=>n.Serial==s)=some n){F:b8->Option b8}{f:b8->b8}(hF:∀k,F k=some (f k)) :
  ((M3 m s).bind λi=>(w9 m.Nodes).bind λv2=>(ix v2 i).bind λv3=>(F v3).bind λj=>
   some (⟨(v2.set (i).toNat j),m.Slots,m.Gens,m.Last,m.Places,m.Serial,m.Roots,m.b7,m.Pairs,m.Tasks,m.Progs⟩:a8))=some (yj m (cQ m.Nodes s f)):=by
 obtain⟨k,hk,e,r⟩:=Cb B h;have hc:w9 m.Nodes=some m.Nodes:=L8 Δ (xd (m:=24) B.nl Δ Δ);rw[r,a2D,hc,a2D,u4 hk,a2D,hF,a2D];rw[zN,Mu B.up hk (s:=s) (by rw[e];exact (ga h).1)]
theorem VI(B:Bn m)(h:m.Nodes.find? (λn=>n.Serial==s)=some n):V8 m s=some (uD m s):=uY B h λ_=>rfl
theorem YR(B:Bn m)(h:m.Nodes.find? (λn=>n.Serial==s)=some n):Q8 m s=some (yj m (cQ m.Nodes s CW)):=uY B h λ_=>rfl
theorem a0V(B:Bn m)(h:m.Nodes.find? (λn=>n.Serial==s)=some n):F5 m s=some (yj m (cQ m.Nodes s jL)):=uY B h λ_=>rfl
theorem YQ(B:Bn m)(h:m.Nodes.find? (λn=>n.Serial==s)=some n)(l:List Int):T4 m s l=some (yj m (cQ m.Nodes s λn=>Xj n l)):=uY B h (F:=λk=>gG k l) λ_=>rfl
theorem Bn.cQ{m:a8}(B:Bn m){s:Int}{f:b8->b8}(h:∀n∈m.Nodes,n.Serial=s->(f n).Serial=n.Serial/\(f n).Slot=n.Slot/\(f n).Fields.length<=4):Bn (yj m (Sh.cQ m.Nodes s f)):=by
 have hser:∀n∈m.Nodes,(if n.Serial=s then f n else n).Serial=n.Serial/\(if n.Serial=s then f n else n).Slot=n.Slot/\(if n.Serial=s then f n else n).Fields.length<=4:=λn hn=>by
  split;·rename_i e;exact h n hn e
  .exact⟨rfl,rfl,B.fl n hn⟩
 refine⟨by show (Sh.cQ m.Nodes s f).length<=24;unfold Sh.cQ;rw[zf];exact B.nl,?_,λn hn=>?_,λn hn=>?_,B.gg,B.gl⟩
 .show (Sh.cQ m.Nodes s f).Pairwise _;unfold Sh.cQ;rw[zbn];refine zbe (λ{a b} ha hb q=>?_) B.up;rw[(hser a ha).1,(hser b hb).1];exact q
 .obtain⟨k,hk,rfl⟩:=zn.1 (show n∈Sh.cQ m.Nodes s f from hn);exact (hser k hk).2.2
 .obtain⟨k,hk,rfl⟩:=zn.1 (show n∈Sh.cQ m.Nodes s f from hn);rw[(hser k hk).2.1];exact B.sg k hk
theorem Bn.cR(B:Bn m)(s:Int):Bn (cR m s):=by
 unfold Sh.cR;split;·exact B.cQ λn hn _=>⟨rfl,rfl,B.fl n hn⟩
 .exact B
theorem Gv(B:Bn m)(C:Bl m)(h:s=0\/∃n,m.Nodes.find? (λn=>n.Serial==s)=some n):fy m s=some (cR m s):=by
 unfold fy cR;rw[Gx B C,a2D];by_cases c:Cn m s<11
 .rw[zb Ξ,za Δ]
 .have h0:s≠0:=λe=>by subst e;rw[a09] at c;omega
  obtain⟨n,hn⟩:=h.resolve_left h0;rw[za Ξ,zb ⟨h0,Δ⟩,VI B hn,a2D]
theorem Cd(B:Bn m)(C:Bl m)(h:s=0\/∃n,m.Nodes.find? (λn=>n.Serial==s)=some n){r:Nat}(hr:r<m.Roots.length):Z6 m r s=some (ab m r s):=by
 have e:(cR m s).Roots=m.Roots:=by rw[X4]
 have hc:C2 m.Roots=some m.Roots:=L8 Δ (xd (m:=30) C.rl Δ Δ);unfold Z6;rw[Gv B C h,a2D,e,hc,a2D,u4 hr,a2D,zN];rfl
theorem vl(h:m.Nodes.find? (λn=>n.Serial==s)=some n):∃e,(cR m s).Nodes.find? (λn=>n.Serial==s)=some e/\e.Prog=n.Prog:=by
 unfold cR;split
 .refine⟨uC n,?_,rfl⟩;show (cQ m.Nodes s uC).find? _=_;rw[vm _ (f:=uC) (λ_=>rfl),h];rfl
 .exact⟨n,h,rfl⟩
theorem EI(B:Bn m)(C:Bl m)(h:m.Nodes.find? (λn=>n.Serial==s)=some n):bV m s=some (lR m s):=by
 obtain⟨i,f,ep⟩:=vl h;have B':=B.cR s;obtain⟨k,hk,e,r⟩:=Cb B' f;unfold bV;rw[Gv B C (.inr ⟨n,h⟩),a2D,r,a2D,u4 hk,a2D,e,YR B' f,a2D];have ht:(cR m s).Tasks=m.Tasks:=by rw[X4]
 have hc:J5 m.Tasks=some m.Tasks:=L8 Δ (xd (m:=200) C.tl Δ Δ);dsimp only;rw[ht,hc,a2D,qe Δ (xd (m:=201) (by have:=C.tl;omega) Δ Δ),a2D,ep];unfold lR GN;rw[h];rw[X4];rfl
theorem Cc{m:a8}(B:Bn m)(C:Bl m)(s:Int):T5 m s=some (pH m s):=by
 unfold T5;cases h:m.Nodes.find? (λn=>n.Serial==s) with
 | none=>
  rw[VH B h,a2D,xm h];simp[y6]
 | some n=>
  obtain⟨k,hk,e,r⟩:=Cb B h;obtain⟨hs,hm⟩:=ga h;have hd:decide ((k:Int)<0)=false:=we Δ;rw[r,a2D,hd,tQ h];rw[show (false==false)=true from rfl,W4,u4 hk,a2D,e,zbj];have t:fP m.b7 s=some (iZ m.b7 s:Int):=OR _ (by have:=C.wl;omega) s;cases ha:n.Alive
  .rw[show (false==false)=true from rfl,W4,t,a2D,zbj];by_cases c:0<iZ m.b7 s
   .rw[zb (Ω c),zb (.inr c)]
   .rw[za (Ω c),za Ωx];obtain⟨f,u,i⟩:=B.sg n hm;have hp:E8 m.Nodes s=some (m.Nodes.filter λk=>k.Serial != s):=by
     unfold E8;exact ml (P:=λa=>dB a s) (λn _=>rfl) Δ Δ ΩF
    have j:C2 m.Slots=some m.Slots:=L8 Δ (xd (m:=24) B.gl.1 Δ Δ);have p:C2 m.Gens=some m.Gens:=L8 Δ (xd (m:=24) B.gl.2 Δ Δ);rw[a2D,hp,a2D,j,a2D,p,a2D,EC f i,a2D];have hg:m.Gens.getD n.Slot.toNat 0=m.Gens[n.Slot.toNat]:=by rw[zd,zc i];rfl
    unfold Ez;rw[hg,hs];by_cases d:m.Gens[n.Slot.toNat]=m.Last
    .rw[zb (Ω d),EC f u,a2D,zb d,zb d]
    .have hb:=B.gg _ (zl i);rw[za (Ω d),EC f u,a2D,za d,za d,jX Δ Δ]
  .rw[show (true==false)=false from rfl,Cp,a2D];simp
theorem BV(m:a8)(s:Int):(sS m s).Roots=m.Roots/\(sS m s).b7=m.b7/\(sS m s).Pairs=m.Pairs/\(sS m s).Tasks=m.Tasks/\(sS m s).Progs=m.Progs:=by
 unfold sS pH;split;·exact⟨rfl,rfl,rfl,rfl,rfl⟩
 .split <;> exact⟨rfl,rfl,rfl,rfl,rfl⟩
theorem Bl.sS(C:Bl m)(s:Int):Bl (sS m s):=by
 obtain⟨a,b,c,d,_⟩:=BV m s;exact⟨by rw[a];exact C.rl,by rw[b];exact C.wl,by rw[c];exact C.pa,by rw[d];exact C.tl⟩
theorem a0W(B:Bn m)(C:Bl m)(h:m.Nodes.find? (λn=>n.Serial==s)=some n):((F5 m s).bind λe=>T5 e s)=some (sS m s):=by
 rw[a0V B h,a2D,Cc (B.cQ (s:=s) (f:=jL) λn hn _=>⟨rfl,rfl,zU _⟩) ⟨C.rl,C.wl,C.pa,C.tl⟩];rfl
theorem Rw{σ:Int->Int}{x:Hp}{m:a8}(v:SR x.S)(q:u7 σ x m)(C:Bl m){ds:List Int}(hl:ds.length<=24)(hn:ds.Nodup)(hm:∀d∈ds,d∈lv x.S/\(ob x.S d).Strong<12/\(ob x.S d).Weak=Sh.iZ x.b7 d)(hi:∀d∈ds,∀c∈x.b7,σ c.Target=σ d->c.Target=d){R:Type}{K:a8->Option R} :
  (lp (S:=Int × a8) (E:=a8) (λ((i,r):Int × a8)=>
   if (decide (i<((ds.map σ).length:Int))) then
    (ix (ds.map σ) i).bind λt=>
    (F5 r t).bind λj=>
    (T5 j t).bind λp=>
    some (.inl (y4 (i+1),p))
   else
   some (.inr r)) (0,m)).bind K=K ((ds.map σ).foldl Sh.sS m):=by
 refine U4 (S9 (t0:=m) ds.length (λk acc=>acc=(((ds.take k).map σ).foldl Sh.sS m)/\Bl acc) Δ ⟨Ψ,C⟩ (λk acc hk e=>.inl ⟨_,?_,rfl,e.2.sS (σ ds[k]) |> λh=>?_⟩) (λacc e=>⟨acc,?_,?_⟩))
 .obtain⟨rfl,C'⟩:=e;have f:∀d∈ds.take k,d∈ds:=λd hd=>zad hd;have Q:=u7.YL (ds.take k) v q (hn.sublist (zcq ..)) (λd hd=>hm d (f d hd)) λd hd=>hi d (f d hd);obtain⟨u,w⟩:=BW (y:=x) v hn (λd hd=>(hm d hd).1) hk;have hf:=Q.find u (r8 u w).d;have hstep:=a0W (Q.bn u) C' hf;simp only[];rw[zb (Ω hk),u4 (Ω hk),a2D,zx];have:((F5 ((List.map σ (List.take k ds)).foldl Sh.sS m) (σ ds[k])).bind λj=>(T5 j (σ ds[k])).bind λp=>some (Sum.inl (β:=a8) (y4 ((k:Int)+1),p)))=some (Sum.inl (((k+1:Nat):Int),Sh.sS ((List.map σ (List.take k ds)).foldl Sh.sS m) (σ ds[k]))):=by
   rw[<-Option.bind_assoc,hstep,a2D,p8 Δ]
  rw[this,zi hk,zV,pi];rfl
 .rw[zi hk,zV,pi];rw[e.1] at h;exact h
 .simp only[];rw[za Ψ]
 .rw[e.1,zL]
theorem IT(hx:M0 x)(q:u7 σ x m){ds:List Int}(hn:ds.Nodup)(hm:∀d∈ds,d∈lv x.S)(hs:∀d∈ds,(ob x.S d).Strong<12):gz m (ds.map σ)=some (uW m (ds.map σ)):=by
 have j:=hx.sh;have i:=j.sr;have C:=q.bl j;have hlen:ds.length<=24:=zQ (aO hn hm) (dT (D5.2 i));have z:(ds.map σ).length<=24:=by rw[zf];exact hlen
 have hcl:(cls m.b7 (ds.map σ)).length<=30:=by
  unfold cls;refine zQ (zo ..) ?_;rw[zbw];exact C.wl
 have y:(jf m.b7 (ds.map σ)).length<=30:=by rw[iV];exact hcl
 have t:E4 (ji (cls m.b7 (ds.map σ))) (hU m.b7 (ds.map σ))=some (jf m.b7 (ds.map σ)):=by
  unfold E4;refine (map_eq (P:=λa=>gA a (hU m.b7 (ds.map σ))) (p:=λa:Int=>(⟨2,a,((hU m.b7 (ds.map σ)).getD a.toNat cz).Call⟩:k7)) (λa ha=>?_) Δ Δ (by unfold ji;rw[zf];omega)).trans ?_
  .unfold ji at ha;obtain⟨w,hw,rfl⟩:=zn.1 ha;have f:w<(hU m.b7 (ds.map σ)).length:=by unfold hU;rw[zf];exact FL hw
   unfold gA;rw[u4 f,a2D,zN,zd,zc f];rfl
  .unfold jf ji;rw[za5];congr 1;refine zt λw hw=>?_;have f:=FL hw;show (⟨2,(w:Int),_⟩:k7)=_;congr 1;unfold hU;rw[zN,zd,zD,zc f,zd,zc f];exact (oC _ _).2.1
 have u:I7 [m.Tasks,jf m.b7 (ds.map σ)]=some (m.Tasks++jf m.b7 (ds.map σ)):=by
  unfold I7;refine (Kw Δ Δ Ψ (by have:=C.tl;simp;omega)).trans ?_;simp
 have v:F7 m.Pairs (ds.map σ)=some (m.Pairs.filter λp=>decide (p.Key∉ds.map σ)):=by
  unfold F7;refine ml (P:=λa=>gB a (ds.map σ)) (λp _=>?_) Δ Δ (by have:=C.pa;omega);unfold gB;rw[contains_eq _ _ Δ,a2D];congr 1;by_cases c:p.Key∈ds.map σ
  .simp[c]
  .simp[c]
 unfold gz;simp only[jn];rw[Ij _ _ (by have:=C.wl;omega) Δ,a2D,t,a2D,u,a2D,v,a2D];have A:=q.Xb hx hn hm;have C1:Bl (WT (Ap (PF m (hU m.b7 (ds.map σ))) (m.Tasks++jf m.b7 (ds.map σ))) (m.Pairs.filter λp=>decide (p.Key∉ds.map σ))):=by
  refine⟨C.rl,?_,?_,?_⟩
  .show (hU m.b7 (ds.map σ)).length<=30;unfold hU;rw[zf];exact C.wl
  .exact zQ (zo ..) C.pa
  .show (m.Tasks++jf m.b7 (ds.map σ)).length<=200;rw[zA];have:m.Tasks.length<=30:=by rw[q.tk,zf];exact j.q30
   omega
 refine (Rw (x:=(⟨x.S,x.Roots,hU x.b7 ds,(mY x.T ds).1,⟨x.Q.L++jf x.b7 ds,x.Q.Cap⟩⟩:Hp)) i A C1 hlen hn (λd hd=>⟨hm d hd,hs d hd,?_⟩) λd hd c hc e=>?_).trans rfl
 .show (ob x.S d).Weak=(Sh.iZ (hU x.b7 ds) d:Int);have p:=r8 i (hm d hd);rw[GB,J2 i p];have:=(hx.wk _ p.1 p.d.2.1).1;rw[<-p.2.2] at this;exact this
 .refine q.gd.inz i ?_ (.inr ⟨_,(r8 i (hm d hd)).d⟩) e;have hc:c∈hU x.b7 ds:=hc;unfold hU at hc;obtain⟨r,k,rfl⟩:=zn.1 hc;rw[(oC ds r).1];exact nc j k
theorem yf(h:m.Nodes.find? (HL m)=none):sZ m=m:=by
 unfold sZ;rw[h]
theorem Ff(h:m.Nodes.find? (HL m)=some n):sZ m=if Oy n then lR m n.Serial else uW m [n.Serial]:=by
 unfold sZ;rw[h]
theorem nn{σ:Int->Int}{x:Hp}{m:a8}(hx:M0 x)(q:u7 σ x m):K7 m=some (eW m):=by
 obtain⟨n,G,hz,hj,he⟩:=sC hx;have H:eW m=af n m:=by
  have t:sZ (af n m)=af n m:=by
   refine yf ?_;rw[(q.lG hx n).zr (M9 hx n),hz];rfl
  have key:∀k,af (n+k) m=af n m:=λk=>by
   induction k with
   | zero=>rfl
   | succ k ih=>rw[<-t8,fM,ih,t]
  have:=key (100-n);rw[show n+(100-n)=100 by omega] at this;exact this
 unfold K7;rw[H];have y:∀k,∀a∈(af k m).Nodes,bN a (af k m)=some (HL (af k m) a):=λk a _=>by
  have qk:=q.lG hx k;have B:=qk.bn (M9 hx k).sh.sr;have C:=qk.bl (M9 hx k).sh;unfold bN HL;cases a.Alive <;> cases a.Stuck
  .rfl
  .rfl
  .show ((y6 true 0 (da (af k m) a.Serial)).bind _)=_;rw[W4,Gx B C,a2D];refine zY some ?_;generalize Cn (af k m) a.Serial=c;by_cases v:c=0
   .subst v;rfl
   .have E:((c:Int)==0)=false:=by simpa using v
    have F:(c==0)=false:=Ω v
    rw[E,F];rfl
  .rfl
 refine U4 (K:=some) (gn (κ:=some) (λk=>af k m) rfl n (λ_=>True) Δ trivial (λk hk _=>.inl ⟨?_,trivial⟩) (λ_=>⟨af n m,?_,rfl⟩))
 .have j:=M9 hx k;have qk:=q.lG hx k;have B:=qk.bn j.sh.sr;have C:=qk.bl j.sh;have A:=j.sh.sr;cases ez:zr (lG k x) with
  | nil=>exact absurd ez (hj k hk)
  | cons z l=>
   obtain⟨u,h0⟩:=du.1 (ez▸zh:z∈zr (lG k x));have p:=r8 A u;have hf:=qk.zr j;rw[ez] at hf;have hf:(af k m).Nodes.find? (HL (af k m))=some (Sh.nd σ (lG k x).S (F9 z)):=hf;obtain⟨i,hi,e,r⟩:=IM (y k) ΩF hf;have r':A7 (af k m).Nodes (af k m)=some (i:Int):=r;have hser:(Sh.nd σ (lG k x).S (F9 z)).Serial=σ z:=(qk.gd.f z _ p.d).symm;have w:=qk.find A p.d;rw[r',a2D,za Ψ,u4 hi,a2D,e];rw[show eI (Sh.nd σ (lG k x).S (F9 z))=some (Oy (Sh.nd σ (lG k x).S (F9 z))) from rfl,a2D,fM];rw[Ff hf,hser];split;·rw[EI B C w,a2D]
   .have hb:=IT j qk (ds:=[z]) (me.2 ⟨Ψ,zb4⟩) (λd hd=>by rw[zu] at hd;rw[hd];exact u) λd hd=>by
     rw[zu] at hd;rw[hd,h0];decide
    rw[show [σ z] = [z].map σ from rfl,hb,a2D]
 .have hf:=(q.lG hx n).zr (M9 hx n);rw[hz] at hf;have r:=IL (y n) (by have:=((q.lG hx n).bn (M9 hx n).sh.sr).nl;omega) hf;have r':A7 (af n m).Nodes (af n m)=some (-1):=r;rw[r',a2D,zb Θ]
def nO(n:b8):o5:=⟨n.Serial,n.Slot,n.Prog,n.Started,n.Alive,n.Stuck,n.Fields⟩
def mO(m:a8):e6:=⟨m.Nodes.map nO,m.Slots,m.Gens,m.Last,m.Places,m.Serial,m.Roots,m.b7.map rO,m.Pairs.map pp,m.Tasks.map mC,Du m.Progs⟩
theorem Hd(B:Bn m)(C:Bl m)(s:Int):aR (mO m) s=some (Cn m s:Int):=by
 have y:=uE m.Roots s;have hr:m.Roots.length<=30:=C.rl;have nl:=B.nl;have pa:=C.pa;have tl:=C.tl;unfold aR;simp only[jn];rw[show (mO m).Roots=m.Roots from rfl,dq _ _ Δ,a2D];have fs:∀l:List b8,(∀n∈l,n.Fields.length<=4)->((l.filter (·.Alive)).map λn=>L0 n.Fields s).sum<=4*l.length:=λl hl=>by
  refine zQ (LA (λn:b8=>L0 n.Fields s) 4 _ λn hn=>zQ (uE _ _) (hl n (zj.1 hn).1)) ?_;have:=zo (·.Alive) l;omega
 refine (U4 (e:=((L0 m.Roots s+((m.Nodes.filter (·.Alive)).map λn=>L0 n.Fields s).sum:Nat):Int)) (AH (t0:=(L0 m.Roots s:Int)) m.Nodes.length (λk acc=>acc=((L0 m.Roots s+(((m.Nodes.take k).filter (·.Alive)).map λn=>L0 n.Fields s).sum:Nat):Int)) Δ Ψ (λk acc hk e=>⟨_,?_,rfl⟩) (λacc e=>⟨acc,?_,?_⟩))).trans ?_
 .subst e;have j:=fs (m.Nodes.take k) λn hn=>B.fl n (zad hn);rw[wn] at j;have hf:=B.fl _ (zl hk);have z:=uE m.Nodes[k].Fields s;simp only[];rw[zb Ωs,show (mO m).Nodes=m.Nodes.map nO from rfl,u4 (Ω hk),a2D,zx,p8 (n:=k) Δ,zi hk,zai,zV,List.sum_append];show (if m.Nodes[k].Alive=true then _ else _)=_;cases ha:m.Nodes[k].Alive
  .rw[za Ψ,mt (by simp[ha])];simp
  .rw[zb rfl,show (nO m.Nodes[k]).Fields=m.Nodes[k].Fields from rfl,dq _ _ Δ,a2D,jX Δ Δ,zaa (by simp[ha])];simp;omega
 .simp only[];rw[za Ωo]
 .rw[e,zL]
 have r:=fs m.Nodes B.fl;generalize v:L0 m.Roots s+((m.Nodes.filter (·.Alive)).map λn=>L0 n.Fields s).sum=N;have w:N<=200:=Δ
 refine (U4 (e:=((N+L0 (m.Pairs.map (·.Val)) s:Nat):Int)) (AH (t0:=(N:Int)) m.Pairs.length (λk acc=>acc=((N+L0 ((m.Pairs.take k).map (·.Val)) s:Nat):Int)) Δ (by simp[H6]) (λk acc hk e=>⟨_,?_,rfl⟩) (λacc e=>⟨acc,?_,?_⟩))).trans ?_
 .subst e;have j:=uE ((m.Pairs.take k).map (·.Val)) s;rw[zf,wn] at j;simp only[];rw[zb Ωs,p8 (n:=k) Δ,zi hk,zV,H3,zT,zc0,I6,H6];by_cases f:s=0
  .rw[za (λd=>d.2 f),show (s != 0)=false by simp[f],show (false==true)=false from rfl,Cp,a2D];rfl
  .rw[show (s != 0)=true by simp[f],show (true==true)=true from rfl,W4,show (mO m).Pairs=m.Pairs.map pp from rfl,u4 (Ω hk),a2D,zx];by_cases c:m.Pairs[k].Val=s
   .rw[zb (Ω c),zb ⟨c,f⟩,jX Δ Δ];congr 4
   .rw[za (Ω c),za (λd=>c d.1)];rfl
 .simp only[];rw[za Ωo]
 .rw[e,zL]
 have u:=uE (m.Pairs.map (·.Val)) s;rw[zf] at u;have i:Cn m s=N+L0 (m.Pairs.map (·.Val)) s+L0 (gj m) s:=by unfold Cn;rw[<-v]
 rw[i];have p:N+L0 (m.Pairs.map (·.Val)) s<=1000:=Δ
 generalize N+L0 (m.Pairs.map (·.Val)) s=M at p |-;have t:∀k,L0 (((m.Tasks.take k).filter (·.Kind==1)).map (·.At)) s<=200:=λk=>by
  refine zQ (uE _ _) ?_;rw[zf];refine zQ (zo ..) ?_;rw[wn];omega
 refine (U4 (e:=((M+L0 (gj m) s:Nat):Int)) (AH (t0:=(M:Int)) m.Tasks.length (λk acc=>acc=((M+L0 (((m.Tasks.take k).filter (·.Kind==1)).map (·.At)) s:Nat):Int)) Δ (by simp[H6]) (λk acc hk e=>⟨_,?_,rfl⟩) (λacc e=>⟨acc,?_,?_⟩))).trans rfl
 .subst e;have j:=t k;simp only[];rw[zb Ωs,p8 (n:=k) Δ,zi hk,zai,zV,H3];by_cases f:s=0
  .have hz:∀l:List Int,L0 l s=0:=λl=>by unfold L0;rw[zb f]
   rw[hz,hz,show (s != 0)=false by simp[f],show (false==true)=false from rfl,Cp,a2D,show (false&&((⟨0,0,0⟩:o7).Kind==1))=false from rfl,show (false==true)=false from rfl,Cp,a2D];rfl
  .rw[show (s != 0)=true by simp[f],show (true==true)=true from rfl,W4,show (mO m).Tasks=m.Tasks.map mC from rfl,u4 (Ω hk),a2D,zx,zax];by_cases c1:m.Tasks[k].Kind=1
   .rw[show ((mC m.Tasks[k]).Kind==1)=true by simpa[mC] using c1,show (true==true)=true from rfl,W4,a2D,zax,zaa (Ω c1),zcn,zT,zc0,I6,H6];by_cases c:m.Tasks[k].At=s
    .rw[zb (by simpa[mC] using c),zb ⟨c,f⟩,jX Δ Δ];congr 4
    .rw[za (by simpa[mC] using c),za (λd=>c d.1)];rfl
   .rw[show ((mC m.Tasks[k]).Kind==1)=false by simpa[mC] using c1,show (false==true)=false from rfl,Cp,a2D,mt (Ω c1),zcn,zc0,H6];rfl
 .simp only[];rw[za Ωo]
 .rw[e,zL];rfl
theorem DQ(B:Bn m)(h:m.Nodes.find? (λn=>n.Serial==s)=some n):∃k:Nat,∃hk:k<m.Nodes.length,m.Nodes[k]=n/\dX (mO m) s=some (k:Int):=by
 obtain⟨f,k,hk,e,hn⟩:=zbb.1 h;refine⟨k,hk,e,?_⟩;have nl:=B.nl;unfold dX;simp only[jn];refine Y6 m.Nodes.length (λi=>i<=k) Δ (zU _) (λi hi j=>?_) (λp=>Δ);rw[zb (by simp[mO];exact hi),show (mO m).Nodes=m.Nodes.map nO from rfl,u4 (Ω hi),a2D,zx];rcases zI i k with c | c
 .left;have:=hn i c;rw[za (by simpa[nO] using this),p8 Δ];exact⟨rfl,c⟩
 .have:i=k:=by omega
  subst this;right;rw[e,zb (by simpa[nO] using f)];exact⟨_,rfl,rfl⟩
theorem a1j(B:Bn m)(h:m.Nodes.find? (λn=>n.Serial==s)=none):dX (mO m) s=some (-1):=by
 rw[zb5] at h;have nl:=B.nl;unfold dX;simp only[jn];refine Y6 m.Nodes.length (λ_=>True) Δ trivial (λi hi _=>.inl ⟨?_,trivial⟩) (λ_=>⟨.inr (),Ωo,rfl⟩);have:=h _ (zl hi);rw[zb (by simp[mO];exact hi),show (mO m).Nodes=m.Nodes.map nO from rfl,u4 (Ω hi),a2D,zx,za (by simpa[nO] using this),p8 Δ]
theorem wy{m:a8}(B:Bn m){s:Int}{n:b8}(h:m.Nodes.find? (λn=>n.Serial==s)=some n){f:b8->b8}(hf:(f n).Serial=n.Serial):bC (mO m) (nO (f n))=some (mO (yj m (cQ m.Nodes s f))):=by
 obtain⟨k,hk,e,r⟩:=DQ B h;have hs:=(ga h).1;have hser:(nO (f n)).Serial=s:=by show (f n).Serial=s;rw[hf,hs]
 unfold bC;rw[show (mO m).Nodes=m.Nodes.map nO from rfl,L8 Δ (by rw[zf];exact xd (m:=24) B.nl Δ Δ),a2D,hser,r,a2D,u4 (Ω hk),a2D,zN,<-Mu B.up hk (s:=s) (by rw[e];exact hs),e];show _=some (⟨(m.Nodes.set k (f n)).map nO,m.Slots,m.Gens,m.Last,m.Places,m.Serial,m.Roots,m.b7.map rO,m.Pairs.map pp,m.Tasks.map mC,Du m.Progs⟩:e6);rw[zca];rfl
theorem Wp(B:Bn m)(h:m.Nodes.find? (λn=>n.Serial==s)=some n):bC (mO m) (nO (uC n))=some (mO (uD m s)):=wy B h rfl
theorem Hc(B:Bn m)(C:Bl m)(h:s=0\/∃n,m.Nodes.find? (λn=>n.Serial==s)=some n):jx (mO m) s=some (mO (cR m s)):=by
 unfold jx cR;by_cases h0:s=0
 .subst h0;rw[za (λd=>d.1 rfl),show ((0:Int)==0)=true from rfl,show (true==false)=false from rfl,Cp,a2D];rfl
 .rw[show (s==0)=false by simpa using h0,show (false==false)=true from rfl,W4,Hd B C,a2D,zbj];by_cases c:Cn m s<11
  .rw[zb Ξ,za Δ]
  .obtain⟨n,hn⟩:=h.resolve_left h0;obtain⟨k,hk,e,r⟩:=DQ B hn;rw[za Ξ,zb ⟨h0,Δ⟩,r,a2D,show (mO m).Nodes=m.Nodes.map nO from rfl,u4 (Ω hk),a2D,zx,e];exact rX (Wp B hn) rfl
theorem He(B:Bn m)(C:Bl m)(h:s=0\/∃n,m.Nodes.find? (λn=>n.Serial==s)=some n){r:Nat}(hr:r<m.Roots.length):eT (mO m) r s=some (mO (ab m r s)):=by
 have e:(mO (cR m s)).Roots=m.Roots:=by rw[X4];rfl
 unfold eT;rw[Hc B C h,a2D,e,L8 Δ (xd (m:=30) C.rl Δ Δ),a2D,u4 hr,a2D,zN];rfl
theorem EV(B:Bn m)(C:Bl m)(h:m.Nodes.find? (λn=>n.Serial==s)=some n):jC (mO m) s=some (mO (lR m s)):=by
 obtain⟨p,i,ep⟩:=vl h;have B':=B.cR s;obtain⟨k,hk,e,r⟩:=DQ B' i;unfold jC;rw[Hc B C (.inr ⟨n,h⟩),a2D,r,a2D,show (mO (cR m s)).Nodes=(cR m s).Nodes.map nO from rfl,u4 (Ω hk),a2D,zx,e];refine rX (wy (f:=CW) B' i rfl) ?_;have ht:(cR m s).Tasks=m.Tasks:=by rw[X4]
 have j:=C.tl;rw[show (mO (yj (cR m s) (cQ (cR m s).Nodes s CW))).Tasks=m.Tasks.map mC by rw[<-ht];rfl,L8 Δ (by rw[zf];exact xd (m:=200) j Δ Δ),a2D,qe Δ (by rw[zf];exact xd (m:=201) Δ Δ Δ),a2D];have hp:GN m s=p.Prog:=by unfold GN;rw[h,ep];rfl
 unfold lR;rw[hp];show _=some (⟨(cQ (cR m s).Nodes s CW).map nO,_,_,_,_,_,_,_,_,(m.Tasks ++ [(⟨1,s,p.Prog⟩:k7)]).map mC,_⟩:e6);rw[zV];rfl
theorem RT{l:List b8}(up:l.Pairwise λa b=>a.Serial<b.Serial){k:Nat}(hk:k<l.length)(hs:l[k].Serial=s):l.filter (λn=>n.Serial != s)=l.take k++l.drop (k+1):=by
 have e:l=l.take k++l[k]::l.drop (k+1):=by rw[<-zbp hk,zbq]
 have f:∀n∈l.take k,(n.Serial != s)=true:=λn hn=>by
  obtain⟨j,hj,rfl⟩:=u8 hn;rw[wn] at hj;rw[List.getElem_take];have:=t7.1 up j k Δ hk Δ;have:l[j].Serial≠s:=Δ
  simpa using this
 have i:∀n∈l.drop (k+1),(n.Serial != s)=true:=λn hn=>by
  obtain⟨j,hj,rfl⟩:=u8 hn;rw[List.length_drop] at hj;rw[List.getElem_drop];have:=t7.1 up k (k+1+j) hk Δ Δ;have:l[k+1+j].Serial≠s:=Δ
  simpa using this
 conv=>lhs;rw[e]
 rw[zai,mt (by simp[hs]),zav.2 f,zav.2 i]
theorem SJ{m:a8}(B:Bn m)(C:Bl m)(s:Int):rb (mO m) s=some (mO (pH m s)):=by
 have nl:=B.nl;have wl:=C.wl;unfold rb;cases h:m.Nodes.find? (λn=>n.Serial==s) with
 | none=>
  rw[a1j B h,a2D,xm h];simp[y6]
 | some n=>
  obtain⟨k,hk,e,r⟩:=DQ B h;obtain⟨hs,hm⟩:=ga h;have hd:decide ((k:Int)<0)=false:=we Δ;rw[r,a2D,hd,tQ h,show (false==false)=true from rfl,W4,show (mO m).Nodes=m.Nodes.map nO from rfl,u4 (Ω hk),a2D,zx,e,zbj];have t:lr (mO m).b7 s=some (iZ m.b7 s:Int):=RS _ Δ s;rw[show (nO n).Alive=n.Alive from rfl];cases ha:n.Alive
  .rw[show (false==false)=true from rfl,W4,t,a2D,zbj];by_cases c:0<iZ m.b7 s
   .rw[zb (Ω c),zb (.inr c)]
   .rw[za (Ω c),za Ωx];obtain⟨f,w,p⟩:=B.sg n hm;have gl:=B.gl;have hg:m.Gens.getD n.Slot.toNat 0=m.Gens[n.Slot.toNat]:=by rw[zd,zc p];rfl
    have c1:cut (m.Nodes.map nO) 0 (k:Int)=some ((m.Nodes.take k).map nO):=by
     have:=qz (xs:=m.Nodes.map nO) (i:=0) (j:=k) (zU _) Ωw;rw[List.drop_zero,<-List.map_take] at this;exact this
    have c2:cut (m.Nodes.map nO) (y4 ((k:Int)+1)) ((m.Nodes.map nO).length:Int)=some ((m.Nodes.drop (k+1)).map nO):=by
     rw[p8 Δ];have:=qz (xs:=m.Nodes.map nO) (i:=k+1) (j:=(m.Nodes.map nO).length) Ωw (zC _);rw[zL,<-List.map_drop] at this;exact this
    have u:app 56 [] ((m.Nodes.take k).map nO)=some ((m.Nodes.take k).map nO):=L8 Δ (by rw[zf,wn];exact xd (m:=24) Δ Δ Δ);have v:app 56 ((m.Nodes.take k).map nO) ((m.Nodes.drop (k+1)).map nO)=some ((m.Nodes.filter λn=>n.Serial != s).map nO):=by
     rw[U5 Δ (by rw[zf,zf,wn,List.length_drop];exact xd (m:=48) Δ Δ Δ),<-zV,RT B.up hk (by rw[e];exact hs)]
    rw[show (mO m).Slots=m.Slots from rfl,show (mO m).Gens=m.Gens from rfl,a2D,L8 Δ (xd (m:=24) gl.1 Δ Δ),a2D,L8 Δ (xd (m:=24) gl.2 Δ Δ),a2D];simp only[jn];rw[show (nO n).Slot=n.Slot from rfl,EC f p,a2D,show (mO m).Last=m.Last from rfl];unfold Ez;rw[hg,hs];by_cases d:m.Gens[n.Slot.toNat]=m.Last
    .rw[zb (Ω d),EC f w,a2D,c1,a2D,u,a2D,c2,a2D,v,a2D,zb d,zb d];rfl
    .have hb:=B.gg _ (zl p);rw[za (Ω d),EC f w,a2D,c1,a2D,u,a2D,c2,a2D,v,a2D,za d,za d,jX (n:=m.Gens[n.Slot.toNat]+1) Δ Δ];rfl
  .rw[show (true==false)=false from rfl,Cp,a2D];simp
def rZ(m:a8)(s:Int):a8:=yj m (cQ m.Nodes s jL)
theorem oI{s t:Int}(h:s≠t){f:b8->b8}(hf:∀n,(f n).Serial=n.Serial):∀l:List b8,(cQ l t f).find? (λn=>n.Serial==s)=l.find? λn=>n.Serial==s
 | []=>rfl
 | n::l=>by
  have ih:=oI h hf l;unfold cQ at ih |-;rw[zT,zcz,zcz,ih];by_cases e:n.Serial=t
  .have i:((f n).Serial==s)=false:=by rw[hf,e];simpa using zaz h
   have j:(n.Serial==s)=false:=by rw[e];simpa using zaz h
   rw[zb e,i,j]
  .rw[za e]
theorem vj{s t:Int}{f:b8->b8}(hf:∀n,(f n).Serial=n.Serial):∀l:List b8,(cQ l t f).filter (λn=>n.Serial != s)=cQ (l.filter λn=>n.Serial != s) t f
 | []=>rfl
 | n::l=>by
  have ih:=vj (s:=s) (t:=t) hf l;unfold cQ at ih |-;rw[zT,pm,pm,ih];have:((if n.Serial=t then f n else n).Serial != s)=(n.Serial != s):=by
   split;·rw[hf]
   .rfl
  rw[this];split;·rw[zT]
  .rfl
theorem Yc{m:a8}{s t:Int}(h:s≠t):rZ (pH m s) t=pH (rZ m t) s:=by
 have hf:(rZ m t).Nodes.find? (λn=>n.Serial==s)=m.Nodes.find? λn=>n.Serial==s:=oI h (f:=jL) (λ_=>rfl) m.Nodes;cases e:m.Nodes.find? (λn=>n.Serial==s) with
 | none=>rw[xm e,xm (hf.trans e)]
 | some n=>
  rw[tQ e,tQ (hf.trans e)];have hc:(rZ m t).b7=m.b7:=rfl;rw[hc];split;·rfl
  .unfold rZ Ez;dsimp only;rw[vj (f:=jL) (λ_=>rfl)]
theorem MD{s:Int}:∀(S:List Int) {m:a8},s∉S->S.foldl rZ (pH m s)=pH (S.foldl rZ m) s
 | [],_,_=>rfl
 | t::S,m,h=>by
  rw[zJ,not_or] at h;rw[ww,ww,Yc h.1,MD S h.2]
theorem MP:∀(S:List Int) {m:a8},S.Nodup->S.foldl sS m=S.foldl pH (S.foldl rZ m)
 | [],_,_=>rfl
 | s::S,m,h=>by
  rw[me] at h;rw[ww,ww,ww,MP S h.2];show S.foldl pH (S.foldl rZ (pH (rZ m s) s))=_;rw[MD S h.1]
theorem Bn.dd(B:Bn m)(s:Int):Bn (rZ m s):=B.cQ λn hn _=>⟨rfl,rfl,zU _⟩
theorem Bl.dd(C:Bl m)(s:Int):Bl (rZ m s):=⟨C.rl,C.wl,C.pa,C.tl⟩
theorem Bn.ddL{m:a8}(B:Bn m):∀S:List Int,Bn (S.foldl rZ m):=λS=>by
 induction S generalizing m with
 | nil=>exact B
 | cons s S ih=>exact ih (B.dd s)
theorem Bl.ddL{m:a8}(B:Bl m):∀S:List Int,Bl (S.foldl rZ m):=λS=>by
 induction S generalizing m with
 | nil=>exact B
 | cons s S ih=>exact ih (B.dd s)
theorem It{s:Int}{n:b8}:∀(S:List Int) {m:a8},s∉S->m.Nodes.find? (λn=>n.Serial==s)=some n->(S.foldl rZ m).Nodes.find? (λn=>n.Serial==s)=some n
 | [],_,_,h=>h
 | t::S,m,hn,h=>by
  rw[zJ,not_or] at hn;exact It S hn.2 ((oI hn.1 (f:=jL) (λ_=>rfl) m.Nodes).trans h)
theorem Bn.Ez(B:Bn m)(i:m.Last<=9)(n:b8)(hg:∀g∈m.Gens,g<=m.Last):Bn (Sh.Ez m n)/\∀g∈(Sh.Ez m n).Gens,g<=m.Last:=by
 have f:∀g∈(if m.Gens.getD n.Slot.toNat 0=m.Last then m.Gens else m.Gens.set n.Slot.toNat (m.Gens.getD n.Slot.toNat 0+1)),0<=g/\g<=m.Last:=λg e=>by
  split at e;·exact⟨(B.gg g e).1,hg g e⟩
  .rename_i c;rcases zI n.Slot.toNat m.Gens.length with hl | hl
   .rcases zay e with q | rfl
    .exact⟨(B.gg g q).1,hg g q⟩
    .rw[zd,zc hl] at c |-;have a:=B.gg _ (zl hl);have b:=hg _ (zl hl);simp only[un] at c |-;omega
   .rw[List.set_eq_of_length_le hl] at e;exact⟨(B.gg g e).1,hg g e⟩
 have hlen:(Sh.Ez m n).Slots.length=m.Slots.length/\(Sh.Ez m n).Gens.length=m.Gens.length:=by
  unfold Sh.Ez;refine⟨Ψ,?_⟩;dsimp only;split <;> simp
 refine⟨⟨?_,?_,λk hk=>?_,λk hk=>?_,λg e=>?_,by rw[hlen.1,hlen.2];exact B.gl⟩,λg e=>(f g e).2⟩;·exact zQ (zo ..) B.nl
 .exact B.up.filter _
 .exact B.fl k (zj.1 (show k∈m.Nodes.filter _ from hk)).1
 .rw[hlen.1,hlen.2];exact B.sg k (zj.1 (show k∈m.Nodes.filter _ from hk)).1
 .have:=f g e;exact⟨this.1,Δ⟩
theorem UO{m:a8}(B:Bn m)(C:Bl m)(f:m.Last<=9)(hg:∀g∈m.Gens,g<=m.Last)(s:Int):Bn (pH m s)/\Bl (pH m s)/\(pH m s).Last<=9/\∀g∈(pH m s).Gens,g<=(pH m s).Last:=by
 cases e:m.Nodes.find? (λn=>n.Serial==s) with
 | none=>rw[xm e];exact⟨B,C,f,hg⟩
 | some n=>
  rw[tQ e];split;·exact⟨B,C,f,hg⟩
  .obtain⟨a,b⟩:=B.Ez f n hg;exact⟨a,⟨C.rl,C.wl,C.pa,C.tl⟩,f,b⟩
theorem SK{m:a8}(B:Bn m)(C:Bl m)(H:m.Last<=9)(hg:∀g∈m.Gens,g<=m.Last)(G:m.Tasks.length<=100){S:List Int}(N:S.length<=24)(hn:S.Nodup)(h0:(0:Int)∉S)(hf:∀s∈S,∃n,m.Nodes.find? (λn=>n.Serial==s)=some n):re (mO m) S=some (mO (uW m S)):=by
 have wl:=C.wl;have pa:=C.pa;have hcl:(cls m.b7 S).length<=30:=by
  unfold cls;refine zQ (zo ..) ?_;rw[zbw];exact C.wl
 have K:(ji (cls m.b7 S)).length<=30:=by unfold ji;rw[zf];exact hcl
 unfold re;rw[show (mO m).b7=m.b7.map rO from rfl,UX _ _ Δ Δ,a2D,show (mO m).Tasks=m.Tasks.map mC from rfl,L8 Δ (by rw[zf];exact xd (m:=200) C.tl Δ Δ),a2D];simp only[jn];refine (U4 (e:=(m.Tasks++jf m.b7 S).map mC) (S9 (t0:=m.Tasks.map mC) (ji (cls m.b7 S)).length (λk acc=>acc=m.Tasks.map mC++((jf m.b7 S).take k).map mC) Δ Ψ (λk acc hk e=>.inl ⟨_,?_,rfl⟩) (λacc e=>⟨acc,?_,?_⟩))).trans ?_
 .subst e;have v:k<(cls m.b7 S).length:=by unfold ji at hk;rw[zf] at hk;exact hk
  have w:k<(jf m.b7 S).length:=by rw[iV];exact v
  have hw:=FL (zl v);simp only[];rw[zb (Ω hk),u4 hk,a2D];have e1':(ji (cls m.b7 S))[k]=(((cls m.b7 S)[k]:Nat):Int):=zx ..;rw[e1'];have E:(cls m.b7 S)[k]<((hU m.b7 S).map rO).length:=by unfold hU;rw[zf,zf];exact hw
  rw[u4 E,a2D,qe Δ (by
   rw[zA,zf,zf,wn];exact xd (m:=1000) Δ Δ Δ),a2D,p8 (n:=k) Δ,zi w,zV,zT,zc0,<-zac]
  congr 5;rw[QH w];unfold mC;dsimp only;congr 1;rw[zx];unfold hU;rw[zx,zd,zc hw];exact (oC _ _).2.1
 .simp only[];rw[za Ψ]
 .subst e;rw[show (ji (cls m.b7 S)).length=(jf m.b7 S).length by unfold ji;rw[zf,iV],zL,zV]
 refine (U4 (e:=(m.Pairs.filter λp=>decide (p.Key∉S)).map pp) (S9 (t0:=([]:List r9)) m.Pairs.length (λk acc=>acc=((m.Pairs.take k).filter λp=>decide (p.Key∉S)).map pp) Δ Ψ (λk acc hk e=>.inl ⟨_,?_,rfl⟩) (λacc e=>⟨acc,?_,?_⟩))).trans ?_
 .subst e;simp only[];rw[zb Ωs,show (mO m).Pairs=m.Pairs.map pp from rfl,u4 (Ω hk),a2D,zx,show (pp m.Pairs[k]).Key=m.Pairs[k].Key from rfl,dq _ _ Δ,a2D,p8 (n:=k) Δ,zi hk,zai,zV];have hc:((L0 S m.Pairs[k].Key:Int)==0)=decide (m.Pairs[k].Key∉S):=by
   rw[zbh,zE,zak];constructor
   .intro a b;have hz:m.Pairs[k].Key≠0:=λe=>h0 (e▸b);have:=gT.2 ⟨hz,b⟩;omega
   .intro a;rw[HB a];rfl
  rw[hc];by_cases c:m.Pairs[k].Key∈S
  .rw[we (λd=>d c),za Ψ,mt Ωx];simp
  .rw[zG c,zb rfl,zaa Ωx,qe Δ (by
    rw[zf];have F:=zo (λp:l5=>decide (p.Key∉S)) (m.Pairs.take k);rw[wn] at F;exact xd (m:=1000) Δ Δ Δ),a2D]
   rfl
 .simp only[];rw[za Ωo]
 .rw[e,zL]
 have q:(⟨(mO m).Nodes,(mO m).Slots,(mO m).Gens,(mO m).Last,(mO m).Places,(mO m).Serial,(mO m).Roots,(hU m.b7 S).map rO,(m.Pairs.filter λp=>decide (p.Key∉S)).map pp,(m.Tasks++jf m.b7 S).map mC,(mO m).Progs⟩:e6)=mO (WT (Ap (PF m (hU m.b7 S)) (m.Tasks++jf m.b7 S)) (m.Pairs.filter λp=>decide (p.Key∉S))):=rfl;generalize u:WT (Ap (PF m (hU m.b7 S)) (m.Tasks++jf m.b7 S)) (m.Pairs.filter λp=>decide (p.Key∉S))=t at q;have B1:Bn t:=by subst u;exact⟨B.nl,B.up,B.fl,B.sg,B.gg,B.gl⟩
 have C1:Bl t:=by
  subst u;refine⟨C.rl,?_,?_,?_⟩
  .show (hU m.b7 S).length<=30;unfold hU;rw[zf];exact C.wl
  .exact zQ (zo ..) C.pa
  .show (m.Tasks++jf m.b7 S).length<=200;rw[zA,iV];omega
 have A:∀s∈S,∃n,t.Nodes.find? (λn=>n.Serial==s)=some n:=by subst u;exact hf
 have z:t.Last<=9/\∀g∈t.Gens,g<=t.Last:=by subst u;exact⟨H,hg⟩
 have hb:uW m S=S.foldl pH (S.foldl rZ t):=by
  unfold uW;rw[u,MP S hn]
 rw[hb,q];clear hb q;refine (U4 (e:=mO (S.foldl rZ t)) (S9 (t0:=mO t) S.length (λk acc=>acc=mO ((S.take k).foldl rZ t)) Δ rfl (λk acc hk e=>.inl ⟨_,?_,rfl⟩) (λacc e=>⟨acc,?_,?_⟩))).trans ?_
 .subst e;obtain⟨n,h⟩:=A _ (zl hk);have y:S[k]∉S.take k:=λhm=>by
   obtain⟨j,hj,e⟩:=u8 hm;rw[wn] at hj;rw[List.getElem_take] at e;have:=t7.1 hn j k Δ hk Δ;exact this e
  have h':=It (S.take k) y h;obtain⟨i,hi,e,r⟩:=DQ (B1.ddL (S.take k)) h';simp only[];rw[zb (Ω hk),u4 hk,a2D,r,a2D,show (mO ((S.take k).foldl rZ t)).Nodes=((S.take k).foldl rZ t).Nodes.map nO from rfl,u4 (Ω hi),a2D,zx,e];refine rX (wy (f:=jL) (B1.ddL (S.take k)) h' rfl) ?_;rw[p8 (n:=k) Δ,zi hk,pi];rfl
 .simp only[];rw[za Ψ]
 .rw[e,zL]
 refine (U4 (e:=mO (S.foldl pH (S.foldl rZ t))) (S9 (t0:=mO (S.foldl rZ t)) S.length (λk acc=>acc=mO ((S.take k).foldl pH (S.foldl rZ t))/\Bn ((S.take k).foldl pH (S.foldl rZ t))/\Bl ((S.take k).foldl pH (S.foldl rZ t))/\((S.take k).foldl pH (S.foldl rZ t)).Last<=9/\∀g∈((S.take k).foldl pH (S.foldl rZ t)).Gens,g<=((S.take k).foldl pH (S.foldl rZ t)).Last) Δ ⟨rfl,B1.ddL S,C1.ddL S,?_⟩ (λk acc hk e=>.inl ⟨_,?_,rfl,?_⟩) (λacc e=>⟨acc,?_,?_⟩))).trans rfl
 .have:∀(S:List Int) (t:a8),(S.foldl rZ t).Last=t.Last/\(S.foldl rZ t).Gens=t.Gens:=λS=>by
   induction S with
   | nil=>intro t;exact⟨rfl,rfl⟩
   | cons s S ih=>intro t;exact ih (rZ t s)
  show (S.foldl rZ t).Last<=9/\∀g∈(S.foldl rZ t).Gens,g<=(S.foldl rZ t).Last;rw[(this S t).1,(this S t).2];exact z
 .obtain⟨rfl,b,c,d,g⟩:=e;simp only[];rw[zb (Ω hk),u4 hk,a2D,SJ b c,a2D,p8 (n:=k) Δ,zi hk,pi];rfl
 .obtain⟨_,b,c,d,g⟩:=e;rw[zi hk,pi];exact UO b c d g S[k]
 .simp only[];rw[za Ψ]
 .rw[e.1,zL]
def Vj(l:List b8)(p:b8->Bool):Int:=((l.find? p).map (·.Serial)).getD 0
theorem WD{σ:Int->Int}{x:Hp}{m:a8}(hx:M0 x)(q:u7 σ x m){n:Nat}(hn:n<=48)(hz:zr (lG n x) = []):eW m=af n m:=by
 have e:sZ (af n m)=af n m:=by
  refine yf ?_;rw[(q.lG hx n).zr (M9 hx n),hz];rfl
 have key:∀k,af (n+k) m=af n m:=λk=>by
  induction k with
  | zero=>rfl
  | succ k ih=>rw[<-t8,fM,ih,e]
 have:=key (100-n);rw[show n+(100-n)=100 by omega] at this;exact this
theorem Nm{m:a8}(B:Bn m)(C:Bl m){R:Type}{K:Int->Option R} :
  (lp (S:=Int × Int) (E:=Int) (λ((t,p):Int × Int)=>
       if (decide (p>=0)) then
        jn (λ(u:Int)=>
         some (.inl (u,y4 (p-1)))) (λr=>
         (ix (mO m).Nodes p).bind λe=>
         (y6 ((e.Alive&&(!e.Stuck))==true) 0 (aR (mO m) e.Serial)).bind λf=>
         if ((e.Alive&&(!e.Stuck))&&(f==0)) then
          r e.Serial
         else
         r t)
       else
       some (.inr t)) (0,y4 (((mO m).Nodes.length:Int)-1))).bind K=K (Vj m.Nodes (HL m)):=by
 have nl:=B.nl;have hlen:(mO m).Nodes.length=m.Nodes.length:=by show (m.Nodes.map nO).length=_;rw[zf]
 have y:((0:Int),y4 (((mO m).Nodes.length:Int)-1))=(Vj (m.Nodes.drop (m.Nodes.length-0)) (HL m),(m.Nodes.length:Int)-1-((0:Nat):Int)):=by
  rw[hlen,jX Δ Δ,Nat.sub_zero,List.drop_length];simp[Vj]
 refine U4 (gn (λk=>(Vj (m.Nodes.drop (m.Nodes.length-k)) (HL m),(m.Nodes.length:Int)-1-(k:Int))) y m.Nodes.length (λ_=>True) Δ trivial (λk hk _=>.inl ⟨?_,trivial⟩) (λ_=>⟨_,?_,rfl⟩))
 .obtain⟨j,hj,ej⟩:∃j:Nat,j<m.Nodes.length/\(m.Nodes.length:Int)-1-(k:Int)=(j:Int):=⟨m.Nodes.length-1-k,Δ,Δ⟩;have e1':m.Nodes.length-k=j+1:=by omega
  have e2':m.Nodes.length-(k+1)=j:=Δ
  have e3':(m.Nodes.length:Int)-1-((k+1:Nat):Int)=(j:Int)-1:=Δ
  simp only[jn];rw[ej,e1',e2',e3',zb Ψ,show (mO m).Nodes=m.Nodes.map nO from rfl,u4 (Ω hj),a2D,zx,jX (n:=(j:Int)-1) Δ Δ,zbp hj];have i:((y6 (((nO m.Nodes[j]).Alive&&(!(nO m.Nodes[j]).Stuck))==true) 0 (aR (mO m) (nO m.Nodes[j]).Serial)).bind λf=>some (((nO m.Nodes[j]).Alive&&(!(nO m.Nodes[j]).Stuck))&&(f==0)))=some (HL m m.Nodes[j]):=by
   show ((y6 ((m.Nodes[j].Alive&&(!m.Nodes[j].Stuck))==true) 0 (aR (mO m) m.Nodes[j].Serial)).bind λf=>some ((m.Nodes[j].Alive&&(!m.Nodes[j].Stuck))&&(f==0)))=_;unfold HL;cases m.Nodes[j].Alive <;> cases m.Nodes[j].Stuck
   .rfl
   .rfl
   .show ((y6 true 0 (aR (mO m) m.Nodes[j].Serial)).bind _)=_;rw[W4,Hd B C,a2D];refine zY some ?_;generalize Cn m m.Nodes[j].Serial=c;by_cases w:c=0
    .subst w;rfl
    .have z:((c:Int)==0)=false:=by simpa using w
     have A:(c==0)=false:=Ω w
     rw[z,A];rfl
   .rfl
  cases ho:y6 (((nO m.Nodes[j]).Alive&&(!(nO m.Nodes[j]).Stuck))==true) 0 (aR (mO m) (nO m.Nodes[j]).Serial) with
  | none=>rw[ho] at i;cases i
  | some v=>
   rw[ho,a2D] at i;have i:=zK i;rw[a2D,i];unfold Vj;rw[zcz];cases HL m m.Nodes[j];·rfl
   .rfl
 .simp only[];rw[za Ξ,Nat.sub_self,List.drop_zero]
theorem iH{σ:Int->Int}{x:Hp}{m:a8}(hx:M0 x)(q:u7 σ x m):T6 (mO m)=some (mO (eW m)):=by
 obtain⟨n,E,hz,hj,he⟩:=sC hx;rw[WD hx q E hz];unfold T6;refine (gn (κ:=_) (λk=>(((k:Nat):Int),mO (af k m))) rfl n (λ_=>True) Δ trivial (λk hk _=>.inl ⟨?_,trivial⟩) (λ_=>⟨.inl (mO (af n m)),?_,rfl⟩))
 .have j:=M9 hx k;have qk:=q.lG hx k;have B:=qk.bn j.sh.sr;have C:=qk.bl j.sh;have w:=j.sh.sr;simp only[jn];rw[zb Ξ];refine (Nm B C).trans ?_;cases ez:zr (lG k x) with
  | nil=>exact absurd ez (hj k hk)
  | cons z l=>
   obtain⟨A,h0⟩:=du.1 (ez▸zh:z∈zr (lG k x));have p:=r8 w A;have hf:=qk.zr j;rw[ez] at hf;have hf:(af k m).Nodes.find? (HL (af k m))=some (Sh.nd σ (lG k x).S (F9 z)):=hf;have hser:(Sh.nd σ (lG k x).S (F9 z)).Serial=σ z:=(qk.gd.f z _ p.d).symm;have u:Vj (af k m).Nodes (HL (af k m))=σ z:=by unfold Vj;rw[hf];exact hser
   have t:=qk.find w p.d;have y:σ z≠0:=by have:=qk.gd.ps w A;omega
   obtain⟨i,hi,e,r⟩:=DQ B t;rw[u,za (Ω y),r,a2D,show (mO (af k m)).Nodes=(af k m).Nodes.map nO from rfl,u4 (Ω hi),a2D,zx,e];rw[show ss (nO (Sh.nd σ (lG k x).S (F9 z)))=some (Oy (Sh.nd σ (lG k x).S (F9 z))) from rfl,a2D,fM,Ff hf,hser,p8 Δ];split;·rw[EV B C t,a2D]
   .have hb:=SK B C (by rw[qk.la];exact w.l9) (λg hg=>by
     rw[qk.ge] at hg;obtain⟨i,hi,rfl⟩:=zn.1 hg;rw[qk.la];exact (w.cell i (za1.1 hi)).2.2.2) (by rw[qk.tk,zf];have:=j.sh.q30;omega) (S:=[σ z]) Ψ (me.2 ⟨Ψ,zb4⟩) (Ω (zaz y)) (λs hs=>by
     rw[zu] at hs;rw[hs];exact⟨_,t⟩)
    rw[hb,a2D]
 .have v:=M9 hx n;have qn:=q.lG hx n;have hf:=qn.zr v;rw[hz] at hf;have hf:(af n m).Nodes.find? (HL (af n m))=none:=hf;simp only[jn];rw[zb Ξ];refine (Nm (qn.bn v.sh.sr) (qn.bl v.sh)).trans ?_;have u:Vj (af n m).Nodes (HL (af n m))=0:=by unfold Vj;rw[hf];rfl
  rw[u];rfl
def PA(m:a8):List Int:=m.Roots++(gj m++(m.Nodes.filter (·.Stuck)).map (·.Serial))
inductive HN (m:a8):Int->Prop
 | base {s:Int}:s∈PA m->HN m s
 | Xl {n:b8} {v:Int}:n∈m.Nodes->HN m n.Serial->v∈n.Fields->HN m v
 | Xw {p:l5}:p∈m.Pairs->HN m p.Key->HN m p.Val
section
variable{σ:Int->Int}{x:Hp}{m:a8}(hx:M0 x)(q:u7 σ x m)
include hx q
theorem Tm{n:b8}(hn:n∈m.Nodes)(hs:n.Stuck=true):∃h∈lv x.S,n=Sh.nd σ x.S (F9 h)/\n.Serial=σ h/\12<=(ob x.S h).Strong:=by
 have j:=hx.sh.sr;obtain⟨i,hi,ti,rfl⟩:=(q.nd.mem n).1 hn;have e:12<=(Sh.ce x.S i).Val.Strong:=by simpa[Sh.nd] using hs
 rcases ti with p | k
 .have hA:At x.S (cY x.S i) i:=⟨hi,p,rfl⟩;have hl:=(lf j).2 ⟨i,hA⟩;refine⟨cY x.S i,hl,by rw[hA.d.F9 j],(q.gd.f _ i hA.d).symm,?_⟩;rw[J2 j hA];exact e
 .have:=((hx.wk i hi (.inr k)).2 k).2.2;omega
theorem SQ{s:Int}(r:HN m s):s=0\/∃h,h∈lv x.S/\s=σ h/\gZ x.S x.T (IH x) h:=by
 have w:=hx.sh;have i:=w.sr;have y:∀h,h∈lv x.S->h∈qj x->gZ x.S x.T (IH x) h:=λh hl ho=>.base (Gk hx hl ho) hl;induction r with
 | base hb=>
  unfold PA at hb;rcases zH.1 hb with a | a
  .rw[q.ro] at a;obtain⟨h,hh,rfl⟩:=zn.1 a;rcases w.rt h hh with e | hl
   .exact .inl (by rw[e];exact q.gd.z)
   .refine .inr ⟨h,hl,rfl,y h hl ?_⟩;unfold qj;exact rx _ (ln.2 ⟨hh,by have:=L5 i hl;omega⟩)
  .rcases zH.1 a with a | a
   .rw[q.Vu w] at a;obtain⟨h,hh,rfl⟩:=zn.1 a;obtain⟨t,ht,k,rfl⟩:=np.1 hh;rcases (w.tk t ht).2.2 with b | b
    .exact .inr ⟨_,b.2.1,rfl,y _ b.2.1 (t6 _ hh)⟩
    .rw[b.1] at k;exact absurd k Θ
   .obtain⟨n,hn,rfl⟩:=zn.1 a;obtain⟨h,hl,_,e,A⟩:=Tm hx q (zj.1 hn).1 (Ω ((zj.1 hn).2));exact .inr ⟨h,hl,e,.base (vB.2 ⟨hl,.inr A⟩) hl⟩
 | Xl hn E hv ih=>
  rename_i n v;have hp:=q.nd.pos i hn;obtain⟨h,hl,e,r⟩:=ih.resolve_left Δ;have p:=r8 i hl;have en:n=Sh.nd σ x.S (F9 h):=q.nd.one i hn (q.nd.at i p.1 p.d.2.1) Δj;rw[en] at hv;obtain⟨u,hu,rfl⟩:=zn.1 hv;rw[<-J2 i p] at hu;rcases w.fl h hl u hu with C | j
  .exact .inl (by rw[C];exact q.gd.z)
  .exact .inr ⟨u,j,rfl,.step r (ln.2 ⟨hu,by have:=L5 i j;omega⟩) j⟩
 | Xw hp E ih=>
  rename_i p;obtain⟨k,v,hh,rfl⟩:=(q.p2 p).1 hp;obtain⟨a,b⟩:=w.pr k v hh;have hk:=q.gd.ps i a;obtain⟨h,hl,e,r⟩:=ih.resolve_left (by show σ k≠0;omega);have:k=h:=q.gd.inl i a hl e;subst this;exact .inr ⟨v,b,rfl,.pair hh r b⟩
theorem ZD{h:Int}(r:gZ x.S x.T (IH x) h):HN m (σ h):=by
 have j:=hx.sh;have e:=j.sr;induction r with
 | base hb hl=>
  rename_i h;refine .base ?_;unfold PA;rcases (KN hx hb).2 with a | a
  .unfold qj at a;rcases zH.1 a with a | a
   .refine rx _ ?_;rw[q.ro];exact zcf (ln.1 a).1
   .refine t6 _ (rx _ ?_);rw[q.Vu j];exact zcf a
  .refine t6 _ (t6 _ ?_);have p:=r8 e hl;refine zn.2 ⟨Sh.nd σ x.S (F9 h),zj.2 ⟨q.nd.at e p.1 p.d.2.1,?_⟩,(q.gd.f h _ p.d).symm⟩;rw[J2 e p] at a;exact zG a
 | step r ho hl ih=>
  rename_i a b;have i:=gZ.live r;have p:=r8 e i;refine .Xl (q.nd.at e p.1 p.d.2.1) (by rw[show (Sh.nd σ x.S (F9 a)).Serial=σ a from (q.gd.f a _ p.d).symm];exact ih) ?_;show σ b∈(Sh.ce x.S (F9 a)).Val.Fields.map σ;rw[<-J2 e p];exact zcf (ln.1 ho).1
 | pair hh r hl ih=>
  exact .Xw ((q.p2 _).2 ⟨_,_,hh,rfl⟩) ih
theorem No{h:Int}(hl:h∈lv x.S):HN m (σ h)↔gZ x.S x.T (IH x) h:=by
 refine⟨λr=>?_,ZD hx q⟩;have f:=hx.sh.sr;have:=q.gd.ps f hl;obtain⟨k,hk,e,r'⟩:=(SQ hx q r).resolve_left Δ;rw[q.gd.inl f hl hk e];exact r'
theorem Np{s:Int}(r:HN m s):s=0\/s∈m.Nodes.map (·.Serial):=by
 have i:=hx.sh.sr;rcases SQ hx q r with e | ⟨h,hl,rfl,_⟩
 .exact .inl e
 .have p:=r8 i hl;exact .inr (zn.2 ⟨_,q.nd.at i p.1 p.d.2.1,(q.gd.f h _ p.d).symm⟩)
end
section
variable{m:a8}(hser:∀s,HN m s->s=0\/s∈m.Nodes.map (·.Serial))(B:Bn m)
include hser B
def LC(m:a8)(mp:List (Int × Bool)):Nat:=((m.Nodes.map (·.Serial)).filter λs => !(C4 mp s).getD false).length
structure NO (m:a8) (q:g9) (mp:List (Int × Bool)):Prop where
 nd:q.L.Nodup
 cap:q.Cap=(m.Nodes.length:Int)
 lQ:∀x∈q.L,Mk mp x/\x≠0
 rc:∀x,Mk mp x->x=0\/HN m x
 z:Mk mp 0
omit hser B in
theorem WL {mp:List (Int × Bool)} {x:Int} (hx:x∈m.Nodes.map (·.Serial)) (hm:¬Mk mp x):LC m (u6 mp x true)<LC m mp:=by
 unfold LC;refine filter_lt (λy _ h=>?_) x hx (by simpa[Mk] using hm) ?_
 .by_cases q:Mk mp y
  .have:=(oX mp x y).2 (.inr q);unfold Mk at this;rw[this] at h;cases h
  .simpa[Mk] using q
 .have:=(oX mp x x).2 (.inl rfl);unfold Mk at this;rw[this];rfl
omit B in
theorem NO.sub {q:g9} {mp:List (Int × Bool)} (h:NO m q mp):∀y∈q.L,y∈m.Nodes.map (·.Serial):=λy hy=>by
 obtain⟨a,b⟩:=h.lQ y hy;exact (hser y ((h.rc y a).resolve_left b)).resolve_left b
omit B in
theorem NO.room {q:g9} {mp:List (Int × Bool)} (h:NO m q mp) {x:Int} (hx:x∈m.Nodes.map (·.Serial)) (hm:¬Mk mp x):q.L.length<m.Nodes.length:=by
 have:(x::q.L).length<=(m.Nodes.map (·.Serial)).length:=aO (me.2 ⟨λk=>hm (h.lQ x k).1,h.nd⟩) λy hy=>by
  rcases zJ.1 hy with rfl | k
  .exact hx
  .exact NO.sub hser h y k
 simp only[zF,zf] at this;omega
theorem uv{xs:List Int}{q:g9}{mp:List (Int × Bool)}(hlen:xs.length<=1000000)(h0:NO m q mp)(hr:∀x∈xs,x=0\/HN m x) :
  ∃F mp',lp (S:=Int × g9 × (List (Int × Bool))) (E:=(g9 × (List (Int × Bool)))) (λ((j,p,i):Int × g9 × (List (Int × Bool)))=>
        if (decide (j<(xs.length:Int))) then
         jn (λ((v,w):g9 × (List (Int × Bool)))=>
          some (.inl (y4 (j+1),v,w))) (λu=>
          (ix xs j).bind λr=>
          if (!((C4 i r).getD (false:Bool))) then
           (H0 p r).bind λy=>
           u (y.1,(u6 i r true))
          else
          u (p,i))
        else
        some (.inr (p,i))) (0,q,mp)=some (F,mp')/\NO m F mp'/\(∀x,Mk mp' x↔Mk mp x\/x∈xs)/\(∀x,Mk mp' x->Mk mp x\/x∈F.L)/\(∀x∈q.L,x∈F.L)/\2*LC m mp'+F.L.length<=2*LC m mp+q.L.length:=by
 have nl:=B.nl;have:=ue (f:=λ((j,p,i):Int × g9 × (List (Int × Bool)))=>
        if (decide (j<(xs.length:Int))) then
         jn (λ((v,w):g9 × (List (Int × Bool)))=>
          some (.inl (y4 (j+1),v,w))) (λu=>
          (ix xs j).bind λr=>
          if (!((C4 i r).getD (false:Bool))) then
           (H0 p r).bind λy=>
           u (y.1,(u6 i r true))
          else
          u (p,i))
        else
        some (.inr (p,i))) (t0:=(q,mp)) xs.length (λk t=>NO m t.1 t.2/\(∀x,Mk t.2 x↔Mk mp x\/x∈xs.take k)/\(∀x,Mk t.2 x->Mk mp x\/x∈t.1.L)/\(∀x∈q.L,x∈t.1.L)/\2*LC m t.2+t.1.L.length<=2*LC m mp+q.L.length)
  (λt=>NO m t.1 t.2/\(∀x,Mk t.2 x↔Mk mp x\/x∈xs)/\(∀x,Mk t.2 x->Mk mp x\/x∈t.1.L)/\(∀x∈q.L,x∈t.1.L)/\2*LC m t.2+t.1.L.length<=2*LC m mp+q.L.length) Δ
  ⟨h0,λx=>Ψ,λx h=>.inl h,λx h=>h,zC _⟩ (λk t hk N=>?_) (λt N=>?_)
 .obtain⟨⟨F,mp'⟩,V,h2⟩:=this;exact⟨F,mp',V,h2⟩
 .obtain⟨K,A⟩:=t;obtain⟨p1,p2,Q,R,T⟩:=N;simp only at p1 p2 Q R T;left;have ht:∀x,x∈xs.take (k+1)↔x∈xs.take k\/x=xs[k]:=λx=>by rw[zi hk,zH,zu]
  simp only[jn,r4,hk,q9,ut,u4 hk,a2D];by_cases hm:Mk A xs[k]
  .rw[za (by rw[show (C4 A xs[k]).getD false=true from hm];decide),p8];refine⟨(K,A),rfl,p1,λx=>?_,Q,R,T⟩;rw[p2,ht];constructor
   .rintro (a | a);·exact .inl a
    .exact .inr (.inl a)
   .rintro (a | a | rfl);·exact .inl a
    .exact .inr a
    .exact (p2 _).1 hm
  .have P:(C4 A xs[k]).getD false=false:=by simpa[Mk] using hm
   have C:xs[k]≠0:=λe=>hm (by rw[e];exact p1.z);have H:=(hr _ (zl hk)).resolve_left C;have G:=(hser _ H).resolve_left C;have hroom:=NO.room hser p1 G hm;rw[zb (by rw[P];decide),Wi (by rw[p1.cap];omega) Δ,a2D,p8];refine⟨(⟨K.L ++ [xs[k]],K.Cap⟩,u6 A xs[k] true),rfl,⟨?_,p1.cap,λx hx=>?_,λx hx=>?_,?_⟩,λx=>?_,λx hx=>?_,λx hx=>?_,?_⟩
   .simp only;rw[List.nodup_append];refine⟨p1.nd,Ψ,λa ha b hb e=>?_⟩;rw[zu] at hb;subst hb;subst e;exact hm (p1.lQ _ ha).1
   .simp only[zH,zu] at hx;rw[oX];rcases hx with a | a
    .exact⟨.inr (p1.lQ x a).1,(p1.lQ x a).2⟩
    .exact⟨.inl a,by rw[a];exact C⟩
   .rcases (oX A xs[k] x).1 hx with rfl | a
    .exact .inr H
    .exact p1.rc x a
   .exact (oX A xs[k] 0).2 (.inr p1.z)
   .simp only;rw[oX,p2,ht];constructor
    .rintro (rfl | a | a);·exact .inr (.inr rfl)
     .exact .inl a
     .exact .inr (.inl a)
    .rintro (a | a | a);·exact .inr (.inl a)
     .exact .inr (.inr a)
     .exact .inl a
   .simp only[zH,zu];rcases (oX A xs[k] x).1 hx with a | a
    .exact .inr (.inr a)
    .rcases Q x a with b | b
     .exact .inl b
     .exact .inr (.inl b)
   .simp only[zH];exact .inl (R x hx)
   .have:=WL G hm;simp only[zA,List.length_singleton];omega
 .obtain⟨K,A⟩:=t;refine⟨(K,A),?_,?_⟩;·simp only[Int.lt_irrefl,zc1,zM,pu]
  .simpa using N
omit hser in
theorem Ce {a:Int} (C:Bl m):O8 m a=some ((m.Pairs.filter λp=>p.Key==a).map (·.Val)):=by
 have pa:=C.pa;have e:E7 m.Pairs a=some (m.Pairs.filter λp=>p.Key==a):=by
  unfold E7;exact ml (P:=λp=>dD p a) (λn _=>rfl) Δ Δ Δ
 have hl:(m.Pairs.filter λp=>p.Key==a).length<=30:=zQ (zo ..) pa;unfold O8;rw[e,a2D];refine rX (a:=(m.Pairs.filter λp=>p.Key==a).map (·.Val)) ?_ rfl;unfold G8;exact map_eq (λn _=>rfl) Δ Δ Δ
theorem OP(C:Bl m)(hn0:∀n∈m.Nodes,n.Serial≠0)(hp0:∀p∈m.Pairs,p.Key≠0):∃mp,iY m=some mp/\∀s,Mk mp s↔s=0\/HN m s:=by
 have nl:=B.nl;have hst:F1 m.Nodes=some (m.Nodes.filter (·.Stuck)):=by
  unfold F1;exact ml (λn _=>rfl) Δ Δ Δ
 have hsl:(m.Nodes.filter (·.Stuck)).length<=24:=zQ (zo ..) nl;have hss:L6 (m.Nodes.filter (·.Stuck))=some ((m.Nodes.filter (·.Stuck)).map (·.Serial)):=by
  unfold L6;refine rX (a:=(m.Nodes.filter (·.Stuck)).map (·.Serial)) ?_ rfl;unfold D8;exact map_eq (λn _=>rfl) Δ Δ Δ
 have hh:iJ ⟨m.Tasks,30⟩=some (gj m):=To (q:=⟨m.Tasks,30⟩) (by have:=C.tl;show m.Tasks.length<=1000;omega);have Vu:(gj m).length<=200:=by
  unfold gj qf;rw[zf];exact zQ (zo ..) C.tl
 have hbl:(PA m).length<=300:=by
  unfold PA;rw[zA,zA,zf];have:=C.rl;omega
 have hc:J1 [m.Roots,gj m,(m.Nodes.filter (·.Stuck)).map (·.Serial)]=some (PA m):=by
  unfold J1;refine (Kw Δ Δ Ψ ?_).trans ?_
  .show ([m.Roots,gj m,(m.Nodes.filter (·.Stuck)).map (·.Serial)].flatten).length<=100000;unfold PA at hbl;simpa using zQ hbl Δ
  .unfold PA;simp
 unfold iY eP;rw[hst,a2D,hss,a2D,a2D,Cf,a2D,hh,a2D,hc,a2D];have hz0:Mk (u6 [] 0 true) 0:=(oX [] 0 0).2 (.inl rfl);have hzz:∀x,Mk (u6 [] 0 true) x->x=0:=λx h=>((oX [] 0 x).1 h).resolve_right (by simp[Mk,C4]);obtain⟨q0,m0,e0,i0,i1,i2,i3,i4⟩:=uv hser B (xs:=PA m) (q:=⟨[],(m.Nodes.length:Int)⟩) (mp:=u6 [] 0 true) Δ ⟨zb4,rfl,(λx hx=>by cases hx),(λx h=>.inl (hzz x h)),hz0⟩ (λx h=>.inr (.base h));have hu:LC m (u6 [] 0 true)<=24:=by
  unfold LC;refine zQ (zo ..) ?_;rw[zf];exact nl
 suffices key:∃mp,(lp (S:=g9 × (List (Int × Bool))) (E:=(List (Int × Bool))) (λ((s102,s103):g9 × (List (Int × Bool)))=>
    (N9 s102).bind λv106=>
    if (decide (v106 > 0)) then
     (bW s102).bind λN=>
     (M3 m N.2.1).bind λv108=>
     (ix m.Nodes v108).bind λv109=>
     (lp (S:=Int × g9 × (List (Int × Bool))) (E:=(g9 × (List (Int × Bool)))) (λ((H,K,y):Int × g9 × (List (Int × Bool)))=>
       if (decide (H<(v109.Fields.length:Int))) then
        jn (λ((j170,j171):g9 × (List (Int × Bool)))=>
         some (.inl (y4 (H+1),j170,j171))) (λT=>
         (ix v109.Fields H).bind λQ=>
         if (!((C4 y Q).getD (false:Bool))) then
          (H0 K Q).bind λv174=>
          T (v174.1,(u6 y Q true))
         else
         T (K,y))
       else
       some (.inr (K,y))) (0,N.1,s103)).bind λe161=>
     (O8 m N.2.1).bind λv128=>
     (lp (S:=Int × g9 × (List (Int × Bool))) (E:=(g9 × (List (Int × Bool)))) (λ((F,G,j):Int × g9 × (List (Int × Bool)))=>
        if (decide (F<(v128.length:Int))) then
         jn (λ((j156,j157):g9 × (List (Int × Bool)))=>
          some (.inl (y4 (F+1),j156,j157))) (λR=>
          (ix v128 F).bind λP=>
          if (!((C4 j P).getD (false:Bool))) then
           (H0 G P).bind λv160=>
           R (v160.1,(u6 j P true))
          else
          R (G,j))
        else
        some (.inr (G,j))) (0,e161.1,e161.2)).bind λV=>
     some (.inl (V.1,V.2))
    else
    some (.inr s103)) (q0,m0))=some mp/\∀s,Mk mp s↔s=0\/HN m s by
  obtain⟨mp,h1,h2⟩:=key;refine⟨mp,?_,h2⟩;refine (U4 (e:=(q0,m0)) ((Option.bind_fun_some _).trans e0)).trans ?_;exact U4 ((Option.bind_fun_some _).trans h1)
 refine BY (s0:=(q0,m0)) (λt=>NO m t.1 t.2/\(∀x∈PA m,Mk t.2 x)/\∀a,Mk t.2 a->a=0\/a∈t.1.L\/((∀n∈m.Nodes,n.Serial=a->∀b∈n.Fields,Mk t.2 b)/\∀p∈m.Pairs,p.Key=a->Mk t.2 p.Val)) (λmp=>∀s,Mk mp s↔s=0\/HN m s) (λt=>2*LC m t.2+t.1.L.length)
   ⟨i0,λx h1=>(i1 x).2 (.inr h1),λa ha=>?_⟩ (by show 2*LC m m0+q0.L.length<_;simp only[zag] at i4;omega) ?_
 .rcases i2 a ha with b | b
  .exact .inl (hzz a b)
  .exact .inr (.inl b)
 .rintro⟨q,mp⟩ ⟨p1,p2,p3⟩;simp only at p1 p2 p3 |-;have hq:=aO p1.nd (NO.sub hser p1);rw[zf] at hq;unfold N9;rw[a2D];cases A:q.L with
  | nil=>
   right;refine⟨mp,by rw[za Ψ],λx=>⟨p1.rc x,λh=>?_⟩⟩;rcases h with rfl | h
   .exact p1.z
   .have cl:∀a,Mk mp a->a≠0->(∀n∈m.Nodes,n.Serial=a->∀b∈n.Fields,Mk mp b)/\∀p∈m.Pairs,p.Key=a->Mk mp p.Val:=λa h1 h2=>by
     rcases p3 a h1 with c | c | c
     .exact absurd c h2
     .rw[A] at c;cases c
     .exact c
    induction h with
    | base a=>exact p2 _ a
    | Xl hn r hv ih=>
     rename_i n v;exact (cl _ ih (hn0 n hn)).1 n hn rfl v hv
    | Xw hp r ih=>
     rename_i p;exact (cl _ ih (hp0 p hp)).2 p hp rfl
  | cons a r=>
   left;have hqe:q=⟨a::r,q.Cap⟩:=by rw[<-A]
   have haq:a∈q.L:=by rw[A];exact zh
   obtain⟨hma,ha0⟩:=p1.lQ a haq;have hra:=(p1.rc a hma).resolve_left ha0;have has:=NO.sub hser p1 a haq;obtain⟨n,hf⟩:∃n,m.Nodes.find? (λn=>n.Serial==a)=some n:=by
    obtain⟨k,hk,e⟩:=zn.1 has;exact zal.1 (List.find?_isSome.2 ⟨k,hk,Ω e⟩)
   obtain⟨hns,hnm⟩:=ga hf;obtain⟨i,hi,ei,ri⟩:=Cb B hf;have hnd:=p1.nd;rw[A] at hnd hq;simp only[zF] at hq;have hfl:=B.fl n hnm;obtain⟨q1,m1,e1',j0,j1,j2,j3,j4⟩:=uv hser B (xs:=n.Fields) (q:=⟨r,q.Cap⟩) (mp:=mp) Δ ⟨(me.1 hnd).2,p1.cap,λx hx=>p1.lQ x (by rw[A];exact zw _ hx),p1.rc,p1.z⟩ (λx h=>.inr (.Xl hnm (by rw[hns];exact hra) h));have hvl:((m.Pairs.filter λp=>p.Key==a).map (·.Val)).length<=30:=by
    rw[zf];exact zQ (zo ..) C.pa
   obtain⟨q2,m2,e2',k0,k1,k2,k3,k4⟩:=uv hser B (xs:=(m.Pairs.filter λp=>p.Key==a).map (·.Val)) (q:=q1) (mp:=m1) Δ j0 (λx h=>by
    obtain⟨p,hp,rfl⟩:=zn.1 h;obtain⟨hp1,hp2⟩:=zj.1 hp;have hk:p.Key=a:=Ω hp2
    exact .inr (.Xw hp1 (by rw[hk];exact hra)))
   refine⟨(q2,m2),?_,⟨k0,λx h1=>(k1 x).2 (.inl ((j1 x).2 (.inl (p2 x h1)))),λb hb=>?_⟩,?_⟩
   .rw[zb Ψ,hqe,Zp Δ,a2D];simp only;rw[ri,a2D,u4 hi,a2D,ei];refine rX e1' ?_;simp only;rw[Ce B C,a2D];exact rX e2' rfl
   .simp only at hb |-;have up1:∀x,Mk m1 x->Mk m2 x:=λx h=>(k1 x).2 (.inl h);have up0:∀x,Mk mp x->Mk m2 x:=λx h=>up1 x ((j1 x).2 (.inl h));rcases k2 b hb with c | c
    .rcases j2 b c with d | d
     .rcases p3 b d with f | f | f
      .exact .inl f
      .rw[A] at f;rcases zJ.1 f with rfl | f
       .refine .inr (.inr ⟨λk hk hks v hv=>?_,λp hp hpk=>?_⟩)
        .have:k=n:=by
          obtain⟨u,hu,eu⟩:=u8 hk;obtain⟨w,hw,ew⟩:=u8 hnm;rcases Nat.lt_trichotomy u w with c1 | c1 | c1
          .have:=t7.1 B.up u w hu hw c1;rw[eu,ew] at this;omega
          .subst c1;rw[<-eu,<-ew]
          .have:=t7.1 B.up w u hw hu c1;rw[eu,ew] at this;omega
         rw[this] at hv;exact up1 v ((j1 v).2 (.inr hv))
        .exact (k1 _).2 (.inr (zn.2 ⟨p,zj.2 ⟨hp,Ω hpk⟩,rfl⟩))
       .exact .inr (.inl (k3 b (j3 b f)))
      .exact .inr (.inr ⟨λk hk hks v hv=>up0 v (f.1 k hk hks v hv),λp hp hpk=>up0 _ (f.2 p hp hpk)⟩)
     .exact .inr (.inl (k3 b d))
    .exact .inr (.inl c)
   .show 2*LC m m2+q2.L.length<2*LC m mp+(a::r).length;simp only[zF] at j4 k4 |-;omega
end
theorem xD{l:List b8}(h:l.length<=1000):L6 l=some (l.map (·.Serial)):=by
 unfold L6;refine rX (a:=l.map (·.Serial)) ?_ rfl;unfold D8;exact map_eq (λn _=>rfl) Δ Δ Δ
theorem u7.Ly{σ:Int->Int}{x:Hp}{m:a8}(e:SR x.S)(q:u7 σ x m):(m.Nodes.filter (·.Alive)).map (·.Serial)=Sh.Ly x:=by
 rw[q.nd.alive e,za5];unfold Sh.Ly;refine zt λh hh=>?_;show (Sh.ce x.S (F9 h)).Val.Serial=(ob x.S h).Serial;rw[J2 e (r8 e hh)]
theorem Gw{σ:Int->Int}{x:Hp}{m:a8}(e:SR x.S)(q:u7 σ x m):ba m=some (Sh.Ly x):=by
 have B:=q.bn e;unfold ba;rw[MU B,a2D,xD (zQ (zo ..) ΩF),a2D,q.Ly e]
theorem Hv(x:Hp):(Ly x).length=(lv x.S).length:=by unfold Ly;rw[zf]
theorem a0A{p:Prop}{i:Decidable p}(h:¬p):false=@decide p i:=(we h).symm
theorem a0B{p:Prop}{i:Decidable p}(h:p):true=@decide p i:=(zG h).symm
section
variable{σ:Int->Int}{x:Hp}{m:a8}(hx:M0 x)(q:u7 σ x m)
include hx q
theorem BO:∀d∈cG x,(ob x.S d).Strong<12:=λd hd=>by
 obtain⟨a,b⟩:=(cH (x:=x)).1 hd;rcases Int.lt_or_le (ob x.S d).Strong 12 with c | c
 .exact c
 .exact absurd (.base (vB.2 ⟨a,.inr c⟩) a) b
theorem OO{mp:List (Int × Bool)}(h:∀s,Mk mp s↔s=0\/HN m s):E5 m.Nodes mp=some ((cG x).map λh=>Sh.nd σ x.S (F9 h)):=by
 have i:=hx.sh.sr;have B:=q.bn i;have nl:=B.nl;unfold E5;refine (ml (P:=λn=>cL n mp) (p:=λn=>n.Alive && !((C4 mp n.Serial).getD false)) (λn _=>rfl) Δ Δ Δ).trans ?_;congr 1;rw[<-zat,zat,zaf (λn _=>zcx _ _),<-zat,q.nd.alive i,zco];congr 1;unfold cG fls;refine zaf λd hd=>?_;have p:=r8 i hd;show (!((C4 mp (Sh.ce x.S (F9 d)).Val.Serial).getD false))=_;rw[<-q.gd.f d _ p.d];have h0:σ d≠0:=by have:=q.gd.ps i hd;omega
 have:(C4 mp (σ d)).getD false=true↔gZ x.S x.T (IH x) d:=by
  rw[<-No hx q hd];exact (h (σ d)).trans ⟨λc=>c.resolve_left h0,.inr⟩
 by_cases c:gZ x.S x.T (IH x) d
 .rw[this.2 c];exact a0A λe=>e c
 .have hc:(C4 mp (σ d)).getD false=false:=by
   cases e:(C4 mp (σ d)).getD false;·rfl
   .exact absurd (this.1 e) c
  rw[hc];exact a0B c
theorem Om:((cG x).map λh=>Sh.nd σ x.S (F9 h)).filter Oy=(uK x).map λh=>Sh.nd σ x.S (F9 h):=by
 have e:=hx.sh.sr;rw[zco];unfold uK;congr 1;refine zaf λd hd=>?_;have hl:=Y5 hx d hd;have p:=r8 e hl;rw[J2 e p];rfl
theorem MX{l:List Int}(hl:∀h∈l,h∈lv x.S):(l.map λh=>Sh.nd σ x.S (F9 h)).map (·.Serial)=l.map σ:=by
 rw[za5];refine zt λh hh=>?_;exact (q.gd.f h _ (r8 hx.sh.sr (hl h hh)).d).symm
end
theorem u7.quL{σ:Int->Int}{x:Hp}{m:a8}(hx:M0 x)(f:SL x)(hz:Sh.zr x = [])(q:u7 σ x m){l:List Int}(hn:l.Nodup)(hd:∀h∈l,h∈Sh.lv x.S/\due (Sh.ob x.S h)=true) :
  ∀k,k<=l.length->u7 σ ((l.take k).foldl Sh.kK x) (((l.take k).map σ).foldl lR m)
 | 0,_=>q
 | k+1,h=>by
  have ih:=u7.quL hx f hz q hn hd k Δ;have e:∀h∈l.take k,h∈l:=λh hh=>zad hh;have Q:=Ct (l.take k) hx f hz (hn.sublist (zcq ..)) λh hh=>hd h (e h hh);rw[zi Δ,zV,pi,pi];exact ih.kK Q.rt.sh Q.rt.fair (by rw[Q.lv];exact (hd _ (zl _)).1)
theorem CV{σ:Int->Int}{x:Hp}{m:a8}(hx:M0 x)(v:SL x)(hz:Sh.zr x = [])(q:u7 σ x m){l:List Int}(hl:l.length<=24)(hn:l.Nodup)(hd:∀h∈l,h∈Sh.lv x.S/\due (Sh.ob x.S h)=true){R:Type}{K:a8->Option R} :
  (lp (S:=Int × a8) (E:=a8) (λ((i,p):Int × a8)=>
   if (decide (i<((l.map σ).length:Int))) then
    (ix (l.map σ) i).bind λt=>
    (bV p t).bind λu=>
    some (.inl (y4 (i+1),u))
   else
   some (.inr p)) (0,m)).bind K=K ((l.map σ).foldl lR m):=by
 refine U4 (S9 (t0:=m) l.length (λk acc=>acc=((l.take k).map σ).foldl lR m) Δ rfl (λk acc hk e=>.inl ⟨_,?_,rfl⟩) (λacc e=>⟨acc,?_,?_⟩))
 .subst e;have Q:=u7.quL hx v hz q hn hd k Δ;have j:∀h∈l.take k,h∈l:=λh hh=>zad hh;have D:=Ct (l.take k) hx v hz (hn.sublist (zcq ..)) λh hh=>hd h (j h hh);have f:=D.rt.sh.sr;have r:l[k]∈lv ((l.take k).foldl kK x).S:=by rw[D.lv];exact (hd _ (zl hk)).1
  simp only[];rw[zb (Ω hk),u4 (Ω hk),a2D,zx,EI (Q.bn f) (Q.bl D.rt.sh) (Q.find f (r8 f r).d),a2D,p8 (n:=k) Δ,zi hk,zV,pi];rfl
 .simp only[];rw[za Ψ]
 .rw[e,zL]
theorem Mr(m:a8)(l:List Int):(uW m l).Progs=m.Progs:=by
 unfold uW;have key:∀(l:List Int) (m:a8),(l.foldl sS m).Progs=m.Progs:=λl=>by
  induction l with
  | nil=>exact λm=>rfl
  | cons s l ih=>exact λm=>(ih (sS m s)).trans (BV m s).2.2.2.2
 exact key l _
theorem NF(m:a8)(s:Int):(lR m s).Progs=m.Progs:=by
 show (cR m s).Progs=m.Progs;rw[X4]
theorem WI(l:List Int):∀m:a8,(l.foldl lR m).Progs=m.Progs:=by
 induction l with
 | nil=>exact λm=>rfl
 | cons s l ih=>exact λm=>(ih (lR m s)).trans (NF m s)
theorem AQ(m:a8):(eW m).Progs=m.Progs:=by
 have e:∀m:a8,(sZ m).Progs=m.Progs:=λm=>by
  unfold sZ;split;·rfl
  .split;·exact NF ..
   .exact Mr ..
 have:∀n,(af n m).Progs=m.Progs:=λn=>by
  induction n with
  | zero=>rfl
  | succ n ih=>rw[fM,e,ih]
 exact this 100
def J8(m:a8)(r:Int):Int:=if r<0 then 0 else m.Roots.getD r.toNat 0
def ta(m:a8)(a s e:Int):a8 × Int × Int:=if e≠0 then (m,0,e) else (ab m a.toNat s,s,0)
def ua(m:a8)(s k v:Int):a8 × Int × Int:=match m.Nodes.find? (λn=>n.Serial==s) with
 | none=>(m,0,2)
 | some n=>if ¬(0<=k/\k<n.Fields.length) then (m,0,5) else (yj (cR m v) (cQ (cR m v).Nodes s λj=>Xj j (n.Fields.set k.toNat v)),v,0)
def qW(m:a8)(s v:Int):a8 × Int × Int:=
 if v≠0/\m.Places<=((m.Pairs.filter λp=>p.Key != s).length:Int) then (m,0,8) else (WT (cR m v) ((m.Pairs.filter λp=>p.Key != s)++if v=0 then [] else [⟨s,v⟩]),v,0)
def T1(m:a8)(o:k8):a8 × Int × Int:=
 if o.Kind=10 then (m,if J8 m o.A=J8 m o.B then 1 else 0,0)
 else if o.Kind=5 then (if J8 m o.A=0 then (m,0,2) else ua m (J8 m o.A) o.B (J8 m o.C))
 else if o.Kind=6 then (if 0<=o.B/\J8 m o.B=0 then (m,0,2) else if uM ⟨m.Tasks,30⟩ o.A=true then (m,0,7) else (JZ m o.A.toNat (J8 m o.B) o.C,J8 m o.B,0))
 else if o.Kind=8 then (if J8 m o.A=0 then (m,0,2) else qW m (J8 m o.A) (J8 m o.B))
 else if o.Kind=1 then (if m.Slots.findIdx (· == 0)<m.Slots.length then (ab (DI m (m.Slots.findIdx (· == 0)) o.B.toNat o.C) o.A.toNat (m.Serial+1),m.Serial+1,0) else (m,0,4))
 else if o.Kind=2 then ta m o.A (J8 m o.B) 0
 else if o.Kind=4 then (if J8 m o.B=0 then (m,0,2) else match m.Nodes.find? (λn=>n.Serial==J8 m o.B) with
  | none=>(m,0,2)
  | some n=>if ¬(0<=o.C/\o.C<n.Fields.length) then (m,0,5) else ta m o.A (n.Fields.getD o.C.toNat 0) 0)
 else if o.Kind=7 then (if (m.b7.getD o.B.toNat cz).Target=0\/(m.b7.getD o.B.toNat cz).Intact=false then (m,0,9) else ta m o.A (m.b7.getD o.B.toNat cz).Target 0)
 else if o.Kind=9 then (if J8 m o.B=0 then (m,0,2) else match (m.Pairs.find? λp=>p.Key==J8 m o.B) with
  | none=>(m,0,9)
  | some p=>ta m o.A p.Val 0)
 else ta m o.A 0 0
def qA(m:a8)(o:k8):a8 × Int × Int:=if (T1 m o).2.2≠0 then (m,0,(T1 m o).2.2) else (eW (T1 m o).1,(T1 m o).2.1,0)
theorem Dn.gX{x z:Hp}{o:k8}{v:Int}(d:Dn x o z v):Sh.gX x o=(cy z,v,0):=by unfold Sh.gX;rw[d.mc];rfl
theorem Er.gX{x:Hp}{o:k8}{e:Int}(h:Er x o e):Sh.gX x o=(x,0,e):=by unfold Sh.gX;rw[h.2.1];rfl
section
variable{σ:Int->Int}{x:Hp}{m:a8}(hx:M0 x)(q:u7 σ x m)
include hx q
theorem u7.said(r:Int):J8 m r=σ (sd x r):=by
 unfold J8 sd;split;·exact q.gd.z.symm
 .rw[q.ro,zd,zD,zd];cases x.Roots[r.toNat]? with
  | none=>exact q.gd.z.symm
  | some v=>rfl
theorem u7.pX(r:Int):J8 m r=0↔sd x r=0:=by
 rw[q.said hx];exact q.gd.zero hx.sh.sr (RD hx.sh.sr q.gd (dM hx.sh r))
variable {h a b c:Int}
theorem u7.cP(hh:h=0\/h∈lv x.S):Sh.cP x h=σ h:=by
 rcases hh with e | hl
 .subst e;rw[JC hx.sh,q.gd.z]
 .exact (q.gd.lv hx.sh.sr hl).symm
theorem u7.Ei(hl:h∈lv x.S):m.Nodes.find? (λn=>n.Serial==σ h)=some (Sh.nd σ x.S (F9 h))/\(Sh.nd σ x.S (F9 h)).Fields=(ob x.S h).Fields.map σ:=by
 have p:=r8 hx.sh.sr hl;refine⟨q.find hx.sh.sr p.d,?_⟩;rw[J2 hx.sh.sr p];rfl
structure kP (σ:Int->Int) (x:Hp) (m:a8) (o:k8):Prop where
 r:(∃e,e≠0/\T1 m o=(m,0,e)/\Sh.gX x o=(x,0,e))\/∃σ' z mz v,T1 m o=(mz,v,0)/\M0 z/\SL z/\u7 σ' z mz/\Sh.gX x o=(cy z,v,0)/\mz.Progs=m.Progs/\mz.Roots.length=6
theorem Kt(s:Int):(cR m s).Progs=m.Progs:=by rw[X4]
theorem CK{o:k8}(hr:M0 (K1 x a.toNat h))(hs:SL (K1 x a.toNat h))(hh:h=0\/h∈lv x.S)(hp:T1 m o=(ab m a.toNat (σ h),σ h,0))(hd:Sh.gX x o=(cy (K1 x a.toNat h),Sh.cP x h,0)):kP σ x m o:=
 ⟨.inr ⟨σ,_,_,σ h,hp,hr,hs,q.K1 hx.sh hx.fair hh,by rw[hd,q.cP hx hh],by show (cR m (σ h)).Progs=_;exact Kt hx q _,by
  show (m.Roots.set a.toNat (σ h)).length=6;rw[zaq,q.ro,zf];exact hx.sh.r6⟩⟩
theorem jM{o:k8}{e:Int}(he:Er x o e)(hp:T1 m o=(m,0,e)):kP σ x m o:=⟨.inl ⟨e,he.1,hp,he.gX⟩⟩
theorem a2a(e:SL x)(hc:A5 2 a b c=0):kP σ x m ⟨2,a,b,c⟩:=by
 have d:=d2 hx e hc;refine CK hx q d.rt d.sl (dM hx.sh b) ?_ d.gX;show ta m a (J8 m b) 0=_;rw[q.said hx];rfl
theorem a2b(e:SL x)(hc:A5 3 a b c=0):kP σ x m ⟨3,a,b,c⟩:=by
 have d:=d3 hx e hc;refine CK hx q (h:=0) d.rt d.sl (.inl rfl) ?_ (by rw[JC hx.sh];exact d.gX);show ta m a 0 0=_;rw[q.gd.z];rfl
theorem a1g(i:SL x)(hz:zr x = [])(hc:A5 10 a b c=0):kP σ x m ⟨10,a,b,c⟩:=by
 have d:=d10 hx i hz hc;refine⟨.inr ⟨σ,x,m,_,rfl,hx,i,q,?_,rfl,?_⟩⟩
 .rw[d.gX];show (_,_,_)=(_,(if J8 m a=J8 m b then (1:Int) else 0),_);have:J8 m a=J8 m b↔sd x a=sd x b:=by
   rw[q.said hx,q.said hx];exact⟨λe=>q.gd.inz hx.sh.sr (RD hx.sh.sr q.gd (dM hx.sh a)) (RD hx.sh.sr q.gd (dM hx.sh b)) e,λe=>by rw[e]⟩
  by_cases f:sd x a=sd x b
  .rw[zb f,zb (this.2 f)]
  .rw[za f,za λe=>f (this.1 e)]
 .rw[q.ro,zf];exact hx.sh.r6
theorem a2e(f:SL x)(hc:A5 7 a b c=0):kP σ x m ⟨7,a,b,c⟩:=by
 obtain⟨h,d⟩:=d7 hx f hc;have hg:m.b7.getD b.toNat cz=wx σ x.b7[b.toNat]:=by
  rw[q.ce,zd,zD,zc h];rfl
 have hp:T1 m ⟨7,a,b,c⟩=if (wx σ x.b7[b.toNat]).Target=0\/(wx σ x.b7[b.toNat]).Intact=false then (m,0,9) else ta m a (wx σ x.b7[b.toNat]).Target 0:=by
  rw[<-hg];rfl
 rcases d with ⟨hi,er⟩ | ⟨hi,d⟩;·exact jM hx q er (by rw[hp,zb (.inr hi)])
 .have hl:=((hx.sh.cl _ h).2.2.2.2 hi).1;refine CK hx q d.rt d.sl (.inr hl) ?_ d.gX;have h0:σ x.b7[b.toNat].Target≠0:=by have:=q.gd.ps hx.sh.sr hl;omega
  rw[hp,za];·rfl
  .rintro (e | e);·exact h0 e
   .have:x.b7[b.toNat].Intact=false:=e;rw[hi] at this;cases this
theorem a2g(w:SL x){a b c:Int}(hc:A5 9 a b c=0):kP σ x m ⟨9,a,b,c⟩:=by
 have i:=hx.sh.sr;have r:J8 m b=0->T1 m ⟨9,a,b,c⟩=(m,0,2):=λe=>by
  show (if J8 m b=0 then (m,0,2) else _)=_;rw[zb e]
 have f:J8 m b≠0->T1 m ⟨9,a,b,c⟩=match (m.Pairs.find? λp=>p.Key==J8 m b) with
  | none=>(m,0,9)
  | some p=>ta m a p.Val 0:=λe=>by
  show (if J8 m b=0 then (m,0,2) else _)=_;rw[za e]
 rcases d9 hx w hc with ⟨e,er⟩ | ⟨hl,j,er⟩ | ⟨hl,v,hv,d⟩;·exact jM hx q er (r ((q.pX hx b).2 e))
 .have h0:J8 m b≠0:=λe=>gq i ((q.pX hx b).1 e▸hl);refine jM hx q er ?_;rw[f h0];have:(m.Pairs.find? λp=>p.Key==J8 m b)=none:=by
   rw[zb5];intro p hp e;obtain⟨k,v,hh,rfl⟩:=(q.p2 p).1 hp;have e:σ k=J8 m b:=Ω e
   rw[q.said hx] at e;have:=q.gd.inl i (hx.sh.pr k v hh).1 hl e;subst this;exact j v hh
  rw[this]
 .have h0:J8 m b≠0:=λe=>gq i ((q.pX hx b).1 e▸hl);have t:=(hx.sh.pr _ _ hv).2;refine CK hx q d.rt d.sl (.inr t) ?_ d.gX;rw[f h0];cases hf:(m.Pairs.find? λp=>p.Key==J8 m b) with
  | none=>
   rw[zb5] at hf;have:=hf ⟨σ (sd x b),σ v⟩ ((q.p2 _).2 ⟨_,_,hv,rfl⟩);exact absurd (by rw[q.said hx];simp) this
  | some p=>
   obtain⟨k,u,hh,rfl⟩:=(q.p2 p).1 (List.mem_of_find?_eq_some hf);have e:σ k=J8 m b:=by have:=List.find?_some hf;simpa using this
   rw[q.said hx] at e;have:=q.gd.inl i (hx.sh.pr k u hh).1 hl e;subst this;rw[Has.fn hx.sh.hr hh hv];rfl
theorem a2c(t:SL x){a b c:Int}(hc:A5 4 a b c=0):kP σ x m ⟨4,a,b,c⟩:=by
 have j:=hx.sh.sr;have u:J8 m b=0->T1 m ⟨4,a,b,c⟩=(m,0,2):=λe=>by
  show (if J8 m b=0 then (m,0,2) else _)=_;rw[zb e]
 have k:sd x b∈lv x.S->T1 m ⟨4,a,b,c⟩=if ¬(0<=c/\c<(ob x.S (sd x b)).Fields.length) then (m,0,5) else ta m a (((ob x.S (sd x b)).Fields.map σ).getD c.toNat 0) 0:=λhl=>by
  have h0:J8 m b≠0:=λe=>gq j ((q.pX hx b).1 e▸hl);obtain⟨hf,hfl⟩:=q.Ei hx hl;show (if J8 m b=0 then (m,0,2) else match m.Nodes.find? (λn=>n.Serial==J8 m b) with
   | none=>(m,0,2)
   | some n=>if ¬(0<=c/\c<n.Fields.length) then (m,0,5) else ta m a (n.Fields.getD c.toNat 0) 0)=_
  rw[za h0,q.said hx,hf];dsimp only;rw[hfl,zf]
 rcases dM hx.sh b with p | hl
 .have r:Er x ⟨4,a,b,c⟩ 2:=by
   rcases d4 hx t hc with ⟨_,er⟩ | ⟨e,hf,er⟩ | ⟨hl,_⟩;·exact er
   .rw[p] at hf;have:e=2:=by
     unfold N2 at hf;have hg:A9 x.S 0=some (z0,2):=by
      have:=BR (s:=x.S.S) (h:=0) Θ (λi hi=>by
       have:=((uc j).1 hi).PD j;omega)
      unfold A9;rw[this];rfl
     rw[hg] at hf;have:=zK hf;exact (zY Prod.snd this).symm
    rw[<-this];exact er
   .rw[p] at hl;exact absurd hl (gq j)
  exact jM hx q r (u ((q.pX hx b).2 p))
 .by_cases f:0<=c/\c<(ob x.S (sd x b)).Fields.length
  .have hp:=k hl;rw[za (λd=>d f)] at hp;rcases d4 hx t hc with ⟨e,_⟩ | ⟨e,hf,er⟩ | ⟨_,n,rfl,hn,d⟩;·exact absurd (e▸hl) (gq j)
   .exfalso;obtain⟨n,rfl⟩:∃n:Nat,c=n:=⟨c.toNat,Δ⟩;rw[Ir j hl Δ] at hf;exact er.1 (zY Prod.snd (zK hf)).symm
   .refine CK hx q d.rt d.sl (hx.sh.fl _ hl _ (zl hn)) ?_ d.gX;rw[hp,zN,zd,zD,zc hn];rfl
  .refine jM hx q (e:=5) ?_ (by rw[k hl,zb f]);rcases d4 hx t hc with ⟨e,_⟩ | ⟨e,hf,er⟩ | ⟨_,n,rfl,hn,d⟩;·exact absurd (e▸hl) (gq j)
   .have:e=5:=by
     unfold N2 at hf;rw[BZ (D5.2 j) hl,a2D,za Ψ,(Mn f).1] at hf;exact (zY Prod.snd (zK hf)).symm
    rw[<-this];exact er
   .exact absurd ⟨Δ,Δ⟩ f
end
section
variable{σ:Int->Int}{x:Hp}{m:a8}(hx:M0 x)(q:u7 σ x m)
include hx q
theorem u7.r6:m.Roots.length=6:=by rw[q.ro,zf];exact hx.sh.r6
theorem a2d(r:SL x){a b c:Int}(hc:A5 5 a b c=0):kP σ x m ⟨5,a,b,c⟩:=by
 have f:=hx.sh.sr;have y:J8 m a=0->T1 m ⟨5,a,b,c⟩=(m,0,2):=λe=>by
  show (if J8 m a=0 then (m,0,2) else _)=_;rw[zb e]
 have t:sd x a∈lv x.S->T1 m ⟨5,a,b,c⟩=if ¬(0<=b/\b<(ob x.S (sd x a)).Fields.length) then (m,0,5) else (yj (cR m (σ (sd x c))) (cQ (cR m (σ (sd x c))).Nodes (σ (sd x a)) λj=>Xj j (((ob x.S (sd x a)).Fields.map σ).set b.toNat (σ (sd x c)))),σ (sd x c),0):=λhl=>by
  have h0:J8 m a≠0:=λe=>gq f ((q.pX hx a).1 e▸hl);obtain⟨hf,hfl⟩:=q.Ei hx hl;show (if J8 m a=0 then (m,0,2) else ua m (J8 m a) b (J8 m c))=_;rw[za h0,q.said hx,q.said hx];unfold ua;rw[hf];dsimp only;rw[hfl,zf]
 rcases dM hx.sh a with u | hl
 .have v:Er x ⟨5,a,b,c⟩ 2:=by
   rcases d5 hx r hc with ⟨_,er⟩ | ⟨e,hf,er⟩ | ⟨hl,_⟩;·exact er
   .rw[u] at hf;have:e=2:=by
     unfold bq N2 at hf;have hg:A9 x.S 0=some (z0,2):=by
      have:=BR (s:=x.S.S) (h:=0) Θ (λi hi=>by
       have:=((uc f).1 hi).PD f;omega)
      unfold A9;rw[this];rfl
     rw[hg] at hf;have:=zK hf;exact (zY Prod.snd this).symm
    rw[<-this];exact er
   .rw[u] at hl;exact absurd hl (gq f)
  exact jM hx q v (y ((q.pX hx a).2 u))
 .by_cases p:0<=b/\b<(ob x.S (sd x a)).Fields.length
  .have hp:=t hl;rw[za (λd=>d p)] at hp;have hv:=dM hx.sh c;rcases BD hx r (sd x a) b (sd x c) (lF hx.sh a) (lF hx.sh c) with ⟨e,he,f1,_⟩ | ⟨_,_,n,rfl,hn,z,_⟩
   .exfalso;obtain⟨n,rfl⟩:∃n:Nat,b=n:=⟨b.toNat,Δ⟩;unfold bq at f1;rw[Ir f hl Δ,a2D,za Ψ,U8 f (lF hx.sh c),a2D,zG hv,za Ψ] at f1;cases g:J4 x (ob x.S (sd x a)).Fields[n] (sd x c) (⟨sd x a,n,sd x c⟩:K6) with
    | none=>rw[g] at f1;cases f1
    | some w=>
     rw[g] at f1;exact he (zY Prod.snd (zK f1)).symm
   .rcases d5 hx r hc with ⟨e,_⟩ | ⟨e,hf,er⟩ | ⟨_,k,hk,A,d⟩;·exact absurd (e▸hl) (gq f)
    .exfalso;rcases BD hx r (sd x a) n (sd x c) (lF hx.sh a) (lF hx.sh c) with ⟨e,he,f1,_⟩ | ⟨_,_,E,h',C,f1,_⟩
     .rw[z] at f1;exact he (zY Prod.snd (zK f1)).symm
     .rw[hf] at f1;exact er.1 (zY Prod.snd (zK f1))
    .have:k=n:=by omega
     subst this;refine⟨.inr ⟨σ,_,_,_,hp,d.rt,d.sl,?_,?_,?_,?_⟩⟩
     .rw[zN];exact q.cW hx.sh hx.fair hl hv
     .rw[d.gX,q.cP hx hv]
     .show (cR m _).Progs=_;exact Kt hx q _
     .show (cR m (σ (sd x c))).Roots.length=_;rw[X4];exact (q.r6 hx:m.Roots.length=6)
  .refine jM hx q (e:=5) ?_ (by rw[t hl,zb p]);rcases d5 hx r hc with ⟨e,_⟩ | ⟨e,hf,er⟩ | ⟨_,n,rfl,hn,d⟩;·exact absurd (e▸hl) (gq f)
   .obtain rfl:e=5:=by
     unfold bq N2 at hf;rw[BZ (D5.2 f) hl,a2D,za Ψ,(Mn p).1] at hf;exact (zY Prod.snd (zK hf)).symm
    exact er
   .exact absurd ⟨Δ,Δ⟩ p
theorem u7.a2m(k:Int):Sh.uM ⟨m.Tasks,30⟩ k=Sh.uM x.Q k:=by
 rw[zbh,kz,kz];have hk:∀t:k7,(tx σ t).Kind=t.Kind/\(t.Kind=2->(tx σ t).At=t.At):=λt=>by
  unfold tx;split;·rename_i h;exact⟨h.symm,λe=>Δ⟩
  .exact⟨rfl,λ_=>rfl⟩
 constructor
 .rintro⟨u,hu,k1,k2⟩;have hu:u∈x.Q.L.map (tx σ):=by rw[<-q.tk];exact hu
  obtain⟨t,ht,rfl⟩:=zn.1 hu;have:=(hk t).1;exact⟨t,ht,Δ,by rw[<-(hk t).2 Δ];exact k2⟩
 .rintro⟨t,ht,k1,k2⟩;refine⟨tx σ t,?_,by rw[(hk t).1];exact k1,by rw[(hk t).2 k1];exact k2⟩;show _∈m.Tasks;rw[q.tk];exact zcf ht
theorem JU(w:Nat)(s call:Int):(JZ m w s call).Progs=m.Progs/\(JZ m w s call).Roots=m.Roots:=by
 unfold JZ pH;split;·exact⟨rfl,rfl⟩
 .split <;> exact⟨rfl,rfl⟩
theorem pre6(A:SL x){a b c:Int}(hc:A5 6 a b c=0):kP σ x m ⟨6,a,b,c⟩:=by
 have G:=hx.sh.sr;obtain⟨ha,hb,f⟩:=QB hc;have hp:T1 m ⟨6,a,b,c⟩=if 0<=b/\J8 m b=0 then (m,0,2) else if Sh.uM ⟨m.Tasks,30⟩ a=true then (m,0,7) else (JZ m a.toNat (J8 m b) c,J8 m b,0):=rfl
 rw[q.a2m hx,q.said hx] at hp;have hl:=dM hx.sh b;have hz:σ (sd x b)=0↔sd x b=0:=by rw[<-q.said hx];exact q.pX hx b
 by_cases h0:0<=b/\sd x b=0
 .have j:Er x ⟨6,a,b,c⟩ 2:=by
   have hm:z7 x ⟨6,a,b,c⟩=_:=Yk hc;unfold P2 at hm;rw[za Ξ,kI hx.sh,a2D] at hm;have has:Dt x b=(0,2):=by unfold Dt;rw[zb h0.2]
   rw[has,zb Ψ] at hm;refine⟨Θ,?_,?_⟩
   .rw[hm,a2D];exact lY (e:=2) Θ
   .trivial
  exact jM hx q j (by rw[hp,zb ⟨h0.1,hz.2 h0.2⟩])
 .rw[za (λd=>h0 ⟨d.1,hz.1 d.2⟩)] at hp;have key:(∃e,W7 x a (sd x b) c=some (x,e)/\Er x ⟨6,a,b,c⟩ e)\/(uM x.Q a=false/\Dn x ⟨6,a,b,c⟩ (dO x a.toNat (sd x b) c) (cP x (sd x b))):=by
   rcases d6 hx A hc with ⟨e,er⟩ | k | k
   .exfalso;have t:b = -1:=by omega
    subst t;have hm:z7 x ⟨6,a,-1,c⟩=_:=Yk hc;rw[er.2.1] at hm;unfold P2 at hm;rw[zb (by rfl)] at hm;rcases HG hx a 0 c Δ f with ⟨E,i,f1,_⟩ | ⟨_,n,rfl,hn,hw,f1,_⟩
    .rw[f1,a2D,a2D,lY i] at hm;have:=JS hx ha (.inl rfl) Δ f f1 i;have:=zY (λp=>p.2.2) (zK hm);dsimp only at this;omega
    .rw[f1,a2D,a2D] at hm;have:=Xd (a:=(n:Int)) (b:=-1) (c:=c) (z:=dO x n 0 c) (yU hx hn (.inl rfl) f hw) (JR hx A hn _ _) (k:=6) (r:=-1) (x:=x) (.inr ⟨.inl rfl,rfl⟩);dsimp only at hm;rw[this] at hm;have:=zY (λp=>p.2.2) (zK hm);exact absurd (show (2:Int)=0 from this) Θ
   .exact .inl k
   .exact .inr k
  rcases key with ⟨e,hf,er⟩ | ⟨hw,d⟩
  .obtain rfl:=JS hx ha hl (lF hx.sh b) f hf er.1;refine jM hx q er ?_;rcases HG hx a (sd x b) c (lF hx.sh b) f with ⟨E,i,f1,_⟩ | ⟨_,n,rfl,hn,hw,f1,_⟩
   .rw[hp,zb];unfold W7 at hf;obtain⟨n,rfl⟩:∃n:Nat,a=n:=⟨a.toNat,Δ⟩;have c6:=hx.sh.c6;have q30:=hx.sh.q30;have F:((decide ((n:Int)<0))||(decide ((n:Int)>=(x.b7.length:Int))))=false:=by rw[c6];simp;omega
    rw[F] at hf;simp only[zZ,W4,zbj] at hf;have u:bG x.Q n=some (uM x.Q n):=AS Δ;rw[u,a2D,U8 G (lF hx.sh b),a2D,zG hl] at hf;cases hw:uM x.Q n
    .exfalso;rw[hw,za Θ,za Θ] at hf;cases v:lJ x.b7 n (sd x b) c with
     | none=>rw[v] at hf;cases hf
     | some a=>
      rw[v,a2D] at hf;cases w:aZ ⟨x.S,x.Roots,a.1,x.T,x.Q⟩ (sd x b) 1 with
      | none=>rw[w] at hf;cases hf
      | some C=>
       rw[w,a2D] at hf;cases y:bU C a.2.1 with
       | none=>rw[y] at hf;cases hf
       | some d=>
        rw[y,a2D] at hf;exact absurd (zY (λp=>p.2) (zK hf)) Ψ
    .rfl
   .rw[hf] at f1;exact absurd (zY Prod.snd (zK f1)) Ψ
  .rw[hw,za Ψ] at hp;refine⟨.inr ⟨σ,_,_,_,hp,d.rt,d.sl,q.dO hx Δ hl,by rw[d.gX,q.cP hx hl],?_,?_⟩⟩;·exact (JU hx q ..).1
   .rw[(JU hx q ..).2];exact q.r6 hx
end
section
variable{σ:Int->Int}{x:Hp}{m:a8}(hx:M0 x)(q:u7 σ x m)
include hx q
theorem u7.prl{k:Int}(hk:k∈lv x.S):(m.Pairs.filter λp=>p.Key != σ k).length=(x.T.filter λp=>p.State==1&&p.Key != k).length:=by
 have t:=hx.sh.sr;rw[((q.perm hx.sh).filter _).length_eq,yA,za5,zco,zf,zat];congr 1;refine zaf λp hp=>?_;show ((σ p.Key != σ k)&&(p.State==1))=_;by_cases f:p.State=1
 .obtain⟨i,hi,rfl⟩:=u8 hp;have hh:Has x.T x.T[i].Key x.T[i].Val:=⟨i,⟨hi,by rw[nC hi];exact f,by rw[nC hi]⟩,by rw[nC hi]⟩;have hl:=(hx.sh.pr _ _ hh).1;by_cases c:x.T[i].Key=k
  .rw[c];simp
  .have:σ x.T[i].Key≠σ k:=λe=>c (q.gd.inl t hl hk e);have j:(σ x.T[i].Key != σ k)=true:=zcs.2 this;have r:(x.T[i].Key != k)=true:=zcs.2 c;rw[j,r,zax,Bool.and_true]
 .have:(p.State==1)=false:=beq_eq_false_iff_ne.2 f;rw[this,Bool.and_false,Bool.false_and]
theorem u7.full{k:Int}(hk:k∈lv x.S):m.Places<=((m.Pairs.filter λp=>p.Key != σ k).length:Int)↔(∀i,¬Fk x.T k i)/\∀i,i<x.T.length->(pt x.T i).State=1:=by
 rw[q.prl hx hk,q.npl];have t:=zo (λp:g8=>p.State==1&&p.Key != k) x.T;constructor
 .intro h;have e:(x.T.filter λp=>p.State==1&&p.Key != k).length=x.T.length:=by omega
  rw[List.length_filter_eq_length_iff] at e;have f:∀i,i<x.T.length->(pt x.T i).State=1/\(pt x.T i).Key≠k:=λi hi=>by
   rw[nC hi];simpa using e _ (zl hi)
  exact⟨λi hi=>(f i hi.1).2 hi.2.2,λi hi=>(f i hi).1⟩
 .rintro⟨j,r⟩;have e:(x.T.filter λp=>p.State==1&&p.Key != k).length=x.T.length:=by
   rw[List.length_filter_eq_length_iff];intro p hp;obtain⟨i,hi,rfl⟩:=u8 hp;have a:=r i hi;have b:(pt x.T i).Key≠k:=λe=>j i ⟨hi,a,e⟩;rw[nC hi] at a b;simp[a,b]
  omega
theorem Pa(s v:Int)(h:¬(v≠0/\m.Places<=((m.Pairs.filter λp=>p.Key != s).length:Int))):qW m s v=(WT (cR m v) ((m.Pairs.filter λp=>p.Key != s)++if v=0 then [] else [⟨s,v⟩]),v,0):=by
 unfold qW;rw[za h]
theorem a2f(v:SL x){a b c:Int}(hc:A5 8 a b c=0):kP σ x m ⟨8,a,b,c⟩:=by
 have u:=hx.sh.sr;have hl:=dM hx.sh b;have hz:σ (sd x b)=0↔sd x b=0:=by rw[<-q.said hx];exact q.pX hx b
 have F:J8 m a=0->T1 m ⟨8,a,b,c⟩=(m,0,2):=λe=>by
  show (if J8 m a=0 then (m,0,2) else _)=_;rw[zb e]
 have t:sd x a∈lv x.S->T1 m ⟨8,a,b,c⟩=qW m (σ (sd x a)) (σ (sd x b)):=λha=>by
  have h0:J8 m a≠0:=λe=>gq u ((q.pX hx a).1 e▸ha);show (if J8 m a=0 then (m,0,2) else qW m (J8 m a) (J8 m b))=_;rw[za h0,q.said hx,q.said hx]
 rcases d8 hx v hc with ⟨e,er⟩ | ⟨hk,e,hf,er⟩ | ⟨hk,r,hr,G,d⟩;·exact jM hx q er (F ((q.pX hx a).2 e))
 .obtain rfl:=Sw hx v hk hl hf er.1;refine jM hx q er ?_;rw[t hk];unfold qW;rw[zb];have K:sd x a≠0:=λe=>gq u (e▸hk);unfold dy at hf;rw[za (Ω K),U8 u (vJ hx v (.inr hk)),a2D,U8 u (vJ hx v hl),zG (.inr hk),zG hl] at hf;simp only[za2,zZ,W4,a2D,zcb,zM,pu] at hf;obtain⟨r,y,_,_,H⟩:=fB hx.sh.hr (sd x a) (sd x b);rw[y,a2D] at hf;have k:r.2.2≠0:=λh0=>by
   rw[za (Ω h0)] at hf;cases g:G7 x r.2.1 (sd x b) ⟨r.1⟩ with
   | none=>rw[g] at hf;cases hf
   | some w=>
    rw[g,a2D] at hf;exact absurd (zY (λp=>p.2) (zK hf)) Ψ
  rcases H with ⟨e,rfl⟩ | ⟨_,_,⟨i,hi,rfl⟩ | ⟨_,rfl⟩⟩ | ⟨_,hv,⟨i,hi,rfl⟩ | ⟨d,_,_,_,_,rfl⟩ | ⟨z,A,rfl⟩⟩;·exact absurd e K
  .exact absurd rfl k
  .exact absurd rfl k
  .exact absurd rfl k
  .exact absurd rfl k
  .exact⟨λe=>hv (hz.1 e),(q.full hx hk).2 ⟨z,A⟩⟩
 .have E:¬(σ (sd x b)≠0/\m.Places<=((m.Pairs.filter λp=>p.Key != σ (sd x a)).length:Int)):=by
   rintro⟨hv,hf⟩;obtain⟨z,A⟩:=(q.full hx hk).1 hf;have hv:sd x b≠0:=λe=>hv (hz.2 e);obtain⟨r',y,_,_,H⟩:=fB hx.sh.hr (sd x a) (sd x b);rw[hr] at y;obtain rfl:=zK y;rcases H with ⟨e,rfl⟩ | ⟨_,e,_⟩ | ⟨_,_,⟨i,hi,rfl⟩ | ⟨j,_,hd,hs,_,rfl⟩ | ⟨_,_,rfl⟩⟩;·exact absurd G Ψ
   .exact hv e
   .exact z i hi
   .exact hs (A j hd)
   .exact absurd G Ψ
  have hp:=t hk;rw[Pa hx q _ _ E] at hp;have S:=q.kc hx.sh hx.fair hk hl hr G;have C:(if sd x b=0 then ([]:List l5) else [⟨σ (sd x a),σ (sd x b)⟩])=if σ (sd x b)=0 then [] else [⟨σ (sd x a),σ (sd x b)⟩]:=by
   by_cases e:sd x b=0
   .rw[zb e,zb (hz.2 e)]
   .rw[za e,za λf=>e (hz.1 f)]
  rw[C] at S;refine⟨.inr ⟨σ,_,_,_,hp,d.rt,d.sl,S,by rw[d.gX,q.cP hx hl],?_,?_⟩⟩;·show (cR m _).Progs=_;exact Kt hx q _
  .show (cR m (σ (sd x b))).Roots.length=_;rw[X4];exact (q.r6 hx:m.Roots.length=6)
theorem u7.Pn{i:Nat}(hi:i<x.S.S.b7.length):Tl (Sh.ce x.S i)=0↔(Sh.ce x.S i).State=0:=by
 have e:=hx.sh.sr;have hc:=e.cell i hi;unfold Tl;split
 .rename_i t;have:=(e.ok i hi t).s1;unfold Th at t;omega
 .rename_i t;unfold Th at t;split;·omega
  .omega
theorem u7.ZS:m.Slots.length=x.S.S.b7.length:=by rw[q.sl];simp
theorem u7.slg{i:Nat}(hi:i<m.Slots.length):m.Slots[i]=Tl (Sh.ce x.S i):=by
 have:=q.sl;simp only[this,zx,List.getElem_range]
theorem u7.fst{i:Nat}(h:Fst x.S i):m.Slots.findIdx (· == 0)=i:=by
 obtain⟨f,k,p⟩:=h;have hi:i<m.Slots.length:=by rw[q.ZS hx];exact f
 rw[List.findIdx_eq hi];refine⟨?_,λj hj=>?_⟩;·rw[q.slg hx hi,zak];exact (q.Pn hx f).2 k
 .rw[q.slg hx Δ,beq_eq_false_iff_ne];exact λe=>p j hj ((q.Pn hx Δ).1 e)
theorem u7.RW(h:∀i,i<x.S.S.b7.length->(Sh.ce x.S i).State≠0):¬m.Slots.findIdx (· == 0)<m.Slots.length:=by
 rw[zck];rintro⟨v,hv,e⟩;obtain⟨i,hi,rfl⟩:=u8 hv;have f:i<x.S.S.b7.length:=by rw[<-q.ZS hx];exact hi
 rw[q.slg hx hi,zak] at e;exact h i f ((q.Pn hx f).1 e)
theorem a19(u:SL x)(hb:x.S.Serial<9223372036854775807){a b c:Int}(hc:A5 1 a b c=0):kP σ x m ⟨1,a,b,c⟩:=by
 have k:=hx.sh.sr;obtain⟨ha,j,f⟩:=UT hc;have hp:T1 m ⟨1,a,b,c⟩=if m.Slots.findIdx (· == 0)<m.Slots.length then (ab (DI m (m.Slots.findIdx (· == 0)) b.toNat c) a.toNat (m.Serial+1),m.Serial+1,0) else (m,0,4):=rfl
 rcases d1 hx u hb hc with ⟨e,hf,er⟩ | ⟨hn,_,i,hF,d⟩
 .rcases MW k hb b c with ⟨h,_⟩ | ⟨_,h,_⟩ | ⟨_,_,h,g⟩ | ⟨_,_,i,_,g⟩;·exact absurd j h
  .exact absurd f h
  .rw[hf] at g;obtain rfl:e=4:=zY (λp=>p.2.2) (zK g);exact jM hx q er (by rw[hp,za (q.RW hx h)])
  .rw[hf] at g;exact absurd (zY (λp=>p.2.2) (zK g)) er.1
 .obtain⟨hi,h0,_⟩:=id hF;obtain⟨σ',S,t⟩:=q.mk' hx hi h0 hn f;have hy:=vN hx hi h0 hn f;have hh:cY x.S i=0\/cY x.S i∈lv (wS x (eh x.S i b.toNat c)).S:=.inr (by
   show _∈lv (eh x.S i b.toNat c);rw[Ch k hi h0 hn f];exact t6 _ (zu.2 rfl))
  have S2:=S.K1 (r:=a.toNat) hy.sh hy.fair hh;rw[t] at S2;rw[q.fst hx hF,zb (by rw[q.ZS hx];exact hi),q.se] at hp;refine⟨.inr ⟨σ',_,_,_,hp,d.rt,d.sl,S2,d.gX,?_,?_⟩⟩
  .show (cR (DI m i b.toNat c) (x.S.Serial+1)).Progs=_;rw[X4];rfl
  .show ((DI m i b.toNat c).Roots.set a.toNat _).length=6;rw[zaq];exact (q.r6 hx:m.Roots.length=6)
theorem sj(e:SL x)(hz:zr x = [])(hb:x.S.Serial<9223372036854775807){o:k8}(hc:A5 o.Kind o.A o.B o.C=0)(hk:o.Kind<=10):kP σ x m o:=by
 obtain⟨k,a,b,c⟩:=o;dsimp only at hc hk;have:=sb hc;have hk:k=1\/k=2\/k=3\/k=4\/k=5\/k=6\/k=7\/k=8\/k=9\/k=10:=Δ
 rcases hk with rfl | rfl | rfl | rfl | rfl | rfl | rfl | rfl | rfl | rfl
 .exact a19 hx q e hb hc
 .exact a2a hx q e hc
 .exact a2b hx q e hc
 .exact a2c hx q e hc
 .exact a2d hx q e hc
 .exact pre6 hx q e hc
 .exact a2e hx q e hc
 .exact a2f hx q e hc
 .exact a2g hx q e hc
 .exact a1g hx q e hz hc
end
theorem YH{l:List Int}(hl:l.length<=1000):K3 l 0=some (if l.findIdx (· == 0)<l.length then (l.findIdx (· == 0):Int) else -1):=by
 unfold K3;simp only[jn];refine Y6 l.length (λi=>i<=l.findIdx (· == 0)) Δ (zU _) (λi hi j=>?_) (λk=>⟨.inr (),Ψ,by rw[za Δ]⟩);rw[zb (Ω hi),u4 hi,a2D];rcases zI i (l.findIdx (· == 0)) with c | c
 .left;have:=List.not_of_lt_findIdx c;have h0:l[i]≠0:=by simpa using this
  rw[za (by simpa using λe=>h0 e.symm),p8 Δ];exact⟨rfl,c⟩
 .have e:i=l.findIdx (· == 0):=by omega
  right;have f:l.findIdx (· == 0)<l.length:=Δ
  have:(l[l.findIdx (· == 0)]==0)=true:=zce (w:=f) (p:=(· == 0));have h0:l[i]=0:=by simp only[e];simpa using this
  rw[zb (by rw[h0];rfl),zb f,e];exact⟨_,rfl,rfl⟩
theorem WU{l:List Int}(hl:l.length<=1000)(k v:Int):nX l k v=some (if 0<=k/\k<l.length then (l.set k.toNat v,0) else (l,5)):=by
 unfold nX jc;rw[a2D];by_cases c:0<=k/\k<l.length
 .obtain⟨n,rfl⟩:∃n:Nat,k=n:=⟨k.toNat,Δ⟩;have hn:n<l.length:=by omega
  rw[za Ξ,ka Δ Δ,a2D];have e:AE (List.replicate l.length (0:Int)) l=some l:=by
   unfold AE;rw[zb Ψ];simp
  rw[e,a2D,u4 hn,a2D,zb c]
 .rw[za c,zb Ξ]
theorem Qt(l:List Int)(k:Int):iK l k=some (if 0<=k/\k<l.length then (l.getD k.toNat 0,0) else (0,5)):=by
 by_cases c:0<=k/\k<l.length
 .obtain⟨n,rfl⟩:∃n:Nat,k=n:=⟨k.toNat,Δ⟩;have hn:n<l.length:=by omega
  unfold iK jc;rw[a2D,za Ξ,u4 hn,a2D,zb c,zN,zd,zc hn];rfl
 .rw[(Mn c).1,za c]
theorem MR{l:List l4}{n:Nat}(hn:n<l.length):ca l n=some (if l[n].Target=0\/l[n].Intact=false then (0,9) else (l[n].Target,0)):=by
 unfold ca lK;have:(decide ((n:Int)>=0)&&decide ((n:Int)<(l.length:Int)))=true:=by simp;omega
 rw[this,a2D,za Ψ,u4 hn,a2D];by_cases q:l[n].Target=0\/l[n].Intact=false
 .rw[zb q,zb (by rcases q with q | q <;> simp[q])]
 .rw[za q,za (Ω q)]
section
variable{σ:Int->Int}{x:Hp}{m:a8}(hx:M0 x)(q:u7 σ x m)
include hx q
theorem u7.Xr{h:Int}(hh:h=0\/h∈lv x.S):σ h=0\/∃n,m.Nodes.find? (λn=>n.Serial==σ h)=some n:=by
 rcases hh with e | hl
 .left;rw[e];exact q.gd.z
 .exact .inr ⟨_,(q.Ei hx hl).1⟩
theorem IV{a:Int}(ha:0<=a/\a<=5){h:Int}(hh:h=0\/h∈lv x.S):bx m a (σ h)=some (eW (ab m a.toNat (σ h)),⟨σ h,0⟩):=by
 obtain⟨r,rfl⟩:∃r:Nat,a=r:=⟨a.toNat,Δ⟩;have S:=q.K1 (r:=r) hx.sh hx.fair hh;have hz:=bc hx (r:=r) Δ hh;have S2:=S.cy hz;have r6:=q.r6 hx;unfold bx;rw[Cd (q.bn hx.sh.sr) (q.bl hx.sh) (q.Xr hx hh) Δ,a2D,nn hz S,a2D,zN];have e:(eW (ab m r (σ h))).Roots=m.Roots.set r (σ h):=by
  rw[S2.ro,(nR hz).rt,<-S.ro];rfl
 have hl:r<(eW (ab m r (σ h))).Roots.length:=by rw[e,zaq];omega
 rw[u4 hl,a2D];have:(eW (ab m r (σ h))).Roots[r]=σ h:=by simp only[e,List.getElem_set_self]
 rw[this]
theorem xC{r:Int}(hr:r<=5):X7 m r=some (J8 m r):=by
 have r6:=q.r6 hx;unfold X7 J8;by_cases c:r<0
 .rw[zb (Ω c),zb c]
 .obtain⟨n,rfl⟩:∃n:Nat,r=n:=⟨r.toNat,Δ⟩;have hn:n<m.Roots.length:=by omega
  rw[za Ψ,za c,u4 hn,a2D,zN,zd,zc hn];rfl
theorem oU{r:Int}(h0:0<=r)(hr:r<=5):ix m.Roots r=some (J8 m r):=by
 have:=xC hx q hr;unfold X7 at this;rw[za Ξ] at this;cases g:ix m.Roots r with
 | none=>rw[g] at this;cases this
 | some v=>rw[g] at this;exact this
theorem lg{r:Int}(hr:r<=5):(J8 m r=0/\∃z,L9 m r=some (z,2))\/(J8 m r≠0/\sd x r∈lv x.S/\∃n,m.Nodes.find? (λn=>n.Serial==J8 m r)=some n/\n.Serial=J8 m r/\n.Fields=(ob x.S (sd x r)).Fields.map σ/\L9 m r=some (n,0)):=by
 unfold L9;rw[xC hx q hr,a2D];by_cases c:J8 m r=0
 .rw[zb (Ω c)];exact .inl ⟨c,_,rfl⟩
 .rw[za (Ω c)];have hl:=(dM hx.sh r).resolve_left λe=>c ((q.pX hx r).2 e);obtain⟨hf,hfl⟩:=q.Ei hx hl;rw[<-q.said hx] at hf;obtain⟨k,hk,f,i⟩:=Cb (q.bn hx.sh.sr) hf;rw[i,a2D,u4 hk,a2D,f];exact .inr ⟨c,hl,_,hf,(ga hf).1,hfl,rfl⟩
theorem MV{k a b c:Int}(hc:A5 k a b c=0)(hk:k=2\/k=3\/k=4\/k=7\/k=9):∃v e,db m ⟨k,a,b,c⟩=some (v,e) /\
  T1 m ⟨k,a,b,c⟩=(if e≠0 then (m,0,e) else (ab m a.toNat v,v,0))/\(e=0->∃h,(h=0\/h∈lv x.S)/\v=σ h):=by
 have r6:=q.r6 hx;rcases hk with rfl | rfl | rfl | rfl | rfl
 .obtain⟨ha,hb⟩:=On hc;refine⟨J8 m b,0,?_,rfl,λ_=>⟨_,dM hx.sh b,q.said hx b⟩⟩;show ((ix m.Roots b).bind λy=>some (y,(0:Int)))=_;rw[oU hx q Δ Δ];rfl
 .exact⟨0,0,rfl,rfl,λ_=>⟨0,.inl rfl,q.gd.z.symm⟩⟩
 .obtain⟨ha,hb,w⟩:=QA hc;have hp:T1 m ⟨4,a,b,c⟩=if J8 m b=0 then (m,0,2) else match m.Nodes.find? (λn=>n.Serial==J8 m b) with
   | none=>(m,0,2)
   | some n=>if ¬(0<=c/\c<n.Fields.length) then (m,0,5) else ta m a (n.Fields.getD c.toNat 0) 0:=rfl
  have hm:db m ⟨4,a,b,c⟩=(L9 m b).bind λv2=>if (v2.2 != 0) then some (0,v2.2) else (iK v2.1.Fields c).bind λv3=>some (v3.1,v3.2):=rfl
  rcases lg hx q (r:=b) Δ with ⟨h0,z,e⟩ | ⟨h0,hl,n,hn,hs,hf,e⟩
  .refine⟨0,2,?_,?_,λe=>absurd e Θ⟩;·rw[hm,e];rfl
   .rw[hp,zb h0];rfl
  .rw[za h0,hn] at hp;dsimp only at hp;rw[e,a2D,za Ψ,Qt,a2D] at hm;by_cases g:0<=c/\c<n.Fields.length
   .rw[za (λd=>d g)] at hp;rw[zb g] at hm;refine⟨n.Fields.getD c.toNat 0,0,hm,hp,λ_=>?_⟩;have hlen:c.toNat<(ob x.S (sd x b)).Fields.length:=by
     have:=g.2;rw[hf,zf] at this;omega
    refine⟨(ob x.S (sd x b)).Fields[c.toNat],hx.sh.fl _ hl _ (zl hlen),?_⟩;rw[hf,zd,zD,zc hlen];rfl
   .rw[zb g] at hp;rw[za g] at hm;exact⟨0,5,hm,hp,λe=>absurd e Θ⟩
 .obtain⟨ha,hb⟩:=QC hc;obtain⟨n,rfl⟩:∃n:Nat,b=n:=⟨b.toNat,Δ⟩;have c6:=hx.sh.c6;have f:n<x.b7.length:=by omega
  have hn:n<m.b7.length:=by rw[q.ce,zf];exact f
  have hg:m.b7.getD n cz=m.b7[n]:=by rw[zd,zc hn];rfl
  have hp:T1 m ⟨7,a,n,c⟩=if (m.b7.getD n cz).Target=0\/(m.b7.getD n cz).Intact=false then (m,0,9) else ta m a (m.b7.getD n cz).Target 0:=rfl
  have hm:db m ⟨7,a,n,c⟩=(ca m.b7 n).bind λt=>some (t.1,t.2):=rfl;rw[hg] at hp;rw[MR hn,a2D] at hm;by_cases g:m.b7[n].Target=0\/m.b7[n].Intact=false
  .rw[zb g] at hp hm;exact⟨0,9,hm,hp,λe=>absurd e Θ⟩
  .rw[za g] at hp hm;refine⟨_,0,hm,hp,λ_=>⟨x.b7[n].Target,.inr (((hx.sh.cl n f).2.2.2.2 ?_).1),?_⟩⟩
   .have:m.b7[n].Intact=x.b7[n].Intact:=by simp only[q.ce,zx];rfl
    rw[<-this];cases hi:m.b7[n].Intact with
    | true=>rfl
    | false=>exact absurd (.inr hi) g
   .simp only[q.ce,zx];rfl
 .obtain⟨ha,hb⟩:=QD hc;have hp:T1 m ⟨9,a,b,c⟩=if J8 m b=0 then (m,0,2) else match (m.Pairs.find? λp=>p.Key==J8 m b) with
   | none=>(m,0,9)
   | some p=>ta m a p.Val 0:=rfl
  have hm:db m ⟨9,a,b,c⟩=(L9 m b).bind λj=>if (j.2 != 0) then some (0,j.2) else (O8 m j.1.Serial).bind λu=>if (decide ((u.length:Int) > 0)) then (ix u 0).bind λA=>some (A,0) else some (0,9):=rfl
  rcases lg hx q (r:=b) Δ with ⟨h0,z,e⟩ | ⟨h0,hl,n,hn,hs,hf,e⟩
  .refine⟨0,2,?_,?_,λe=>absurd e Θ⟩;·rw[hm,e];rfl
   .rw[hp,zb h0];rfl
  .rw[za h0,<-List.head?_filter] at hp;rw[e,a2D,za Ψ] at hm;dsimp only at hm;rw[Ce (q.bn hx.sh.sr) (q.bl hx.sh),a2D,hs] at hm;cases g:m.Pairs.filter λp=>p.Key==J8 m b with
   | nil=>
    rw[g] at hp hm;exact⟨0,9,hm,hp,λe=>absurd e Θ⟩
   | cons p l=>
    rw[g] at hp hm;have i:p∈m.Pairs:=(zj.1 (g▸zh:p∈m.Pairs.filter λp=>p.Key==J8 m b)).1;obtain⟨k,v,hh,rfl⟩:=(q.p2 p).1 i;refine⟨σ v,0,?_,hp,λ_=>⟨v,.inr (hx.sh.pr k v hh).2,rfl⟩⟩;rw[hm,zb Ψ];rfl
end
theorem yq{m:a8}{o:k8}{e:Int}(h:T1 m o=(m,0,e))(he:e≠0):qA m o=(m,0,e):=by
 unfold qA;rw[h,zb he]
theorem tp{m mz:a8}{o:k8}{v:Int}(h:T1 m o=(mz,v,0)):qA m o=(eW mz,v,0):=by
 unfold qA;rw[h,za Ψ]
section
variable{σ:Int->Int}{x:Hp}{m:a8}(hx:M0 x)(q:u7 σ x m)
include hx q
theorem u7.CQ(hz:Sh.zr x = []):eW m=m:=by
 have e:sZ m=m:=yf (by rw[q.zr hx,hz];rfl);have:∀n,af n m=m:=λn=>by
  induction n with
  | zero=>rfl
  | succ n ih=>rw[fM,ih,e]
 exact this 100
variable {o:k8}{a b c:Int}
theorem Gy(P:kP σ x m o){W:Option (a8 × Int)}{s:Int}
  (h:W=some ((T1 m o).1,(T1 m o).2.2))(hv:(T1 m o).2.2=0->(T1 m o).2.1=s) :
  (W.bind λf=>if (f.2 != 0) then some (m,(⟨0,f.2⟩:l6)) else (K7 f.1).bind λv2=>some (v2,(⟨s,0⟩:l6)))=some ((qA m o).1,⟨(qA m o).2.1,(qA m o).2.2⟩):=by
 rw[h,a2D];rcases P.r with ⟨e,he,hp,_⟩ | ⟨σ',z,mz,v,hp,hz,_,S,_,_,_⟩;·rw[yq hp he,hp,zb (Ω he)]
 .rw[hp] at hv;rw[tp hp,hp,za Ψ,nn hz S,a2D,<-hv rfl]
theorem RG{a b c:Int}(hc:A5 5 a b c=0):ko m (J8 m c) ⟨5,a,b,c⟩=some ((T1 m ⟨5,a,b,c⟩).1,(T1 m ⟨5,a,b,c⟩).2.2):=by
 obtain⟨ha,hb,t⟩:=UU hc;have hp:T1 m ⟨5,a,b,c⟩=if J8 m a=0 then (m,0,2) else ua m (J8 m a) b (J8 m c):=rfl
 have B:=q.bn hx.sh.sr;have C:=q.bl hx.sh;have hv:=q.Xr hx (dM hx.sh c);rw[<-q.said hx] at hv;unfold ko;dsimp only;rcases lg hx q (r:=a) Δ with ⟨h0,z,e⟩ | ⟨h0,hl,n,hn,hs,hf,e⟩;·rw[e,a2D,zb Ψ,hp,zb h0]
 .rw[e,a2D,za Ψ,hp,za h0];unfold ua;rw[hn];dsimp only;have hfl:=B.fl n (ga hn).2;rw[WU Δ,a2D];by_cases g:0<=b/\b<n.Fields.length
  .rw[zb g,za Ψ,za (λd=>d g),Gv B C hv,a2D];have f:∃i,(cR m (J8 m c)).Nodes.find? (λk=>k.Serial==n.Serial)=some i:=by
    rw[hs];unfold cR;split
    .cases hh:(uD m (J8 m c)).Nodes.find? (λk=>k.Serial==J8 m a) with
     | some i=>exact⟨i,rfl⟩
     | none=>
      exfalso;rw[zb5] at hh;have j:=(ga hn).2;have:(if n.Serial=J8 m c then uC n else n)∈(uD m (J8 m c)).Nodes:=by
       show _∈cQ m.Nodes (J8 m c) uC;exact zcf j
      have p:(if n.Serial=J8 m c then uC n else n).Serial=J8 m a:=by
       split;·exact hs
       .exact hs
      exact hh _ this (zak.2 p)
    .exact⟨n,hn⟩
   obtain⟨i,f⟩:=f;rw[YQ (B.cR _) f,a2D,hs]
  .rw[za g,zb Ψ,zb g]
theorem YS(hc:A5 6 a b c=0):gH m (J8 m b) ⟨6,a,b,c⟩=some ((T1 m ⟨6,a,b,c⟩).1,(T1 m ⟨6,a,b,c⟩).2.2):=by
 obtain⟨ha,hb,e⟩:=QB hc;have hp:T1 m ⟨6,a,b,c⟩=if 0<=b/\J8 m b=0 then (m,0,2) else if Sh.uM ⟨m.Tasks,30⟩ a=true then (m,0,7) else (JZ m a.toNat (J8 m b) c,J8 m b,0):=rfl
 have B:=q.bn hx.sh.sr;have C:=q.bl hx.sh;have tl:=C.tl;have wl:=C.wl;have c6:m.b7.length=6:=by rw[q.ce,zf,hx.sh.c6]
 obtain⟨n,rfl⟩:∃n:Nat,a=n:=⟨a.toNat,Δ⟩;have hn:n<m.b7.length:=Δ
 unfold gH;dsimp only;by_cases g:0<=b/\J8 m b=0
 .rw[zb (by simp[g.1,g.2]),hp,zb g]
 .rw[za (Ω g),hp,za g,Cf,a2D,show bG (⟨m.Tasks,30⟩:k9) (n:Int)=some (Sh.uM ⟨m.Tasks,30⟩ n) from AS (q:=⟨m.Tasks,30⟩) ΩU,a2D];cases hw:Sh.uM ⟨m.Tasks,30⟩ (n:Int)
  .rw[za Ψ,za Ψ,JT Δ hn,a2D,za Ψ];dsimp only;have hg:m.b7.getD n cz=m.b7[n]:=by rw[zd,zc hn];rfl
   rw[Cc (m:=PF m (m.b7.set n (fR (J8 m b) c))) ⟨B.nl,B.up,B.fl,B.sg,B.gg,B.gl⟩ ⟨C.rl,by show (m.b7.set n _).length<=30;rw[zaq];exact C.wl,C.pa,C.tl⟩,a2D,zN];unfold JZ;rw[hg]
  .rw[zb rfl,zb rfl]
theorem RF(hc:A5 8 a b c=0):km m (J8 m b) ⟨8,a,b,c⟩=some ((T1 m ⟨8,a,b,c⟩).1,(T1 m ⟨8,a,b,c⟩).2.2):=by
 obtain⟨ha,hb⟩:=UW hc;have hp:T1 m ⟨8,a,b,c⟩=if J8 m a=0 then (m,0,2) else qW m (J8 m a) (J8 m b):=rfl
 have B:=q.bn hx.sh.sr;have C:=q.bl hx.sh;have pa:=C.pa;have hv:=q.Xr hx (dM hx.sh b);rw[<-q.said hx] at hv;unfold km;dsimp only;rcases lg hx q (r:=a) Δ with ⟨h0,z,e⟩ | ⟨h0,hl,n,hn,hs,hf,e⟩;·rw[e,a2D,zb Ψ,hp,zb h0]
 .rw[e,a2D,za Ψ,hp,za h0];have f:F8 m.Pairs n=some (m.Pairs.filter λp=>p.Key != n.Serial):=by
   unfold F8;exact ml (P:=λp=>gF p n) (λp _=>rfl) Δ Δ Δ
  rw[f,a2D,hs];unfold qW;have hfl:=zo (λp:l5=>p.Key != J8 m a) m.Pairs;by_cases v0:J8 m b=0
  .rw[zb (Ω v0),za (λd=>d.1 v0),zb v0,za9];unfold cR;rw[za (λd=>d.1 v0)]
  .rw[za (Ω v0)];by_cases g:m.Places<=((m.Pairs.filter λp=>p.Key != J8 m a).length:Int)
   .rw[zb (Ω g),zb ⟨v0,g⟩]
   .rw[za (Ω g),za (λd=>g d.2),Gv B C hv,a2D,qe Δ (xd (m:=100) Δ Δ Δ),a2D,za v0]
theorem ON(v:SL x)(hb:x.S.Serial<9223372036854775807)(hc:A5 1 a b c=0):eG m ⟨1,a,b,c⟩=some ((qA m ⟨1,a,b,c⟩).1,⟨(qA m ⟨1,a,b,c⟩).2.1,(qA m ⟨1,a,b,c⟩).2.2⟩):=by
 obtain⟨ha,k,e⟩:=UT hc;have j:=hx.sh.sr;have B:=q.bn j;have hp:T1 m ⟨1,a,b,c⟩=if m.Slots.findIdx (· == 0)<m.Slots.length then (ab (DI m (m.Slots.findIdx (· == 0)) b.toNat c) a.toNat (m.Serial+1),m.Serial+1,0) else (m,0,4):=rfl
 obtain⟨n,rfl⟩:∃n:Nat,b=n:=⟨b.toNat,Δ⟩;have gl:=B.gl;have nl:=B.nl;unfold eG;have hv:sI (⟨1,a,(n:Int),c⟩:k8).B=some (List.replicate n 0,0):=by
  unfold sI;rw[za Ξ];show ((mk 8 (n:Int) (0:Int)).bind _)=_;rw[ka Δ Δ,a2D]
 rw[hv,a2D,za Ψ,YH Δ,a2D];rcases MW j hb n c with ⟨h,_⟩ | ⟨_,h,_⟩ | ⟨_,_,h,g⟩ | ⟨_,_,i,hF,g⟩;·exact absurd k h
 .exact absurd e h
 .have:=q.RW hx h;rw[za this] at hp |-;rw[zb Ψ,yq hp Θ]
 .obtain⟨hi,h0,_⟩:=id hF;have f:i<m.Slots.length:=by rw[q.ZS hx];exact hi
  have hn:n<=4:=Δ
  rw[q.fst hx hF,zb f] at hp |-;rw[zN] at hp;rw[tp hp,za Ψ];have u:=j.cP;have hw:y4 (m.Serial+1)=m.Serial+1:=by rw[q.se];exact Y8 Δ Δ
  have p:C2 m.Slots=some m.Slots:=L8 Δ (xd (m:=30) Δ Δ Δ);have r:w9 m.Nodes=some m.Nodes:=L8 Δ (xd (m:=30) Δ Δ Δ);rw[p,a2D,u4 f,a2D,r,a2D,hw,qe Δ (xd (m:=100) Δ Δ Δ),a2D,zN];obtain⟨σ',S,t⟩:=q.mk' hx hi h0 hn e;have hy:=vN hx hi h0 hn e;have hh:cY x.S i=0\/cY x.S i∈lv (wS x (eh x.S i n c)).S:=.inr (by
   show _∈lv (eh x.S i n c);rw[Ch j hi h0 hn e];exact t6 _ (zu.2 rfl))
  have T:=IV hy S ha hh;rw[t,<-q.se] at T;dsimp only;rw[show bx ⟨m.Nodes ++ [⟨m.Serial+1,i,c,false,true,false,List.replicate n 0⟩],m.Slots.set i (m.Serial+1),m.Gens,m.Last,m.Places,m.Serial+1,m.Roots,m.b7,m.Pairs,m.Tasks,m.Progs⟩ a (m.Serial+1)=_ from T,a2D]
theorem RE(r:SL x)(hz:zr x = [])(hb:x.S.Serial<9223372036854775807)(hc:A5 o.Kind o.A o.B o.C=0)(hk:o.Kind<=10):aq m o=some ((qA m o).1,⟨(qA m o).2.1,(qA m o).2.2⟩):=by
 have P:=sj hx q r hz hb hc hk;obtain⟨k,a,b,c⟩:=o;dsimp only at hc hk;have:=sb hc;have asks:(k=2\/k=3\/k=4\/k=7\/k=9)->(0<=a/\a<=5)->aq m ⟨k,a,b,c⟩=((db m ⟨k,a,b,c⟩).bind λi=>if (i.2 != 0) then some (m,(⟨0,i.2⟩:l6)) else (bx m a i.1).bind λj=>some (j.1,j.2))->aq m ⟨k,a,b,c⟩=some ((qA m ⟨k,a,b,c⟩).1,⟨(qA m ⟨k,a,b,c⟩).2.1,(qA m ⟨k,a,b,c⟩).2.2⟩):=λhk ha e=>by
  obtain⟨v,er,u,p,w⟩:=MV hx q hc hk;rw[e,u,a2D];by_cases g:er=0
  .obtain⟨h,hh,rfl⟩:=w g;rw[za (by simp[g])] at p |-;dsimp only;rw[IV hx q ha hh,a2D,tp p]
  .rw[zb g] at p;rw[zb (Ω g),yq p g]
 have hk:k=1\/k=2\/k=3\/k=4\/k=5\/k=6\/k=7\/k=8\/k=9\/k=10:=Δ
 rcases hk with rfl | rfl | rfl | rfl | rfl | rfl | rfl | rfl | rfl | rfl
 .show ((eG m ⟨1,a,b,c⟩).bind λt=>some (t.1,t.2))=_;rw[ON hx q r hb hc];rfl
 .exact asks Ψ (On hc).1 rfl
 .exact asks Ψ (Yg hc) rfl
 .exact asks Ψ (QA hc).1 rfl
 .show ((X7 m c).bind λv3=>(N5 m v3 ⟨5,a,b,c⟩).bind λf=>some (f.1,f.2))=_;rw[xC hx q (by have:=UU hc;omega),a2D];unfold N5;rw[Gy hx q P (RG hx q hc)];·rfl
  .show (if J8 m a=0 then (m,0,2) else ua m (J8 m a) b (J8 m c)).2.2=0->(if J8 m a=0 then (m,0,2) else ua m (J8 m a) b (J8 m c)).2.1=J8 m c;unfold ua;split;·exact λe=>absurd (show (2:Int)=0 from e) Θ
   .split;·exact λe=>absurd (show (2:Int)=0 from e) Θ
    .split;·exact λe=>absurd (show (5:Int)=0 from e) Θ
     .exact λ_=>rfl
 .show ((X7 m b).bind λv3=>(L3 m v3 ⟨6,a,b,c⟩).bind λf=>some (f.1,f.2))=_;rw[xC hx q (by have:=QB hc;omega),a2D];unfold L3;rw[Gy hx q P (YS hx q hc)];·rfl
  .show (if 0<=b/\J8 m b=0 then (m,0,2) else if Sh.uM ⟨m.Tasks,30⟩ a=true then (m,0,7) else (JZ m a.toNat (J8 m b) c,J8 m b,0)).2.2=0->(if 0<=b/\J8 m b=0 then (m,0,2) else if Sh.uM ⟨m.Tasks,30⟩ a=true then (m,0,7) else (JZ m a.toNat (J8 m b) c,J8 m b,0)).2.1=J8 m b;split;·exact λe=>absurd (show (2:Int)=0 from e) Θ
   .split;·exact λe=>absurd (show (7:Int)=0 from e) Θ
    .exact λ_=>rfl
 .exact asks Ψ (QC hc).1 rfl
 .show ((X7 m b).bind λv3=>(N4 m v3 ⟨8,a,b,c⟩).bind λf=>some (f.1,f.2))=_;rw[xC hx q (by have:=UW hc;omega),a2D];unfold N4;rw[Gy hx q P (RF hx q hc)];·rfl
  .show (if J8 m a=0 then (m,0,2) else qW m (J8 m a) (J8 m b)).2.2=0->(if J8 m a=0 then (m,0,2) else qW m (J8 m a) (J8 m b)).2.1=J8 m b;unfold qW;split;·exact λe=>absurd (show (2:Int)=0 from e) Θ
   .split;·exact λe=>absurd (show (8:Int)=0 from e) Θ
    .exact λ_=>rfl
 .exact asks Ψ (QD hc).1 rfl
 .obtain⟨ha,hb⟩:=Qz hc;have hp:T1 m ⟨10,a,b,c⟩=(m,if J8 m a=J8 m b then 1 else 0,0):=rfl;show ((ix m.Roots a).bind λy=>(ix m.Roots b).bind λv2=>if (y==v2) then some (m,(⟨1,0⟩:l6)) else some (m,(⟨0,0⟩:l6)))=_;rw[oU hx q ha.1 ha.2,a2D,oU hx q hb.1 hb.2,a2D,tp hp,q.CQ hx hz];by_cases g:J8 m a=J8 m b
  .rw[zb (Ω g),zb g]
  .rw[za (Ω g),za g]
theorem u7.gX(i:SL x)(hz:Sh.zr x = [])(hb:x.S.Serial<9223372036854775807)(hc:A5 o.Kind o.A o.B o.C=0)(hk:o.Kind<=10):(∃σ',u7 σ' (Sh.gX x o).1 (qA m o).1)/\(qA m o).2=(Sh.gX x o).2:=by
 rcases (sj hx q i hz hb hc hk).r with ⟨e,he,hp,hd⟩ | ⟨σ',z,mz,v,hp,f,_,S,hd,_,_⟩;·rw[yq hp he,hd];exact⟨⟨σ,q⟩,rfl⟩
 .rw[tp hp,hd];have S2:=S.cy f;generalize Sh.cy z=y at S2 |-;generalize eW mz=my at S2 |-;exact⟨⟨σ',S2⟩,rfl⟩
end
def Um(m:a8):Prop:=∀c∈m.b7,∀n∈m.Nodes,n.Alive=true->n.Serial=c.Target->c.Intact=true
def NS(l l':List b8):Prop:=∀e∈l',e.Alive=true->∃n∈l,n.Alive=true/\n.Serial=e.Serial
theorem NS.refl(l:List b8):NS l l:=λn h a=>⟨n,h,a,rfl⟩
theorem NS.trans{a b c:List b8}(h:NS a b)(k:NS b c):NS a c:=λn hn ha=>by
 obtain⟨p,i,e,e1'⟩:=k n hn ha;obtain⟨r,j,f,e2'⟩:=h p i e;exact⟨r,j,f,e2'.trans e1'⟩
theorem NS.cQ(l:List b8)(s:Int){f:b8->b8}(hf:∀n,(f n).Serial=n.Serial/\((f n).Alive=true->n.Alive=true)):NS l (Sh.cQ l s f):=λe hn ha=>by
 obtain⟨n,h,rfl⟩:=zn.1 hn;by_cases c:n.Serial=s
 .rw[zb c] at ha |-;exact⟨n,h,(hf n).2 ha,(hf n).1.symm⟩
 .rw[za c] at ha |-;exact⟨n,h,ha,rfl⟩
theorem NS.cR(m:a8)(s:Int):NS m.Nodes (Sh.cR m s).Nodes:=by
 unfold Sh.cR;split;·exact NS.cQ _ _ λn=>⟨rfl,id⟩
 .exact NS.refl _
theorem NS.pH(m:a8)(s:Int):NS m.Nodes (Sh.pH m s).Nodes:=by
 unfold Sh.pH;split;·exact NS.refl _
 .split;·exact NS.refl _
  .exact λn hn ha=>⟨n,(zj.1 hn).1,ha,rfl⟩
theorem Oj(m:a8)(s:Int):(pH m s).b7=m.b7:=by
 unfold pH;split;·rfl
 .split <;> rfl
theorem Um.of{m j:a8}(h:Um m)(hc:j.b7=m.b7)(hn:NS m.Nodes j.Nodes):Um j:=λc f t i ha e=>by
 obtain⟨n,k,p,r⟩:=hn t i ha;rw[hc] at f;exact h c f n k p (r.trans e)
theorem rW(m:a8)(s:Int):(cR m s).b7=m.b7:=by rw[X4]
theorem Um.rot{m:a8}(h:Um m)(r:Nat)(s:Int):Um (ab m r s):=h.of (show (cR m s).b7=_ from rW m s) (NS.cR m s)
theorem Um.sta{m:a8}(h:Um m)(s:Int):Um (lR m s):=h.of (show (cR m s).b7=_ from rW m s) ((NS.cR m s).trans (NS.cQ _ _ λn=>⟨rfl,id⟩))
theorem Um.a2l{l:List Int}:∀ {m:a8},Um m->Um (l.foldl lR m):=by
 induction l with
 | nil=>exact λh=>h
 | cons s l ih=>exact λh=>ih (h.sta s)
theorem YM(m:a8)(s:Int):NS m.Nodes (sS m s).Nodes/\∀n∈(sS m s).Nodes,n.Alive=true->n.Serial≠s:=by
 refine⟨(NS.cQ m.Nodes s (f:=jL) λn=>⟨rfl,λh=>by cases h⟩).trans (NS.pH (yj m (cQ m.Nodes s jL)) s),λn hn ha e=>?_⟩;have:NS (cQ m.Nodes s jL) (sS m s).Nodes:=NS.pH (yj m (cQ m.Nodes s jL)) s;obtain⟨r,j,i,e1'⟩:=this n hn ha;obtain⟨k,p,rfl⟩:=zn.1 j;by_cases c:k.Serial=s
 .rw[zb c] at i;cases i
 .rw[za c] at e1';exact c (e1'.trans e)
theorem MO:∀(S:List Int) (m:a8),NS m.Nodes (S.foldl sS m).Nodes/\(∀n∈(S.foldl sS m).Nodes,n.Alive=true->n.Serial∉S)/\(S.foldl sS m).b7=m.b7
 | [],m=>⟨NS.refl _,λ_ _ _=>Ψ,rfl⟩
 | s::S,m=>by
  obtain⟨a,b,c⟩:=MO S (sS m s);obtain⟨k1,k2⟩:=YM m s;rw[ww];refine⟨k1.trans a,λn hn ha h=>?_,c.trans (BV m s).2.1⟩;rcases zJ.1 h with e | e
  .obtain⟨j,i,f,e1'⟩:=a n hn ha;exact k2 j i f (e1'.trans e)
  .exact b n hn ha e
theorem Um.bur{m:a8}(h:Um m)(S:List Int):Um (uW m S):=λc hc n hn ha e=>by
 obtain⟨a,b,i⟩:=MO S (WT (Ap (PF m (hU m.b7 S)) (m.Tasks++jf m.b7 S)) (m.Pairs.filter λp=>decide (p.Key∉S)));have hc:c∈hU m.b7 S:=by rw[<-show (uW m S).b7=hU m.b7 S from i];exact hc
 obtain⟨d,hd,rfl⟩:=zn.1 hc;rw[(oC S d).1] at e;obtain⟨r,j,f,e1'⟩:=a n hn ha;have hi:=h d hd r j f (e1'.trans e);refine (oC S d).2.2.2 ⟨hi,?_⟩;unfold gi;have:d.Target∉S:=λk=>b n hn ha (e▸k);simp[this]
theorem Um.eW{m:a8}(h:Um m):Um (eW m):=by
 have e:∀m:a8,Um m->Um (sZ m):=λm h=>by
  unfold sZ;split;·exact h
  .split;·exact h.sta _
   .exact h.bur _
 have:∀n,Um (af n m):=λn=>by
  induction n with
  | zero=>exact h
  | succ n ih=>rw[fM];exact e _ ih
 exact this 100
section
variable{σ:Int->Int}{x:Hp}{m:a8}(hx:M0 x)(q:u7 σ x m)
include hx q
theorem Um.wk(h:Um m)(w:Nat)(s call:Int):Um (JZ m w s call):=by
 unfold JZ;have f:Um (PF m (m.b7.set w (fR s call))):=λc hc n hn ha e=>by
  rcases zay hc with k | k
  .exact h c k n hn ha e
  .subst k;have:=(q.nd.pos hx.sh.sr hn).1;have e:n.Serial=s:=e;show (s != 0)=true;have:s≠0:=by omega
   simpa using this
 exact f.of (Oj _ _) (NS.pH _ _)
theorem Um.new(h:Um m)(i n:Nat)(p:Int):Um (DI m i n p):=λc hc k hk ha e=>by
 rcases zH.1 hk with k1 | k1
 .exact h c hc k k1 ha e
 .exfalso;rw[zu] at k1;subst k1;have e:m.Serial+1=c.Target:=e;have hc:c∈x.b7.map (wx σ):=by rw[<-q.ce];exact hc
  obtain⟨d,hd,rfl⟩:=zn.1 hc;have e:m.Serial+1=σ d.Target:=e;have hs:=hx.sh.sr.cP;have r:=q.se;rcases nc hx.sh hd with z | ⟨j,a⟩
  .rw[z,q.gd.z] at e;omega
  .rw[q.gd.f _ j a] at e;have:=(hx.sh.sr.ok j a.1 a.2.1).s2;omega
theorem Um.trn(h:Um m)(a s e:Int):Um (ta m a s e).1:=by
 unfold ta;split;·exact h
 .exact h.rot _ _
omit hx q in
theorem fO {c:Prop} [Decidable c] {a b:a8 × Int × Int} (ha:Um a.1) (hb:Um b.1):Um (if c then a else b).1:=by
 by_cases k:c
 .rw[zb k];exact ha
 .rw[za k];exact hb
theorem Um.Xl(h:Um m)(s k v:Int):Um (ua m s k v).1:=by
 unfold ua;split;·exact h
 .exact fO h (h.of (show (cR m v).b7=_ from rW m v) ((NS.cR m v).trans (NS.cQ _ _ λn=>⟨rfl,id⟩)))
theorem Um.Xw(h:Um m)(s v:Int):Um (qW m s v).1:=fO h (h.of (show (cR m v).b7=_ from rW m v) (NS.cR m v))
theorem Um.pre(h:Um m)(o:k8):Um (T1 m o).1:=by
 have t:=λa s e=>h.trn hx q a s e;refine fO h (fO (fO h (h.Xl hx q _ _ _)) (fO (fO h (fO h (h.wk hx q _ _ _))) (fO (fO h (h.Xw hx q _ _)) (fO (fO ((h.new hx q _ _ _).rot _ _) h) (fO (t _ _ _) (fO (fO h ?_) (fO (fO h (t _ _ _)) (fO (fO h ?_) (t _ _ _)))))))))
 .split;·exact h
  .exact fO h (t _ _ _)
 .split;·exact h
  .exact t _ _ _
theorem Um.do(h:Um m)(o:k8):Um (qA m o).1:=by
 have hp:=h.pre hx q o;unfold qA;generalize T1 m o=r at hp |-;by_cases k:r.2.2≠0
 .rw[zb k];exact h
 .rw[za k];have e:=hp.eW;generalize Sh.eW r.1=M at e |-;exact e
end
noncomputable def QJ(σ:Int->Int)(x:Hp)(m:a8):a8:=if uK x = [] then eW (uW m ((cG x).map σ)) else ((uK x).map σ).foldl lR m
theorem IU{σ:Int->Int}{x:Hp}{m:a8}(hx:M0 x)(u:SL x)(hz:Sh.zr x = [])(q:u7 σ x m):∃t,bL m=some (t,⟨Yf x-((uK x).length:Int),0⟩)/\u7 σ (DB x) t/\t.Progs=m.Progs/\(Um m->Um t)/\t=QJ σ x m:=by
 have i:=hx.sh.sr;have B:=q.bn i;have C:=q.bl hx.sh;obtain⟨mp,E,F⟩:=OP (λs r=>Np hx q r) B C (λn hn=>by have:=q.nd.pos i hn;omega) (λp hp=>by
  obtain⟨k,v,hh,rfl⟩:=(q.p2 p).1 hp;have:=q.gd.ps i (hx.sh.pr k v hh).1;show σ k≠0;omega)
 have y:(cG x).length<=24:=zQ (aO (cX hx) (Y5 hx)) (dT (D5.2 i));have j:(uK x).length<=24:=zQ (zo ..) y;have w:L6 ((uK x).map λh=>Sh.nd σ x.S (F9 h))=some ((uK x).map σ):=by
  rw[xD Ωw,MX hx q λh hh=>(uU h hh).1]
 have z:L6 ((cG x).map λh=>Sh.nd σ x.S (F9 h))=some ((cG x).map σ):=by
  rw[xD Ωw,MX hx q (Y5 hx)]
 have A:G0 ((cG x).map λh=>Sh.nd σ x.S (F9 h))=some ((uK x).map λh=>Sh.nd σ x.S (F9 h)):=by
  unfold G0;rw[<-Om hx q];exact ml (λn _=>rfl) Δ Δ Ωw
 have QL:=u7.quL hx u hz q (FI hx) uU (uK x).length (zC _);rw[zL] at QL;unfold bL;rw[E,a2D,OO hx q F,a2D,A,a2D,w,a2D];by_cases hb:uK x = []
 .have e:DB x=iU x (cG x):=by unfold DB;rw[zb hb]
  have Qb:=q.iU hx (cX hx) (Y5 hx) (BO hx q);have f:=kE hx;have Qs:=Qb.cy f;rw[BN hx,<-e] at Qs;refine⟨_,?_,Qs,by rw[AQ,Mr],λh=>(h.bur _).eW,by unfold QJ;rw[zb hb]⟩;refine (CV hx u hz q j (FI hx) uU).trans ?_;simp only[];have hv:Yf x-((uK x).length:Int)=y4 (((Ly x).length:Int)-((Ly (DB x)).length:Int)):=by
   have l1:(lv x.S).length<=24:=dT (D5.2 i);have G:(lv (DB x).S).length<=24:=by rw[e];exact dT (D5.2 f.sh.sr)
   unfold Yf;rw[zb hb,hb,Hv,Hv,jX Δ Δ];simp
  rw[hb,zc0,List.foldl_nil,za Ψ,z,a2D,IT hx q (cX hx) (Y5 hx) (BO hx q),a2D,nn f Qb,a2D,Gw i q,a2D,Gw (by rw[e];exact f.sh.sr) Qs,a2D];rw[hb] at hv;rw[<-hv]
 .have e:DB x=(uK x).foldl kK x:=by unfold DB;rw[za hb]
  refine⟨_,?_,by rw[e];exact QL,WI _ _,λh=>h.a2l,by unfold QJ;rw[za hb]⟩;refine (CV hx u hz q j (FI hx) uU).trans ?_;have hpos:0<(uK x).length:=List.length_pos_iff.2 hb;simp only[];rw[zb (by rw[zf];simpa using hpos),zf,jX Δ Δ];unfold Yf;rw[za hb]
def Pg(ps:List (List k8)):Prop:=Mp ps/\∀p∈ps,∀o∈p,A5 o.Kind o.A o.B o.C=0/\o.Kind<=10
theorem a1f{l:List (List k8)}(h:gJ l=true):Pg l:=by
 unfold gJ at h;rw[zB,zg] at h;have key:∀p∈l,p.length<=6/\∀o∈p,qV o=true:=λp hp=>by
  have:=h.2 p hp;unfold wg at this;rw[zB,zE,zg] at this;exact this
 refine⟨λp hp=>(key p hp).1,λp hp o ho=>?_⟩;have:=(key p hp).2 o ho;unfold qV at this;simp only[zB,zE,zak] at this;exact⟨this.2,this.1.2⟩
theorem Pg.xe{ps:List (List k8)}(h:Pg ps)(n:Int):∀o∈Sh.xe ps n,A5 o.Kind o.A o.B o.C=0/\o.Kind<=10:=by
 intro o ho;unfold Sh.xe at ho;split at ho;·cases ho
 .rename_i c;have hk:n.toNat<ps.length:=by omega
  rw[zd,zc hk] at ho;exact h.2 _ (zl hk) o ho
theorem u7.yi{σ:Int->Int}{x:Hp}{m:a8}(q:u7 σ x m)(ts:List k7):u7 σ (Sh.yi x ts) (Ap m (ts.map (tx σ))):=
 ⟨q.gd,q.nd,q.sl,q.ge,q.la,q.npl,q.se,q.ro,q.ce,q.p1,q.p2,rfl⟩
def xf(ps:List (List k8))(x:Hp)(m:a8):Prop:=(∃σ,u7 σ x m)/\m.Progs=ps/\Um m
section
variable{ps:List (List k8)}{x:Hp}{m:a8}(hx:Oh x)(g:xf ps x m)
include hx g
theorem Vr(hb:x.S.Serial<9223372036854775807){o:k8}(hc:A5 o.Kind o.A o.B o.C=0)(hk:o.Kind<=10):∃j,aq m o=some (j,⟨(gX x o).2.1,(gX x o).2.2⟩)/\xf ps (gX x o).1 j:=by
 obtain⟨⟨σ,q⟩,hp,hu⟩:=g;obtain⟨S,e⟩:=q.gX hx.rt hx.sl hx.zr hb hc hk;refine⟨(qA m o).1,?_,S,?_,hu.do hx.rt q o⟩;·rw[RE hx.rt q hx.sl hx.zr hb hc hk,e]
 .rcases (sj hx.rt q hx.sl hx.zr hb hc hk).r with ⟨e,he,f,_⟩ | ⟨σ',z,mz,v,f,_,_,_,_,i,_⟩;·rw[yq f he];exact hp
  .rw[tp f];show (eW mz).Progs=ps;rw[AQ,i,hp]
end
section
variable{ps:List (List k8)}{x:Hp}{m:a8}(hx:Oh x)(g:xf ps x m)(hg:Pg ps)
include hx g hg
end
theorem ZZ(l:List (List k8)):∃b,jF l=some b/\(b=true->l.length<=10/\∀p∈l,p.length<=10):=by
 unfold jF;simp only[jn];refine a0C (Q:=λb=>b=true->l.length<=10/\(∀p∈l,p.length<=10)) (min l.length 10) (λk=>∀h:k<l.length,(l[k]).length<=10) (by have:min l.length 10<=10:=Nat.min_le_right ..;omega) (λk hk=>?_) ?_ (λi=>?_) (λi=>?_)
 .have e:k<l.length:=by omega
  have j:k<10:=Δ
  have c:((decide (((k:Nat):Int)<(l.length:Int)))&&(decide (((k:Nat):Int)<10)))=true:=by simp;omega
  by_cases q:(l[k]).length<=10
  .refine⟨_,?_,.inl ⟨λ_=>q,rfl⟩⟩;rw[zb c,u4 e,a2D,za Ξ,p8]
  .refine⟨_,?_,.inr ⟨λh=>q (h e),rfl⟩⟩;rw[zb c,u4 e,a2D,zb Ξ]
 .rw[za Ξ]
 .refine⟨_,rfl,λh=>?_⟩;have f:l.length<=10:=by have:=zbd h;omega
  refine⟨f,λp hp=>?_⟩;obtain⟨k,hk,rfl⟩:=u8 hp;exact i k Δ hk
 .exact⟨false,rfl,λh=>by cases h⟩
theorem WA(l:List (List Int))(m:Int):∃b,iM l m=some b/\(b=true->(l.length:Int)<=m):=by
 unfold iM;simp only[jn];refine a0C (Q:=λb=>b=true->(l.length:Int)<=m) (min l.length 200) (λk=>∀h:k<l.length,(l[k]).length<=10) (by have:min l.length 200<=200:=Nat.min_le_right ..;omega) (λk hk=>?_) ?_ (λi=>?_) (λi=>?_)
 .have e:k<l.length:=by omega
  have f:k<200:=Δ
  have c:((decide (((k:Nat):Int)<(l.length:Int)))&&(decide (((k:Nat):Int)<200)))=true:=by simp;omega
  by_cases q:(l[k]).length<=10
  .refine⟨_,?_,.inl ⟨λ_=>q,rfl⟩⟩;rw[zb c,u4 e,a2D,za Ξ,p8]
  .refine⟨_,?_,.inr ⟨λh=>q (h e),rfl⟩⟩;rw[zb c,u4 e,a2D,zb Ξ]
 .rw[za Ξ]
 .exact⟨_,rfl,λh=>zbd h⟩
 .exact⟨false,rfl,λh=>by cases h⟩
def Xs:a8:=⟨[],[],[],0,0,0,[],[],[],[],[]⟩
def nwM(k:Nat)(l:Int)(p:Nat)(ps:List (List k8)):a8:=⟨[],List.replicate k 0,List.replicate k 0,l,p,0,List.replicate 6 0,List.replicate 6 ⟨0,false,-1⟩,[],[],ps⟩
theorem RX(k:Nat)(l:Int)(p i:Nat):ce (tE k l p).S i=⟨0,0,z0⟩:=by
 unfold ce tE;dsimp only;rw[zd,List.getElem?_replicate];split <;> rfl
theorem YZ(k:Nat)(l:Int)(p:Nat)(ps:List (List k8)):u7 (λ_=>0) (tE k l p) (nwM k l p ps):=by
 have nt:∀i,¬Th (ce (tE k l p).S i):=λi=>by rw[RX];unfold Th;decide
 have rep:∀(f:Nat->Int),(∀i,f i=0)->List.replicate k (0:Int)=(List.range (tE k l p).S.S.b7.length).map f:=λf hf=>by
  symm
  rw[List.eq_replicate_iff];refine⟨by rw[zf,zbw];exact List.length_replicate ..,λb hb=>?_⟩;obtain⟨i,_,rfl⟩:=zn.1 hb;exact hf i
 refine⟨⟨rfl,λh i a=>absurd a.2.1 (nt i)⟩,⟨List.Pairwise.nil,λn=>⟨λh=>(nomatch h),λ⟨i,_,t,_⟩=>absurd t (nt i)⟩⟩,rep _ λi=>?_,rep _ λi=>by rw[RX],rfl,?_,rfl,rfl,rfl,List.Pairwise.nil,λq=>⟨λh=>(nomatch h),λ⟨a,v,h,_⟩=>?_⟩,rfl⟩
 .unfold Tl;rw[za (nt i),RX];rfl
 .show (p:Int)=((List.replicate p _).length:Nat);rw[List.length_replicate]
 .obtain⟨i,hi,_⟩:=h;have:=hi.2.1;rw[show (tE k l p).T=List.replicate p ⟨0,0,0⟩ from rfl,xU] at this;cases this
theorem a08{n last places:Int}{ps:List (List k8)}(hl:ps.length<=12)(hp:∀p∈ps,p.length<=12) :
  (∃e E,e≠0/\bo n last places ps=some (E,e)/\dA n last places ps=some (Xs,e)/\(e=13\/e=1/\¬((1<=n/\n<=24)/\(0<=last/\last<=9)/\1<=places/\places<=8))) \/
  (∃k p:Nat,n=k/\places=p/\(1<=k/\k<=24)/\Pg ps/\Rs (tE k last p) 0/\bo n last places ps=some (⟨tE k last p,ps⟩,0)/\dA n last places ps=some (nwM k last p ps,0)/\xf ps (tE k last p) (nwM k last p ps)):=by
 rcases RU (n:=n) (last:=last) (places:=places) hl (λp h=>zQ (hp p h) Θ) with ⟨e,f,_,r⟩ | ⟨k,p,rfl,rfl,hk,hm,hr,f,_⟩
 .left;have he:e≠0:=by omega
  refine⟨e,_,he,f,?_,r⟩;unfold dA;rw[f,a2D,zb (Ω he)];rfl
 .right;have i:gJ ps=true:=by
   cases t:gJ ps with
   | true=>rfl
   | false=>
    have j:ir ps=some (gJ ps):=Ji Δ λp h=>zQ (hp p h) Θ;unfold bo at f;rw[j,a2D,t,zb (show (!false)=true from rfl)] at f;exact absurd (zY (λp=>p.2) (zK f)) Ψ
  refine⟨k,p,rfl,rfl,hk,a1f i,hr,f,?_,⟨_,YZ k last p ps⟩,rfl,λc _ n hn=>(nomatch hn)⟩;unfold dA;rw[f,a2D,za Ψ,ka Δ Δ,a2D,show mk 8 6 (0:Int)=some (List.replicate 6 0) from rfl,a2D];refine rX (a:=List.replicate 6 ⟨0,false,-1⟩) Φ ?_;rfl
set_option maxRecDepth 100000 in
theorem WB:kO=some true:=Φ
theorem a0J{l:List (List k8)}{rows:List (List Int)}{m:Int}{K:Option Bool}(h:jF l=some true->l.length<=10->(∀p∈l,p.length<=10)->(rows.length:Int)<=m->K=some true) :
  ((jF l).bind λe=>(y6 ((!e)==false) false (iM rows m)).bind λv2=>(y6 (((!e)||(!v2))==false) false kO).bind λv3=>if (((!e)||(!v2))||(!v3)) then (kO).bind λr=>some r else K)=some true:=by
 obtain⟨b,f,i⟩:=ZZ l;obtain⟨c,j,k⟩:=WA rows m;rw[f,a2D,WB];cases b;·rfl
 .rw[show y6 ((!true)==false) false (iM rows m)=iM rows m from rfl,j,a2D];cases c;·rfl
  .exact h f (i rfl).1 (i rfl).2 (k rfl)
theorem ZR{ps:List (List k8)}{x:Hp}{m:a8}(hx:Oh x)(g:xf ps x m)(ht:jF ps=some true):oc m=some true:=by
 obtain⟨⟨σ,q⟩,hp,_⟩:=g;have B:=q.bn hx.rt.sh.sr;have C:=q.bl hx.rt.sh;have nl:=B.nl;have f:=hx.rt.sh;have r6:=q.r6 hx.rt;have c6:m.b7.length=6:=by rw[q.ce,zf,f.c6]
 have tl:m.Tasks.length<=30:=by rw[q.tk,zf];exact f.q30
 have i:m.Pairs.length<=8:=by
  rw[(q.perm f).length_eq,zf];unfold yA;rw[zf];exact zQ (zo ..) f.hr.l8
 have gl:=B.gl;unfold oc;simp only[jn];refine Y6 m.Nodes.length (λ_=>True) Δ trivial (λk hk _=>.inl ⟨?_,trivial⟩) (λ_=>⟨.inr (),?_,?_⟩)
 .have c:((decide (((k:Nat):Int)<(m.Nodes.length:Int)))&&(decide (((k:Nat):Int)<60)))=true:=by simp;omega
  have:=B.fl _ (zl hk);rw[zb c,u4 hk,a2D,za Ξ,p8]
 .rw[za Ψ]
 .have e:((((((((decide ((m.Nodes.length:Int)<=50))&&(decide ((m.Pairs.length:Int)<=20)))&&(decide ((m.Tasks.length:Int)<=100)))&&(decide ((m.b7.length:Int)<=20)))&&(decide ((m.Roots.length:Int)<=20)))&&(decide ((m.Slots.length:Int)<=30)))&&(decide ((m.Gens.length:Int)<=30))))=true:=by
   simp;omega
  dsimp only;rw[e,hp];simp only[zZ,W4];rw[ht];rfl
theorem xf.r6{ps:List (List k8)}{x:Hp}{m:a8}(hx:Oh x)(g:xf ps x m):m.Roots.length=6:=by
 obtain⟨⟨σ,q⟩,_⟩:=g;exact q.r6 hx.rt
theorem xf.a0T{ps:List (List k8)}{x:Hp}{m:a8}(hx:Oh x)(g:xf ps x m):ba m=some (Ly x):=by
 obtain⟨⟨σ,q⟩,_⟩:=g;exact Gw hx.rt.sh.sr q
section
variable{σ:Int->Int}{x:Hp}{m:a8}(hx:Oh x)(q:u7 σ x m)
include hx q
end
section
variable{σ:Int->Int}{x:Hp}{m:a8}(hx:Oh x)(q:u7 σ x m)
include hx q
end
section
variable{σ:Int->Int}{x:Hp}{m:a8}(hx:Oh x)(q:u7 σ x m)
include hx q
end
theorem lI(h:Int):∀l:List Int,0<L0 l h↔h∈l/\h≠0
 | []=>by rw[H6];simp
 | v::l=>by
  rw[I6,zJ];have ih:=lI h l;by_cases c:v=h/\h≠0
  .rw[zb c];exact⟨λ_=>⟨.inl c.1.symm,c.2⟩,λ_=>Δ⟩
  .rw[za c,zbf,ih];constructor;·exact λk=>⟨.inr k.1,k.2⟩
   .rintro⟨k | k,h0⟩;·exact absurd ⟨k.symm,h0⟩ c
    .exact⟨k,h0⟩
theorem Dp{l:List (List k8)}(hl:l.length<=12)(hp:∀p∈l,p.length<=12):oa l=some (Du l):=by
 unfold oa;simp only[jn];refine S9 l.length (λk acc=>acc=(l.take k).map (List.map Nf)) Δ Ψ (λk acc hk f=>.inl ⟨_,?_,rfl⟩) (λacc f=>⟨_,za Ψ,by rw[f,zL]⟩);subst f;have hm:=hp _ (zl hk);dsimp only;rw[zb (Ω hk)];have e:=ld (b:=32) Nf l[k] Δ Δ;simp only[Nf] at e;simp only[u4 hk,a2D];rw[e,a2D,U5 Δ Ξ,a2D,p8,zi hk,zV];rfl
theorem YT{m:a8}(B:Bn m)(C:Bl m)(hl:m.Progs.length<=12)(hp:∀p∈m.Progs,p.length<=12):nZ m=some (mO m):=by
 have nl:=B.nl;have pa:=C.pa;have tl:=C.tl;have wl:=C.wl;unfold nZ;simp only[jn];have en:=ld (b:=56) nO m.Nodes Δ Δ;simp only[nO] at en;have ep:=ld (b:=16) pp m.Pairs Δ Δ;simp only[pp] at ep;rw[en,a2D,ep,a2D,a1q ⟨m.Tasks,0⟩ ΩU,a2D,a0y m.b7 Δ,a2D,Dp hl hp,a2D];rfl
theorem VM{l:List o5}(hl:l.length<=1000)(hf:∀n∈l,n.Fields.length<=100):su l l=some true:=by
 unfold su;rw[za Ψ];simp only[jn];refine Y6 l.length (λ_=>True) Δ trivial (λk hk _=>.inl ⟨?_,trivial⟩) (λ_=>⟨.inr (),za Ψ,rfl⟩);have h:=hf _ (zl hk);rw[zb (Ω hk),u4 hk,a2D,a2D];simp only[zbm,zcb,zZ,W4];rw[nk Δ,a2D];rw[za Ψ,p8]
theorem ZL{m:a8}(B:Bn m)(C:Bl m):nJ (mO m) (mO m)=some true:=by
 have nl:=B.nl;have pa:=C.pa;have tl:=C.tl;have wl:=C.wl;have rl:=C.rl;have gl:=B.gl;unfold nJ;rw[VM (by simp[mO];omega) λn hn=>by
  obtain⟨k,hk,rfl⟩:=zn.1 hn;have:=B.fl k hk;show k.Fields.length<=100;omega,a2D]
 simp only[za2,zZ,W4];rw[show (mO m).Slots=m.Slots from rfl,show (mO m).Gens=m.Gens from rfl,show (mO m).Roots=m.Roots from rfl,nk Δ,a2D];simp only[za2,zcb,zZ,W4];rw[nk Δ,a2D];simp only[za2,zcb,zbm,zM,pu];rw[nk Δ,a2D];simp only[zZ,W4];rw[ZK (by simp[mO];omega),a2D];simp only[zcp,zZ,W4];rw[JB (by simp[mO];omega),a2D];simp only[zcp,zZ,W4];have e:ra (⟨(mO m).Tasks,0⟩:F6) ⟨(mO m).Tasks,0⟩=some true:=Zy (q:=⟨m.Tasks,0⟩) ΩU;rw[e];rfl
section
variable{ps:List (List k8)}{x:Hp}{m:a8}(hx:Oh x)(g:xf ps x m)(hg:Pg ps)
include hx g hg
end
theorem AO{m:a8}(B:Bn m):iE (mO m)=some ((m.Nodes.filter (·.Alive)).map (·.Serial)):=by
 have nl:=B.nl;unfold iE;simp only[jn];refine S9 m.Nodes.length (λk l=>l=((m.Nodes.take k).filter (·.Alive)).map (·.Serial)) Δ rfl (λk l hk hl=>.inl ⟨_,?_,rfl⟩) (λl hl=>⟨l,?_,?_⟩)
 .subst hl;have e:=zo (λn:b8=>n.Alive) (m.Nodes.take k);rw[wn] at e;dsimp only;rw[zb Ωs,show (mO m).Nodes=m.Nodes.map nO from rfl,u4 (Ω hk),a2D,zx,zi hk,zai,zV];show (if m.Nodes[k].Alive=true then _ else _)=_;cases ha:m.Nodes[k].Alive with
  | true=>rw[zb rfl,qe Δ Ωw,a2D,p8 (n:=k) Δ,zaa ha];rfl
  | false=>rw[za Ψ,p8 (n:=k) Δ,mt (by simp[ha])];simp
 .dsimp only;rw[za Ωo]
 .rw[hl,zL]
theorem SM{m:a8}(C:Bl m)(s:Int):nM (mO m) s=some (if m.Pairs.findIdx (λp=>p.Key==s)<m.Pairs.length then (m.Pairs.findIdx (λp=>p.Key==s):Int) else -1):=by
 have pa:=C.pa;unfold nM;simp only[jn];refine Y6 m.Pairs.length (λi=>i<=m.Pairs.findIdx (λp=>p.Key==s)) Δ (zU _) (λi hi j=>?_) (λk=>⟨.inr (),Ωo,by rw[za Δ]⟩);rw[zb (by simp[mO];exact hi),show (mO m).Pairs=m.Pairs.map pp from rfl,u4 (Ω hi),a2D,zx];show ((if (m.Pairs[i].Key==s)=true then _ else _)=_/\_)\/∃e,(if (m.Pairs[i].Key==s)=true then _ else _)=_/\_;rcases zI i (m.Pairs.findIdx (λp=>p.Key==s)) with c | c
 .left;have h0:=List.not_of_lt_findIdx c;rw[za (by rw[h0];simp),p8 Δ];exact⟨rfl,c⟩
 .have e:i=m.Pairs.findIdx (λp=>p.Key==s):=by omega
  right;have f:m.Pairs.findIdx (λp=>p.Key==s)<m.Pairs.length:=Δ
  have:((m.Pairs[m.Pairs.findIdx (λp=>p.Key==s)]).Key==s)=true:=zce (w:=f) (p:=λp:l5=>p.Key==s);have h0:(m.Pairs[i].Key==s)=true:=by simp only[e];exact this
  rw[zb h0,zb f,e];exact⟨_,rfl,rfl⟩
section
variable{σ:Int->Int}{x:Hp}{m:a8}(hx:M0 x)(q:u7 σ x m)
include hx q
theorem Ll{r:Int}(hr:r<=5):jA (mO m) r=some (J8 m r):=xC hx q hr
theorem SP{a b c:Int}(ha:0<=a/\a<=5)(s:Int):ly (mO m) ⟨6,a,b,c⟩ s=some (if Sh.uM ⟨m.Tasks,30⟩ a=true then (mO m,7) else (mO (JZ m a.toNat s c),0)):=by
 have B:=q.bn hx.sh.sr;have C:=q.bl hx.sh;have tl:=C.tl;have wl:=C.wl;have c6:m.b7.length=6:=by rw[q.ce,zf,hx.sh.c6]
 obtain⟨n,rfl⟩:∃n:Nat,a=n:=⟨a.toNat,Δ⟩;have hn:n<m.b7.length:=Δ
 unfold ly;rw[show nH (⟨(mO m).Tasks,0⟩:F6) (n:Int)=some (Sh.uM ⟨m.Tasks,30⟩ n) from Wq (q:=⟨m.Tasks,0⟩) ΩU,a2D];cases hw:Sh.uM ⟨m.Tasks,30⟩ (n:Int)
 .rw[za Ψ,za Ψ,show (mO m).b7=m.b7.map rO from rfl,LF Δ hn,a2D];have hg:m.b7.getD n cz=m.b7[n]:=by rw[zd,zc hn];rfl
  refine rX (SJ (m:=PF m (m.b7.set n (fR s c))) ⟨B.nl,B.up,B.fl,B.sg,B.gg,B.gl⟩ ⟨C.rl,by show (m.b7.set n _).length<=30;rw[zaq];exact C.wl,C.pa,C.tl⟩ m.b7[n].Target) ?_;rw[zN];unfold JZ;rw[hg]
 .rw[zb rfl,zb rfl]
end
theorem SH(l:List Int)(k:Int):mS l k=some (if 0<=k/\k<l.length then (l.getD k.toNat 0,0) else (0,5)):=by
 unfold mS;by_cases c:0<=k/\k<l.length
 .obtain⟨n,rfl⟩:∃n:Nat,k=n:=⟨k.toNat,Δ⟩;have hn:n<l.length:=by omega
  rw[za Ξ,zb c,u4 hn,a2D,zN,zd,zc hn];rfl
 .rw[zb Ξ,za c]
theorem SI{l:List Int}(hl:l.length<=1000){k:Int}(h:0<=k/\k<l.length)(v:Int):wh l k v=some (l.set k.toNat v,0):=by
 unfold wh;obtain⟨n,rfl⟩:∃n:Nat,k=n:=⟨k.toNat,Δ⟩;have hn:n<l.length:=Δ
 rw[za Ξ,L8 Δ Δ,a2D,u4 hn,a2D]
theorem QY(m:a8)(s:Int){n:b8}{f:b8->b8}{l:List Int}(hn:m.Nodes.find? (λk=>k.Serial==s)=some n)(up:m.Nodes.Pairwise λa b=>a.Serial<b.Serial):cQ m.Nodes s (λj=>Xj j l)=cQ m.Nodes s (λ_=>Xj n l):=by
 unfold cQ;refine zt λj hj=>?_;by_cases c:j.Serial=s
 .rw[zb c,zb c];have:j=n:=by
   obtain⟨e,k,hk,rfl,_⟩:=zbb.1 hn;obtain⟨i,hi,rfl⟩:=u8 hj;have e:m.Nodes[k].Serial=s:=Ω e
   rcases Nat.lt_trichotomy i k with h | h | h
   .have:=t7.1 up i k hi hk h;omega
   .subst h;rfl
   .have:=t7.1 up k i hk hi h;omega
  rw[this]
 .rw[za c,za c]
section
variable{σ:Int->Int}{x:Hp}{m:a8}(hx:M0 x)(q:u7 σ x m)
include hx q
theorem u7.vl{s t:Int}{n:b8}(h:m.Nodes.find? (λn=>n.Serial==t)=some n):∃e,(cR m s).Nodes.find? (λn=>n.Serial==t)=some e/\e.Fields=n.Fields:=by
 unfold cR;split
 .by_cases c:t=s
  .subst c;refine⟨uC n,?_,rfl⟩;show (cQ m.Nodes t uC).find? _=_;rw[vm t (f:=uC) (λ_=>rfl),h];rfl
  .refine⟨n,?_,rfl⟩;show (cQ m.Nodes s uC).find? _=_;rw[oI c (f:=uC) (λ_=>rfl),h]
 .exact⟨n,h,rfl⟩
theorem SO{s k v:Int}(hv:v=0\/∃n,m.Nodes.find? (λn=>n.Serial==v)=some n){n:b8}(hn:m.Nodes.find? (λn=>n.Serial==s)=some n):iG (mO m) s k v=some (mO (ua m s k v).1,(ua m s k v).2.2):=by
 have B:=q.bn hx.sh.sr;have C:=q.bl hx.sh;have hfl:=B.fl n (ga hn).2;obtain⟨i,hi,r,t⟩:=DQ B hn;unfold iG ua;rw[hn];dsimp only;rw[t,a2D,show (mO m).Nodes=m.Nodes.map nO from rfl,u4 (Ω hi),a2D,zx,r,show (nO n).Fields=n.Fields from rfl,SH,a2D];by_cases c:0<=k/\k<n.Fields.length
 .rw[zb c,za Ψ,za (λd=>d c),Hc B C hv,a2D];have B':=B.cR v;obtain⟨p,e,ef⟩:=q.vl hx (s:=v) hn;obtain⟨j,hj,f1,f2⟩:=DQ B' e;rw[f2,a2D,show (mO (cR m v)).Nodes=(cR m v).Nodes.map nO from rfl,u4 (Ω hj),a2D,zx,f1,show (nO p).Fields=p.Fields from rfl,ef,SI Δ c,a2D];refine rX (wy (f:=λ_=>Xj p (n.Fields.set k.toNat v)) B' e rfl) ?_;rw[QY (cR m v) s (f:=id) e B'.up]
 .rw[za c,zb Ψ,zb c]
theorem u7.Sy:(m.Pairs.length:Int)<=m.Places:=by
 rw[(q.perm hx.sh).length_eq,zf,q.npl];unfold yA;rw[zf];have:=zo (λp:g8=>p.State==1) x.T;omega
theorem Wd(s:Int)(j:Nat)(hj:j<m.Pairs.length):((j:Int) != (if m.Pairs.findIdx (λp=>p.Key==s)<m.Pairs.length then (m.Pairs.findIdx (λp=>p.Key==s):Int) else -1))=(m.Pairs[j].Key != s):=by
 have hh:=t7.1 q.p1;by_cases c:m.Pairs.findIdx (λp=>p.Key==s)<m.Pairs.length
 .rw[zb c];have h0:((m.Pairs[m.Pairs.findIdx (λp=>p.Key==s)]).Key==s)=true:=zce (w:=c) (p:=λp:l5=>p.Key==s);have h0:(m.Pairs[m.Pairs.findIdx (λp=>p.Key==s)]).Key=s:=by simpa using h0
  by_cases e:j=m.Pairs.findIdx (λp=>p.Key==s)
  .have:m.Pairs[j].Key=s:=by simp only[e];exact h0
   rw[this,<-e];simp
  .have:m.Pairs[j].Key≠s:=λk=>by
    rcases Nat.lt_trichotomy j (m.Pairs.findIdx (λp=>p.Key==s)) with h | h | h
    .exact hh _ _ hj c h (k.trans h0.symm)
    .exact e h
    .exact hh _ _ c hj h (h0.trans k.symm)
   rw[zcs.2 this,zcs];omega
 .rw[za c];have f:m.Pairs[j].Key≠s:=λk=>c (zck.2 ⟨m.Pairs[j],zl hj,Ω k⟩);rw[zcs.2 f,zcs];omega
theorem SN{s v:Int}(hv:v=0\/∃n,m.Nodes.find? (λn=>n.Serial==v)=some n):lx (mO m) s v=some (mO (qW m s v).1,(qW m s v).2.2):=by
 have B:=q.bn hx.sh.sr;have C:=q.bl hx.sh;have pa:=C.pa;have i:=q.Sy hx;have f:=Wd hx q s;have j:m.Pairs.findIdx (λp=>p.Key==s)<m.Pairs.length->(m.Pairs.filter λp=>p.Key != s).length<m.Pairs.length:=λc=>by
  rw[List.length_filter_lt_length_iff_exists];refine⟨_,zl c,?_⟩;have h0:((m.Pairs[m.Pairs.findIdx (λp=>p.Key==s)]).Key==s)=true:=zce (w:=c) (p:=λp:l5=>p.Key==s);have h0:(m.Pairs[m.Pairs.findIdx (λp=>p.Key==s)]).Key=s:=Ω h0
  rw[h0];simp
 have r:¬m.Pairs.findIdx (λp=>p.Key==s)<m.Pairs.length->m.Pairs.filter (λp=>p.Key != s)=m.Pairs:=λc=>by
  refine zav.2 λp hp=>?_;have:p.Key≠s:=λk=>c (zck.2 ⟨p,hp,Ω k⟩);simpa using this
 have hcond:(((decide ((if m.Pairs.findIdx (λp=>p.Key==s)<m.Pairs.length then (m.Pairs.findIdx (λp=>p.Key==s):Int) else -1)<0))&&(v != 0))&&(decide ((m.Pairs.length:Int)>=m.Places)))=decide (v≠0/\m.Places<=((m.Pairs.filter λp=>p.Key != s).length:Int)):=by
  rw[zbh];simp only[zB,zE,zcs];by_cases c:m.Pairs.findIdx (λp=>p.Key==s)<m.Pairs.length
  .have:=j c;rw[zb c];constructor;·rintro⟨⟨h,_⟩,_⟩;omega
   .rintro⟨_,h⟩;omega
  .rw[za c,r c];constructor;·rintro⟨⟨_,h⟩,k⟩;exact⟨h,Δ⟩
   .rintro⟨h,k⟩;exact⟨⟨Δ,h⟩,Δ⟩
 unfold lx qW;rw[SM C,a2D,show (mO m).Pairs.length=m.Pairs.length from zf ..,show (mO m).Places=m.Places from rfl,hcond];by_cases c:v≠0/\m.Places<=((m.Pairs.filter λp=>p.Key != s).length:Int)
 .rw[zG c,zb rfl,zb c]
 .rw[we c,za Ψ,za c,Hc B C hv,a2D];generalize (if m.Pairs.findIdx (λp=>p.Key==s)<m.Pairs.length then (m.Pairs.findIdx (λp=>p.Key==s):Int) else -1)=t at f |-;have hp:(mO (cR m v)).Pairs=m.Pairs.map pp:=by rw[X4];rfl
  have hfl:=zo (λp:l5=>p.Key != s) m.Pairs;simp only[jn];refine S9 m.Pairs.length (λk l=>l=((m.Pairs.take k).filter (λp=>p.Key != s)).map pp) Δ rfl (λk l hk hl=>.inl ⟨_,?_,rfl⟩) (λl hl=>⟨l,?_,?_⟩)
  .subst hl;have i:=zo (λp:l5=>p.Key != s) (m.Pairs.take k);rw[wn] at i;dsimp only;rw[hp,zb (Ω hk),f k hk,zi hk,zai,zV];cases e:(m.Pairs[k].Key != s) with
   | true=>rw[zb rfl,u4 (Ω hk),a2D,zx,qe Δ Ωw,a2D,p8 (n:=k) Δ,zaa (p:=λp:l5=>p.Key != s) e];rfl
   | false=>rw[za Ψ,p8 (n:=k) Δ,mt (p:=λp:l5=>p.Key != s) (by simp[e])];simp
  .dsimp only;rw[hp,za Ψ]
  .rw[zL] at hl;subst hl;by_cases v0:v=0
   .rw[za (Ω v0),zb v0,za9];rfl
   .rw[zb (Ω v0),za v0,qe Δ Ωw,a2D];show _=some ((⟨_,_,_,_,_,_,_,_,((m.Pairs.filter λp=>p.Key != s) ++ [(⟨s,v⟩:l5)]).map pp,_,_⟩:e6),_);rw[zV];rfl
end
section
variable{σ:Int->Int}{x:Hp}{m:a8}(hx:M0 x)(q:u7 σ x m)
include hx q
theorem ZC{k a b c:Int}(hc:A5 k a b c=0)(hk:k=2\/k=3\/k=4\/k=7\/k=9):∃v e,wv (mO m) ⟨k,a,b,c⟩=some (v,e) /\
  T1 m ⟨k,a,b,c⟩=(if e≠0 then (m,0,e) else (ab m a.toNat v,v,0))/\(e=0->∃h,(h=0\/h∈lv x.S)/\v=σ h):=by
 have B:=q.bn hx.sh.sr;have C:=q.bl hx.sh;obtain⟨v,e,H,K,N⟩:=MV hx q hc hk;refine⟨v,e,?_,K,N⟩;rw[<-H];have Q:(mO m).Roots=m.Roots:=rfl;rcases hk with rfl | rfl | rfl | rfl | rfl
 .rfl
 .rfl
 .obtain⟨ha,hb,P⟩:=QA hc;show ((ix m.Roots b).bind λv3=>if (v3==0) then some (0,2) else (dX (mO m) v3).bind λE=>(ix (mO m).Nodes E).bind λy=>(mS y.Fields c).bind λA=>some (A.1,A.2))=(L9 m b).bind λv2=>if (v2.2 != 0) then some (0,v2.2) else (iK v2.1.Fields c).bind λv3=>some (v3.1,v3.2)
  rw[oU hx q hb.1 hb.2,a2D];rcases lg hx q (r:=b) Δ with ⟨h0,z,t⟩ | ⟨h0,hl,n,hn,hs,hf,t⟩;·rw[t,zb (Ω h0)];rfl
  .obtain⟨i,hi,f1,f2⟩:=DQ B hn;rw[t,za (Ω h0),f2,a2D,show (mO m).Nodes=m.Nodes.map nO from rfl,u4 (Ω hi),a2D,zx,f1,show (nO n).Fields=n.Fields from rfl,SH,a2D,a2D,za (show ¬(((0:Int) != 0)=true) by simp),Qt,a2D]
 .obtain⟨ha,hb⟩:=QC hc;obtain⟨n,rfl⟩:∃n:Nat,b=n:=⟨b.toNat,Δ⟩;have c6:m.b7.length=6:=by rw[q.ce,zf,hx.sh.c6]
  have hn:n<m.b7.length:=Δ
  show ((qY (m.b7.map rO) n).bind λv2=>some (v2.1,v2.2))=(ca m.b7 n).bind λE=>some (E.1,E.2);rw[MR hn];have G:n<(m.b7.map rO).length:=Ω hn
  have:qY (m.b7.map rO) n=some (if m.b7[n].Target=0\/m.b7[n].Intact=false then (0,9) else (m.b7[n].Target,0)):=by
   unfold qY;rw[za Ξ,u4 G,a2D,zx];by_cases g:m.b7[n].Target=0\/m.b7[n].Intact=false
   .rw[zb g,zb (by rcases g with g | g <;> simp[rO,g])]
   .rw[za g,za (by simpa[rO] using g)];rfl
  rw[this]
 .obtain⟨ha,hb⟩:=QD hc;show ((ix m.Roots b).bind λv3=>if (v3==0) then some (0,2) else (nM (mO m) v3).bind λF=>if (decide (F<0)) then some (0,9) else (ix (mO m).Pairs F).bind λR=>some (R.Val,0))=(L9 m b).bind λy=>if (y.2 != 0) then some (0,y.2) else (O8 m y.1.Serial).bind λA=>if (decide ((A.length:Int) > 0)) then (ix A 0).bind λF=>some (F,0) else some (0,9)
  rw[oU hx q hb.1 hb.2,a2D];rcases lg hx q (r:=b) Δ with ⟨h0,z,t⟩ | ⟨h0,hl,n,hn,hs,hf,t⟩;·rw[t,zb (Ω h0)];rfl
  .rw[t,za (Ω h0),SM C,a2D,a2D,za (show ¬(((0:Int) != 0)=true) by simp)];dsimp only;rw[Ce B C,a2D,hs];by_cases u:m.Pairs.findIdx (λp=>p.Key==J8 m b)<m.Pairs.length
   .rw[zb u,za Ψ,show (mO m).Pairs=m.Pairs.map pp from rfl,u4 (Ω (u)),a2D,zx];have f:m.Pairs.find? (λp=>p.Key==J8 m b)=some m.Pairs[m.Pairs.findIdx (λp=>p.Key==J8 m b)]:=by
     rw[zbb];exact⟨zce (w:=u),_,u,rfl,λj hj=>by
      have:=List.not_of_lt_findIdx hj;rw[this];rfl⟩
    rw[<-List.head?_filter] at f;cases g:m.Pairs.filter (λp=>p.Key==J8 m b) with
    | nil=>rw[g] at f;cases f
    | cons p l=>
     rw[g] at f;have f:p=m.Pairs[m.Pairs.findIdx (λp=>p.Key==J8 m b)]:=Ω f
     rw[<-f,zb Ψ];rfl
   .rw[za u,zb Θ];have:m.Pairs.filter (λp=>p.Key==J8 m b) = []:=by
     rw[List.filter_eq_nil_iff];exact λp hp k=>u (zck.2 ⟨p,hp,k⟩)
    rw[this];rfl
theorem ZB(G:SL x)(hb:x.S.Serial<9223372036854775807){a b c:Int}(hc:A5 1 a b c=0):rh (mO m) ⟨1,a,b,c⟩=some (mO (qA m ⟨1,a,b,c⟩).1,(qA m ⟨1,a,b,c⟩).2):=by
 obtain⟨ha,y,k⟩:=UT hc;have u:=hx.sh.sr;have B:=q.bn u;have hp:T1 m ⟨1,a,b,c⟩=if m.Slots.findIdx (· == 0)<m.Slots.length then (ab (DI m (m.Slots.findIdx (· == 0)) b.toNat c) a.toNat (m.Serial+1),m.Serial+1,0) else (m,0,4):=rfl
 obtain⟨n,rfl⟩:∃n:Nat,b=n:=⟨b.toNat,Δ⟩;have gl:=B.gl;have nl:=B.nl;have hv:AL (⟨1,a,(n:Int),c⟩:s6).B=some (List.replicate n 0,0):=by
  unfold AL;rw[za Ξ];show ((mk 8 (n:Int) (0:Int)).bind _)=_;rw[ka Δ Δ,a2D]
 unfold rh;rw[hv,a2D,za Ψ];simp only[jn];rcases MW u hb n c with ⟨h,_⟩ | ⟨_,h,_⟩ | ⟨_,_,h,g⟩ | ⟨_,_,i,hF,g⟩;·exact absurd y h
 .exact absurd k h
 .have z:=q.RW hx h;rw[za z] at hp;rw[yq hp Θ];refine Y6 m.Slots.length (λ_=>True) Δ trivial (λj hj _=>.inl ⟨?_,trivial⟩) (λ_=>⟨.inr (),Ωo,rfl⟩);have f:j<x.S.S.b7.length:=by rw[<-q.ZS hx];exact hj
  have:m.Slots[j]≠0:=λe=>h j f ((q.Pn hx f).1 (by rw[<-q.slg hx hj];exact e));rw[show (mO m).Slots=m.Slots from rfl,zb (Ω hj),u4 hj,a2D,zb (Ω this),p8 (n:=j) Δ]
 .obtain⟨hi,h0,t⟩:=id hF;have A:i<m.Slots.length:=by rw[q.ZS hx];exact hi
  have hn:n<=4:=Δ
  rw[q.fst hx hF,zb A] at hp;rw[zN] at hp;rw[tp hp];have F:=u.cP;have hw:y4 (m.Serial+1)=m.Serial+1:=by rw[q.se];exact Y8 Δ Δ
  obtain⟨σ',S,C⟩:=q.mk' hx hi h0 hn k;have hy:=vN hx hi h0 hn k;have hh:cY x.S i=0\/cY x.S i∈lv (wS x (eh x.S i n c)).S:=.inr (by
   show _∈lv (eh x.S i n c);rw[Ch u hi h0 hn k];exact t6 _ (zu.2 rfl))
  have hz:=bc hy (r:=a.toNat) Δ hh;have S2:=S.K1 (r:=a.toNat) hy.sh hy.fair hh;have nm:=S.Xr hy hh;rw[C,<-q.se] at S2 nm;have R:=He (S.bn hy.sh.sr) (S.bl hy.sh) nm (r:=a.toNat) (by show a.toNat<m.Roots.length;rw[q.r6 hx];omega);have p:=iH hz S2;generalize eW (ab (DI m i n c) a.toNat (m.Serial+1))=MM at p |-;dsimp only;refine Y6 m.Slots.length (λj=>j<=i) Δ (zU _) (λj hj E=>?_) (λE=>Δ);have f:j<x.S.S.b7.length:=by rw[<-q.ZS hx];exact hj
  rw[show (mO m).Slots=m.Slots from rfl,zb (Ω hj),u4 hj,a2D];rcases zI j i with v | v
  .have:m.Slots[j]≠0:=λe=>t j v ((q.Pn hx f).1 (by rw[<-q.slg hx hj];exact e));rw[zb (Ω this),p8 (n:=j) Δ];exact .inl ⟨rfl,v⟩
  .obtain rfl:j=i:=by omega
   have:m.Slots[j]=0:=by rw[q.slg hx hj];exact (q.Pn hx f).2 h0
   right;refine⟨.inl (mO MM,m.Serial+1,0),?_,rfl⟩;rw[za (Ω this),L8 Δ (xd (m:=30) Δ Δ Δ),a2D,u4 hj,a2D,show (mO m).Nodes=m.Nodes.map nO from rfl,L8 Δ (by rw[zf];exact xd (m:=30) Δ Δ Δ),a2D,show (mO m).Serial=m.Serial from rfl,hw,qe Δ (by rw[zf];exact xd (m:=100) Δ Δ Δ),a2D,zN];have w:(a.toNat:Int)=a:=Δ
   rw[w] at R;refine rX (Eq.trans ?_ R) ?_
   .congr 1;unfold mO DI;rw[zV];rfl
   .rw[p,a2D]
end
section
variable{σ:Int->Int}{x:Hp}{m:a8}(hx:M0 x)(q:u7 σ x m)
include hx q
theorem Hf{o:k8}(P:kP σ x m o){W:Option (e6 × Int × Int)}{s:Int}
  (h:W=some (mO (T1 m o).1,s,(T1 m o).2.2)\/((T1 m o).2.2≠0/\∃u,W=some (mO m,u,(T1 m o).2.2)))(hv:(T1 m o).2.2=0->(T1 m o).2.1=s) :
  (W.bind λf=>if (f.2.2 != 0) then some (mO m,0,f.2.2) else (T6 f.1).bind λi=>some (i,f.2.1,0))=some (mO (qA m o).1,(qA m o).2):=by
 rcases P.r with ⟨e,he,hp,_⟩ | ⟨σ',z,mz,v,hp,hz,_,S,_,_,_⟩
 .rw[hp] at h;rw[yq hp he];rcases h with h | ⟨_,u,h⟩
  .rw[h,a2D,zb (Ω he)]
  .rw[h,a2D,zb (Ω he)]
 .rw[hp] at h hv;rcases h with h | ⟨h0,_⟩
  .rw[tp hp,h,a2D,za Ψ];dsimp only;rw[iH hz S,a2D,show v=s from hv rfl]
  .exact absurd rfl h0
theorem Wn(z:SL x)(hz:zr x = [])(hb:x.S.Serial<9223372036854775807){o:k8}(hc:A5 o.Kind o.A o.B o.C=0)(hk:o.Kind<=10):aS (mO m) (Nf o)=some (mO (qA m o).1,(qA m o).2):=by
 have P:=sj hx q z hz hb hc hk;have B:=q.bn hx.sh.sr;have C:=q.bl hx.sh;have r6:=q.r6 hx;obtain⟨k,a,b,c⟩:=o;dsimp only at hc hk;have:=sb hc;have asks:(k=2\/k=3\/k=4\/k=7\/k=9)->(0<=a/\a<=5)->aS (mO m) ⟨k,a,b,c⟩=((wv (mO m) ⟨k,a,b,c⟩).bind λp=>if (p.2 != 0) then some (mO m,0,p.2) else (eT (mO m) a p.1).bind λQ=>(T6 Q).bind λy=>some (y,p.1,0))->aS (mO m) ⟨k,a,b,c⟩=some (mO (qA m ⟨k,a,b,c⟩).1,(qA m ⟨k,a,b,c⟩).2):=λhk ha e=>by
  obtain⟨v,er,K,j,N⟩:=ZC hx q hc hk;rw[e,K,a2D];by_cases g:er=0
  .obtain⟨h,hh,rfl⟩:=N g;rw[za (by simp[g])] at j |-;obtain⟨r,rfl⟩:∃r:Nat,a=r:=⟨a.toNat,Δ⟩;have S:=q.K1 (r:=r) hx.sh hx.fair hh;have w:=bc hx (r:=r) Δ hh;dsimp only;rw[He B C (q.Xr hx hh) Δ,a2D,iH w S,a2D,tp j,zN]
  .rw[zb g] at j;rw[zb (Ω g),yq j g]
 have hk:k=1\/k=2\/k=3\/k=4\/k=5\/k=6\/k=7\/k=8\/k=9\/k=10:=Δ
 rcases hk with rfl | rfl | rfl | rfl | rfl | rfl | rfl | rfl | rfl | rfl
 .show ((rh (mO m) ⟨1,a,b,c⟩).bind λi=>some (i.1,i.2.1,i.2.2))=_;rw[ZB hx q z hb hc];rfl
 .exact asks Ψ (On hc).1 rfl
 .exact asks Ψ (Yg hc) rfl
 .exact asks Ψ (QA hc).1 rfl
 .obtain⟨ha,f,u⟩:=UU hc;have hp:T1 m ⟨5,a,b,c⟩=if J8 m a=0 then (m,0,2) else ua m (J8 m a) b (J8 m c):=rfl
  have e:fJ (mO m) ⟨5,a,b,c⟩=(ix m.Roots a).bind λv3=>if (v3==0) then some (mO m,0,2) else (jA (mO m) c).bind λE=>(iG (mO m) v3 b E).bind λF=>some (F.1,E,F.2):=rfl
  refine (Hf hx q P (s:=J8 m c) (W:=fJ (mO m) ⟨5,a,b,c⟩) ?_ ?_:_)
  .rw[e,oU hx q ha.1 ha.2,a2D];by_cases h0:J8 m a=0
   .right;rw[zb (Ω h0),hp,zb h0];exact⟨show (2:Int)≠0 by decide,0,rfl⟩
   .left;rcases lg hx q (r:=a) Δ with ⟨t,_⟩ | ⟨_,hl,n,hn,hs,hf,_⟩;·exact absurd t h0
    .have hv:=q.Xr hx (dM hx.sh c);rw[<-q.said hx] at hv;rw[za (Ω h0),Ll hx q Δ,a2D,SO hx q hv hn,a2D,hp,za h0]
  .rw[hp];unfold ua;split;·exact λe=>absurd (show (2:Int)=0 from e) Θ
   .split;·exact λe=>absurd (show (2:Int)=0 from e) Θ
    .split;·exact λe=>absurd (show (5:Int)=0 from e) Θ
     .exact λ_=>rfl
 .obtain⟨ha,f,u⟩:=QB hc;have hp:T1 m ⟨6,a,b,c⟩=if 0<=b/\J8 m b=0 then (m,0,2) else if Sh.uM ⟨m.Tasks,30⟩ a=true then (m,0,7) else (JZ m a.toNat (J8 m b) c,J8 m b,0):=rfl
  have e:fJ (mO m) ⟨6,a,b,c⟩=(jA (mO m) b).bind λi=>if ((decide (b>=0))&&(i==0)) then some (mO m,0,2) else (ly (mO m) ⟨6,a,b,c⟩ i).bind λv2=>some (v2.1,i,v2.2):=rfl
  refine (Hf hx q P (s:=J8 m b) (W:=fJ (mO m) ⟨6,a,b,c⟩) ?_ ?_:_)
  .rw[e,Ll hx q Δ,a2D];by_cases g:0<=b/\J8 m b=0
   .right;rw[zb (by simp[g.1,g.2]),hp,zb g];exact⟨show (2:Int)≠0 by decide,0,rfl⟩
   .left;rw[za (Ω g),SP hx q ha,a2D,hp,za g];split <;> rfl
  .rw[hp];split;·exact λe=>absurd (show (2:Int)=0 from e) Θ
   .split;·exact λe=>absurd (show (7:Int)=0 from e) Θ
    .exact λ_=>rfl
 .exact asks Ψ (QC hc).1 rfl
 .obtain⟨ha,f⟩:=UW hc;have hp:T1 m ⟨8,a,b,c⟩=if J8 m a=0 then (m,0,2) else qW m (J8 m a) (J8 m b):=rfl
  have e:fJ (mO m) ⟨8,a,b,c⟩=(ix m.Roots a).bind λv3=>if (v3==0) then some (mO m,0,2) else (jA (mO m) b).bind λG=>(lx (mO m) v3 G).bind λH=>some (H.1,G,H.2):=rfl
  refine (Hf hx q P (s:=J8 m b) (W:=fJ (mO m) ⟨8,a,b,c⟩) ?_ ?_:_)
  .rw[e,oU hx q ha.1 ha.2,a2D];by_cases h0:J8 m a=0
   .right;rw[zb (Ω h0),hp,zb h0];exact⟨show (2:Int)≠0 by decide,0,rfl⟩
   .left;have hv:=q.Xr hx (dM hx.sh b);rw[<-q.said hx] at hv;rw[za (Ω h0),Ll hx q Δ,a2D,SN hx q hv,a2D,hp,za h0]
  .rw[hp];unfold qW;split;·exact λe=>absurd (show (2:Int)=0 from e) Θ
   .split;·exact λe=>absurd (show (8:Int)=0 from e) Θ
    .exact λ_=>rfl
 .exact asks Ψ (QD hc).1 rfl
 .obtain⟨ha,f⟩:=Qz hc;have hp:T1 m ⟨10,a,b,c⟩=(m,if J8 m a=J8 m b then 1 else 0,0):=rfl;show ((ix m.Roots a).bind λv2=>(ix m.Roots b).bind λv3=>if (v2==v3) then some (mO m,1,0) else some (mO m,0,0))=_;rw[oU hx q ha.1 ha.2,a2D,oU hx q f.1 f.2,a2D,tp hp,q.CQ hx hz];by_cases g:J8 m a=J8 m b
  .rw[zb (Ω g),zb g]
  .rw[za (Ω g),za g]
end
def lz(m:a8)(l:List k8):a8:=l.foldl (λm o=>(qA m o).1) m
theorem EW(m:a8)(l:List k8)(o:k8):lz m (l ++ [o])=(qA (lz m l) o).1:=by
 unfold lz;rw[pi];rfl
def Fe(m:a8):a8:=match m.Tasks with
 | []=>m
 | u::us=>if u.Kind=1 then eW (ab (lz (eW (Ap (ab m 5 u.At) us)) (xe m.Progs u.Prog)) 5 0) else lz (Ap m us) (xe m.Progs u.Prog)
section
variable{ps:List (List k8)}{x:Hp}{m:a8}(hx:Oh x)(g:xf ps x m)
include hx g
theorem KM(hb:x.S.Serial<9223372036854775807){o:k8}(hc:A5 o.Kind o.A o.B o.C=0)(hk:o.Kind<=10):aq m o=some ((qA m o).1,⟨(gX x o).2.1,(gX x o).2.2⟩)/\aS (mO m) (Nf o)=some (mO (qA m o).1,(gX x o).2.1,(gX x o).2.2)/\xf ps (gX x o).1 (qA m o).1:=by
 obtain⟨p,i,k⟩:=Vr hx g hb hc hk;obtain⟨⟨σ,q⟩,hp,hu⟩:=g;have e:=RE hx.rt q hx.sl hx.zr hb hc hk;obtain⟨_,j⟩:=q.gX hx.rt hx.sl hx.zr hb hc hk;rw[i] at e;have f:p=(qA m o).1:=zY Prod.fst (zK e);rw[<-f];refine⟨i,?_,k⟩;rw[Wn hx.rt q hx.sl hx.zr hb hc hk,f,j]
theorem Vs{l:List k8}(hl:∀o∈l,A5 o.Kind o.A o.B o.C=0/\o.Kind<=10)(N:l.length<=1000)(hb:x.S.Serial+l.length<9223372036854775807) :
  nv m l=some (lz m l)/\xf ps (runs x l).1 (lz m l)/\∀ {R:Type} {K:e6->Option R},
  (lp (S:=Int × e6) (E:=e6) (λ((i,p):Int × e6)=>
    if (decide (i<((l.map Nf).length:Int))) then
     (ix (l.map Nf) i).bind λw=>
     (aS p w).bind λy=>
     some (.inl (y4 (i+1),y.1))
    else
    some (.inr p)) (0,mO m)).bind K=K (mO (lz m l)):=by
 have all:=JA hx.rt hx.sl hx.zr l hb (λ_=>True) trivial (λ_ _ _ _ _ _=>trivial);have key:∀k,k<=l.length->xf ps (runs x (l.take k)).1 (lz m (l.take k)):=λk=>by
  induction k with
  | zero=>exact λ_=>g
  | succ k ih=>
   intro hk;have j:k<l.length:=Δ
   obtain⟨r,u,v,z,F,_⟩:=all k Δ;obtain⟨hc,f⟩:=hl _ (zl j);rw[dI j,ya,EW];exact (KM ⟨r,u,v⟩ (ih Δ) Δ hc f).2.2
 have one:∀k (hk:k<l.length),aq (lz m (l.take k)) l[k]=some (lz m (l.take (k+1)),⟨(gX (runs x (l.take k)).1 l[k]).2.1,(gX (runs x (l.take k)).1 l[k]).2.2⟩)/\aS (mO (lz m (l.take k))) (Nf l[k])=some (mO (lz m (l.take (k+1))),(gX (runs x (l.take k)).1 l[k]).2.1,(gX (runs x (l.take k)).1 l[k]).2.2):=λk hk=>by
  obtain⟨r,u,v,z,F,_⟩:=all k Δ;obtain⟨hc,f⟩:=hl _ (zl hk);obtain⟨G,H,_⟩:=KM ⟨r,u,v⟩ (key k Δ) Δ hc f;rw[dI hk,EW];exact⟨G,H⟩
 refine⟨?_,by have:=key l.length (zC _);rwa [zL] at this,λ{R} {K}=>?_⟩
 .unfold nv;simp only[jn];refine S9 (T:=a8) l.length (λk t=>t=lz m (l.take k)) Δ rfl (λk t hk e=>.inl ⟨lz m (l.take (k+1)),?_,rfl⟩) (λt e=>⟨t,?_,?_⟩)
  .subst e;dsimp only;rw[zb (Ω hk),u4 hk,a2D,(one k hk).1,a2D,p8 (n:=k) Δ]
  .dsimp only;rw[za Ψ]
  .rw[e,zL]
 .refine U4 (S9 (T:=e6) l.length (λk t=>t=mO (lz m (l.take k))) Δ rfl (λk t hk e=>.inl ⟨mO (lz m (l.take (k+1))),?_,rfl⟩) (λt e=>⟨t,?_,?_⟩))
  .subst e;dsimp only;rw[zb (Ω hk),u4 (Ω hk),a2D,zx,(one k hk).2,a2D,p8 (n:=k) Δ]
  .dsimp only;rw[za Ψ]
  .rw[e,zL]
theorem IE(hg:Pg ps){t:k7}{ts:List k7}(w:x.Q.L=t::ts)(hb:x.S.Serial<8000000000000000000):∃u us,m.Tasks=u::us/\u.Prog=t.Prog/\eN m u=some (Fe m)/\rk (mO m)=some (mO (Fe m))/\xf ps (QP ps x t ts) (Fe m):=by
 obtain⟨⟨σ,q⟩,hp,hu⟩:=g;have hR:=hx.rt.sh.sr;have f:m.Tasks=tx σ t::ts.map (tx σ):=by rw[q.tk,w,zT]
 have hl6:=GO hg.1 t.Prog;have i:(tx σ t).Prog=t.Prog:=by unfold tx;split <;> rfl
 have N:(tx σ t).Kind=t.Kind:=by
  unfold tx;split;·rename_i h;exact h.symm
  .rfl
 have q30:=hx.rt.sh.q30;rw[w,zF] at q30;refine⟨_,_,f,i,?_⟩;have pok:=SA hx w;have pse:=Nj hx w;obtain⟨rok,_,rse⟩:=Nn hx w ps Δ;have hnx:∀M:a8,M.Tasks=tx σ t::ts.map (tx σ)->fN (⟨M.Tasks,30⟩:k9)=some (⟨ts.map (tx σ),30⟩,tx σ t,0):=λM h=>by
  rw[ZY,h];rfl
 have p:Fe m=if (tx σ t).Kind=1 then eW (ab (lz (eW (Ap (ab m 5 (tx σ t).At) (ts.map (tx σ)))) (xe m.Progs (tx σ t).Prog)) 5 0) else lz (Ap m (ts.map (tx σ))) (xe m.Progs (tx σ t).Prog):=by
  unfold Fe;rw[f]
 have hix:ix (mO m).Tasks 0=some (mC (tx σ t)):=by
  show ix (m.Tasks.map mC) 0=_;rw[f];rfl
 have A:∀M:a8,M.Tasks=tx σ t::ts.map (tx σ)->cut (mO M).Tasks 1 ((mO M).Tasks.length:Int)=some ((ts.map (tx σ)).map mC):=λM h=>by
  show cut (M.Tasks.map mC) 1 ((M.Tasks.map mC).length:Int)=_;rw[h];unfold cut;rw[zb Ξ];congr 1;simp[List.take_of_length_le]
 have y:app 24 [] ((ts.map (tx σ)).map mC)=some ((ts.map (tx σ)).map mC):=L8 Δ (by rw[zf,zf];omega);have j:lu (Du m.Progs) (mC (tx σ t)).Prog=some ((xe m.Progs (tx σ t).Prog).map Nf):=Xv _ _;have run:∀M,xf ps (pre x t ts) M->M.Progs=ps->nv M (xe ps t.Prog)=some (lz M (xe ps t.Prog))/\xf ps (ran ps x t ts) (lz M (xe ps t.Prog))/\∀ {R:Type} {K:e6->Option R},
  (lp (S:=Int × e6) (E:=e6) (λ((V,s22):Int × e6)=>
    if (decide (V<(((xe ps t.Prog).map Nf).length:Int))) then
     (ix ((xe ps t.Prog).map Nf) V).bind λv25=>
     (aS s22 v25).bind λv26=>
     some (.inl (y4 (V+1),v26.1))
    else
    some (.inr s22)) (0,mO M)).bind K=K (mO (lz M (xe ps t.Prog))):=λM hM _=>Vs pok hM (hg.xe t.Prog) Δ Δ
 rw[hp,i] at p;rw[hp,i] at j;unfold eN rk;simp only[jn];rw[hix,a2D];by_cases hk:t.Kind=1
 .have v:(tx σ t).Kind=1:=by rw[N];exact hk
  have G:(tx σ t).At=σ t.At:=by unfold tx;rw[zb hk]
  obtain⟨hl,_⟩:=QZ hx.rt w hk;have H:=sa hx.rt w hk;have r6:=q.r6 hx.rt;have kb:((tx σ t).Kind==1)=true:=by simp[v]
  have T:((mC (tx σ t)).Kind==1)=true:=kb;rw[zb v,G] at p;simp only[kb,T,ut];have B:=q.bn hR;have C:=q.bl hx.rt.sh;have nm:=q.Xr hx.rt (.inr hl);have htr:(ab m 5 (σ t.At)).Tasks=tx σ t::ts.map (tx σ):=by
   show (cR m (σ t.At)).Tasks=_;rw[X4];exact f
  have S0:=(q.yi ts).Xx (LD hx.rt w) (r:=5) (h:=t.At) (k:=Cn m (σ t.At)) (.inr hl) λhl' hs=>by
   have:=hx.rt.fair t.At hl hs;rw[H6] at this;rw[q.ny hx.rt.sh hl];exact this
  have S1:u7 σ (K1 (Sh.yi x ts) 5 t.At) (Ap (ab m 5 (σ t.At)) (ts.map (tx σ))):=by
   have e:Ap (ab m 5 (σ t.At)) (ts.map (tx σ))=wRo (if σ t.At≠0/\11<=Cn m (σ t.At) then uD (Ap m (ts.map (tx σ))) (σ t.At) else Ap m (ts.map (tx σ))) (m.Roots.set 5 (σ t.At)):=by
    unfold ab cR;split <;> rfl
   rw[e];exact S0
  have S2:u7 σ (DG x ts t.At) (Ap (ab m 5 (σ t.At)) (ts.map (tx σ))):=S1.TH (gL (x:=Sh.yi x ts) hx.rt.sh.sr 5 t.At).sr t.At;have hu2:Um (Ap (ab m 5 (σ t.At)) (ts.map (tx σ))):=(hu.rot 5 (σ t.At)).of rfl (NS.refl _);have P:(eW (Ap (ab m 5 (σ t.At)) (ts.map (tx σ)))).Progs=ps:=by
   rw[AQ];show (cR m (σ t.At)).Progs=ps;rw[X4];exact hp
  have G1:xf ps (pre x t ts) (eW (Ap (ab m 5 (σ t.At)) (ts.map (tx σ)))):=by
   refine⟨⟨σ,?_⟩,P,hu2.eW⟩;unfold pre;rw[zb hk];exact S2.cy H
  have ms:=nn H S2;have rs:=iH H S2;obtain⟨h1,⟨⟨σ',S3⟩,h3,hu3⟩,h2⟩:=run _ G1 P;have rr:=bc rok.rt (r:=5) Θ (h:=0) (.inl rfl);have S4:=S3.K1 (r:=5) rok.rt.sh rok.rt.fair (.inl rfl);rw[S3.gd.z] at S4;have r6':=S3.r6 rok.rt;have mr:=Cd (S3.bn rok.rt.sh.sr) (S3.bl rok.rt.sh) (.inl rfl) (r:=5) Δ;have rr2:=He (S3.bn rok.rt.sh.sr) (S3.bl rok.rt.sh) (.inl rfl) (r:=5) Δ;have ms4:=nn rr S4;have rs4:=iH rr S4;have fin:xf ps (QP ps x t ts) (eW (ab (lz (eW (Ap (ab m 5 (σ t.At)) (ts.map (tx σ)))) (xe ps t.Prog)) 5 0)):=by
   refine⟨⟨σ',?_⟩,?_,(hu3.rot 5 0).eW⟩;·unfold QP;rw[zb hk];exact S4.cy rr
   .rw[AQ];show (cR _ 0).Progs=ps;rw[X4];exact h3
  rw[p];refine⟨?_,?_,fin⟩
  .rw[G,show Z6 m 5 (σ t.At)=some (ab m 5 (σ t.At)) from Cd B C nm (r:=5) Δ,a2D,Cf,a2D,hnx (ab m 5 (σ t.At)) htr,a2D];dsimp only;rw[show K7 ⟨(ab m 5 (σ t.At)).Nodes,(ab m 5 (σ t.At)).Slots,(ab m 5 (σ t.At)).Gens,(ab m 5 (σ t.At)).Last,(ab m 5 (σ t.At)).Places,(ab m 5 (σ t.At)).Serial,(ab m 5 (σ t.At)).Roots,(ab m 5 (σ t.At)).b7,(ab m 5 (σ t.At)).Pairs,ts.map (tx σ),(ab m 5 (σ t.At)).Progs⟩=_ from ms,a2D,i,KY,a2D,P,h1,a2D,show Z6 _ 5 0=_ from mr,a2D,ms4,a2D]
  .rw[show (mC (tx σ t)).At=σ t.At from G,show eT (mO m) 5 (σ t.At)=some (mO (ab m 5 (σ t.At))) from He B C nm (r:=5) Δ,a2D,A _ htr,a2D,y,a2D];refine rX rs ?_;rw[show (mO m).Progs=Du ps by rw[<-hp];rfl,j,a2D];refine h2.trans ?_;rw[show eT _ 5 0=_ from rr2,a2D,rs4,a2D]
 .have kb:((tx σ t).Kind==1)=false:=by rw[N];simp[hk]
  have T:((mC (tx σ t)).Kind==1)=false:=kb;have v:¬(tx σ t).Kind=1:=by rw[N];exact hk
  rw[za v] at p;simp only[kb,T,zM,pu];have F:pre x t ts=Sh.yi x ts:=by unfold pre;rw[za hk]
  have G1:xf ps (pre x t ts) (Ap m (ts.map (tx σ))):=by
   refine⟨⟨σ,?_⟩,hp,hu.of rfl (NS.refl _)⟩;rw[F];exact q.yi ts
  obtain⟨h1,h3,h2⟩:=run _ G1 hp;have hcr:=Br hx.rt w hk;have hzz:Sh.zr (Sh.yi x ts) = []:=by rw[<-F];exact pok.zr
  have rs:=iH hcr (q.yi ts);rw[(q.yi ts).CQ hcr hzz] at rs;rw[p];refine⟨?_,?_,?_⟩
  .rw[Cf,a2D,hnx m f,a2D,i,hp];dsimp only;rw[KY,a2D];refine rX ?_ rfl;rw[<-h1,<-hp]
  .rw[A _ f,a2D,y,a2D];refine rX rs ?_;rw[show (mO m).Progs=Du ps by rw[<-hp];rfl,j,a2D];exact h2
  .unfold QP;rw[za hk];exact h3
end
def R4:Nat->a8->a8
 | 0,m=>m
 | n+1,m=>Fe (R4 n m)
section
variable{ps:List (List k8)}{x:Hp}{m:a8}(hx:Oh x)(g:xf ps x m)(hg:Pg ps)
include hx g hg
theorem OI{f:Int}(hf:0<=f)(V:f<=1000000)(hb:x.S.Serial<7900000000000000000):∃M,eH m f=some (M,⟨(dn ps (x,f):Int),Yn (dr ps (x,f))⟩)/\nK (mO m) f=some (mO M,⟨(dn ps (x,f):Int),Yn (dr ps (x,f))⟩)/\xf ps (dr ps (x,f)).1 M:=by
 obtain⟨K,N,H⟩:=Vf ps (p:=(x,f)) hf;have all:=Kz ps (p:=(x,f)) hx hf (by show x.S.Serial+f<_;omega);dsimp only at K;have key:∀k,k<=dn ps (x,f)->xf ps (dN ps k (x,f)).1 (R4 k m):=λk=>by
  induction k with
  | zero=>exact λ_=>g
  | succ k ih=>
   intro hk;obtain⟨y,r,v,w⟩:=all k;dsimp only at r v w;obtain⟨t,ts,e,cc⟩:=H k Δ;obtain⟨u,us,hu,A,_,_,T⟩:=IE y (ih Δ) hg e Δ;rw[AF,vZ ps e,zb cc];exact T
 have one:∀k,k<dn ps (x,f)->∃u us,(R4 k m).Tasks=u::us/\yn ps u=yn ps ((dN ps k (x,f)).1.Q.L.headD ⟨0,0,0⟩)/\yn ps u<=(dN ps k (x,f)).2/\(dN ps (k+1) (x,f)).2=(dN ps k (x,f)).2-yn ps u/\eN (R4 k m) u=some (R4 (k+1) m)/\rk (mO (R4 k m))=some (mO (R4 (k+1) m)):=λk hk=>by
  obtain⟨y,r,v,w⟩:=all k;dsimp only at r v w;obtain⟨t,ts,e,cc⟩:=H k hk;obtain⟨u,us,hu,A,P,R,_⟩:=IE y (key k Δ) hg e Δ;have j:yn ps u=yn ps t:=by unfold yn;rw[A]
  refine⟨u,us,hu,by rw[j,e];rfl,by rw[j];exact cc,?_,P,R⟩;rw[AF,vZ ps e,zb cc,j]
 have z:∀k,k<=dn ps (x,f)->(R4 k m).Progs=ps:=λk hk=>(key k hk).2.1;obtain⟨⟨σ,q⟩,hp,_⟩:=key (dn ps (x,f)) (zC _);have hlen:(R4 (dn ps (x,f)) m).Tasks.length=(dN ps (dn ps (x,f)) (x,f)).1.Q.L.length:=by rw[q.tk,zf]
 have stop:((R4 (dn ps (x,f)) m).Tasks = []/\Yn (dr ps (x,f))=0)\/∃u us,(R4 (dn ps (x,f)) m).Tasks=u::us/\¬yn ps u<=(dN ps (dn ps (x,f)) (x,f)).2/\Yn (dr ps (x,f))=12:=by
  cases e:(dN ps (dn ps (x,f)) (x,f)).1.Q.L with
  | nil=>
   left;refine⟨List.length_eq_zero_iff.1 (by rw[hlen,e];rfl),?_⟩;unfold Yn dr;rw[e];rfl
  | cons t ts=>
   right;have hc:¬yn ps t<=(dN ps (dn ps (x,f)) (x,f)).2:=λq=>N ((Qx ps e).2 q);have G:(R4 (dn ps (x,f)) m).Tasks=tx σ t::ts.map (tx σ):=by rw[q.tk,e,zT]
   have F:(tx σ t).Prog=t.Prog:=by unfold tx;split <;> rfl
   have j:yn ps (tx σ t)=yn ps t:=by unfold yn;rw[F]
   refine⟨_,_,G,by rw[j];exact hc,?_⟩;unfold Yn dr;rw[e];rfl
 refine⟨R4 (dn ps (x,f)) m,?_,?_,key _ (zC _)⟩
 .unfold eH;simp only[jn];refine gn (λk=>((dN ps k (x,f)).2,(k:Int),R4 k m)) rfl (dn ps (x,f)) (λ_=>True) Δ trivial (λk hk _=>.inl ⟨?_,trivial⟩) (λ_=>?_)
  .obtain⟨y,r,v,w⟩:=all k;dsimp only at r v w;obtain⟨u,us,hu,_,hc,hd,C,_⟩:=one k hk;have E:=vc ps u;dsimp only;rw[zb (by rw[hu];simp),hu];show ((fm (R4 k m).Progs u).bind _)=_;rw[z k Δ,Mw hg.1,a2D,za Ξ,C,a2D,Y8 Δ Δ,p8,hd]
  .rcases stop with ⟨hnil,i⟩ | ⟨u,us,hu,hc,i⟩
   .refine⟨.inr ((dn ps (x,f):Int),R4 (dn ps (x,f)) m),?_,by rw[i]⟩;dsimp only;rw[za (by rw[hnil];simp)]
   .refine⟨.inl (R4 (dn ps (x,f)) m,⟨(dn ps (x,f):Int),12⟩),?_,by rw[i]⟩;dsimp only;rw[zb (by rw[hu];simp),hu];show ((fm (R4 (dn ps (x,f)) m).Progs u).bind _)=_;rw[hp,Mw hg.1,a2D,zb Ξ]
 .unfold nK;simp only[jn];have hT:∀k,(mO (R4 k m)).Tasks=(R4 k m).Tasks.map mC:=λ_=>rfl;refine gn (λk=>((dN ps k (x,f)).2,(k:Int),mO (R4 k m))) rfl (dn ps (x,f)) (λ_=>True) Δ trivial (λk hk _=>.inl ⟨?_,trivial⟩) (λ_=>?_)
  .obtain⟨y,r,v,w⟩:=all k;dsimp only at r v w;obtain⟨u,us,hu,_,hc,hd,_,C⟩:=one k hk;have E:=vc ps u;dsimp only;rw[hT,hu,zb Ψ];show ((jw (mO (R4 k m)).Progs (mC u)).bind _)=_;rw[show (mO (R4 k m)).Progs=Du ps by rw[<-z k Δ];rfl,show jw (Du ps) (mC u)=_ from QK hg.1 u,a2D,za Ξ,C,a2D,Y8 Δ Δ,p8,hd]
  .rcases stop with ⟨hnil,i⟩ | ⟨u,us,hu,hc,i⟩
   .refine⟨.inr ((dn ps (x,f):Int),mO (R4 (dn ps (x,f)) m)),?_,by rw[i]⟩;dsimp only;rw[hT,hnil,za Ψ]
   .refine⟨.inl (mO (R4 (dn ps (x,f)) m),⟨(dn ps (x,f):Int),12⟩),?_,by rw[i]⟩;dsimp only;rw[hT,hu,zb Ψ];show ((jw (mO (R4 (dn ps (x,f)) m)).Progs (mC u)).bind _)=_;rw[show (mO (R4 (dn ps (x,f)) m)).Progs=Du ps from zY Du hp,show jw (Du ps) (mC u)=_ from QK hg.1 u,a2D,zb Ξ]
end
def xP(m:a8)(L:List Int):List Int:=
 ((m.Nodes.filter λn=>n.Alive&&decide (0<L0 L n.Serial)).map (·.Fields)).flatten++(m.Pairs.filter λp=>decide (0<L0 L p.Key)).map (·.Val)
def FH(L:List Int)(v:Int):List Int:=if L0 L v=0 then L ++ [v] else L
def Lo(m:a8)(L:List Int):List Int:=(xP m L).foldl FH L
def bO(m:a8):Nat->List Int->List Int
 | 0,L=>L
 | n+1,L=>Lo m (bO m n L)
def bj(m:a8):List Int:=m.Roots++gj m++(m.Nodes.filter λn=>n.Alive&&n.Stuck).map (·.Serial)
theorem Qp(L:List Int)(v s:Int):s∈FH L v↔s∈L\/s=v:=by
 unfold FH;split;·rw[zH,zu]
 .rename_i h;have:v∈L:=((lI v L).1 Δ).1;exact⟨.inl,λk=>k.elim id λe=>e▸this⟩
theorem Ib:∀(A L:List Int) (s:Int),s∈A.foldl FH L↔s∈L\/s∈A
 | [],L,s=>by simp
 | a::A,L,s=>by
  rw[ww,Ib A,Qp,zJ];constructor
  .rintro ((h | h) | h);·exact .inl h
   .exact .inr (.inl h)
   .exact .inr (.inr h)
  .rintro (h | h | h);·exact .inl (.inl h)
   .exact .inl (.inr h)
   .exact .inr h
theorem lB(m:a8)(L:List Int)(s:Int):s∈Lo m L↔s∈L\/s∈xP m L:=Ib _ _ _
theorem Ia:∀(A L:List Int),(A.foldl FH L).length<=L.length+A.length
 | [],L=>zC _
 | a::A,L=>by
  rw[ww];refine zQ (Ia A _) ?_;unfold FH;split;·rw[zA,zF];simp;omega
  .rw[zF];omega
theorem wa{m:a8}{L:List Int}{s:Int}:s∈xP m L↔(∃n∈m.Nodes,n.Alive=true/\n.Serial∈L/\n.Serial≠0/\s∈n.Fields)\/∃p∈m.Pairs,p.Key∈L/\p.Key≠0/\s=p.Val:=by
 unfold xP;rw[zH,List.mem_flatten,zn];constructor
 .rintro (⟨l,hl,hs⟩ | ⟨p,hp,rfl⟩)
  .left;obtain⟨n,hn,rfl⟩:=zn.1 hl;obtain⟨f,e⟩:=zj.1 hn;rw[zB,zE,lI] at e;exact⟨n,f,e.1,e.2.1,e.2.2,hs⟩
  .right;obtain⟨f,e⟩:=zj.1 hp;rw[zE,lI] at e;exact⟨p,f,e.1,e.2,rfl⟩
 .rintro (⟨n,f,e,i,j,hs⟩ | ⟨p,f,e,i,rfl⟩)
  .left;exact⟨n.Fields,zn.2 ⟨n,zj.2 ⟨f,by rw[zB,zE,lI];exact⟨e,i,j⟩⟩,rfl⟩,hs⟩
  .right;exact⟨p,zj.2 ⟨f,by rw[zE,lI];exact⟨e,i⟩⟩,rfl⟩
theorem Ja{m:a8}(B:Bn m)(C:Bl m)(L:List Int):(xP m L).length<=126:=by
 have nl:=B.nl;have pa:=C.pa;unfold xP;rw[zA,zf];have e:=Ga (m.Nodes.filter λn=>n.Alive&&decide (0<L0 L n.Serial)) λn hn=>B.fl n (zj.1 hn).1;have f:=zo (λn:b8=>n.Alive&&decide (0<L0 L n.Serial)) m.Nodes;have i:=zo (λp:l5=>decide (0<L0 L p.Key)) m.Pairs;omega
theorem CJ{m:a8}(B:Bn m)(C:Bl m)(L:List Int):∀n,(bO m n L).length<=L.length+126*n
 | 0=>zC _
 | n+1=>by
  have e:=CJ B C L n;have f:(Lo m (bO m n L)).length<=(bO m n L).length+(xP m (bO m n L)).length:=Ia _ _;have i:=Ja B C (bO m n L);show (Lo m (bO m n L)).length<=_;omega
def WY(m:a8)(L:List Int):Prop:=∀s∈xP m L,s≠0->s∈L
theorem RY{m:a8}{L M:List Int}(h:∀s∈L,s≠0->s∈M){s:Int}(k:s∈xP m L):s∈xP m M:=by
 rw[wa] at k |-;rcases k with ⟨n,a,b,c,d,e⟩ | ⟨p,a,b,c,d⟩;·exact .inl ⟨n,a,b,h _ c d,d,e⟩
 .exact .inr ⟨p,a,h _ b c,c,d⟩
theorem WY.rnd{m:a8}{L:List Int}(h:WY m L):WY m (Lo m L):=λs hs h0=>by
 have e:∀s∈Lo m L,s≠0->s∈L:=λs hs h0=>((lB m L s).1 hs).elim id λk=>h s k h0;exact (lB m L s).2 (.inl (h s (RY e hs) h0))
section
variable{σ:Int->Int}{x:Hp}{m:a8}(hx:M0 x)(q:u7 σ x m)
include hx q
theorem u7.JJ{n:b8}(hn:n∈m.Nodes)(h:n.Stuck=true):n.Alive=true:=by
 obtain⟨i,hi,ti,rfl⟩:=(q.nd.mem n).1 hn;rcases ti with t | t
 .exact zG t
 .have hs:=((hx.wk i hi (.inr t)).2 t).2.2;have:12<=(Sh.ce x.S i).Val.Strong:=zbd h;omega
theorem u7.Im{n:b8}(hn:n∈m.Nodes){v:Int}(hv:v∈n.Fields):n.Alive=true:=by
 obtain⟨i,hi,ti,rfl⟩:=(q.nd.mem n).1 hn;rcases ti with t | t
 .exact zG t
 .have hv:v∈((Sh.ce x.S i).Val.Fields).map σ:=hv;rw[((hx.wk i hi (.inr t)).2 t).2.1] at hv;cases hv
theorem Ie{s:Int}:s∈bj m↔s∈PA m:=by
 unfold bj PA;have e:(m.Nodes.filter λn=>n.Alive&&n.Stuck)=m.Nodes.filter (·.Stuck):=zaf λn hn=>by
  cases h:n.Stuck with
  | true=>rw[q.JJ hx hn h];rfl
  | false=>simp
 rw[e,zac]
theorem rp:∀n s,s∈bO m n (bj m)->HN m s
 | 0,s,h=>.base ((Ie hx q).1 h)
 | n+1,s,h=>by
  rcases (lB m _ s).1 h with k | k
  .exact rp n s k
  .rcases wa.1 k with ⟨j,a,b,c,d,e⟩ | ⟨p,a,b,c,rfl⟩;·exact .Xl a (rp n _ c) e
   .exact .Xw a (rp n _ b)
theorem Lp:WY m (bO m 40 (bj m)):=by
 have hcl:∀k n,WY m (bO m n (bj m))->WY m (bO m (n+k) (bj m)):=λk n h=>by
  induction k with
  | zero=>exact h
  | succ k ih=>exact ih.rnd
 have cnt:∀n,WY m (bO m n (bj m))\/n<=((m.Nodes.map (·.Serial)).filter λs=>decide (s∈bO m n (bj m))).length:=λn=>by
  induction n with
  | zero=>exact .inr (zU _)
  | succ n ih=>
   rcases ih with h | h
   .exact .inl h.rnd
   .by_cases c:WY m (bO m n (bj m))
    .exact .inl c.rnd
    .right;obtain⟨s,hs⟩:=Classical.not_forall.1 c;obtain⟨hs,r⟩:=Classical.not_imp.1 hs;obtain⟨h0,i⟩:=Classical.not_imp.1 r;have f:s∈bO m (n+1) (bj m):=(lB m _ s).2 (.inr hs);have hser:=(Np hx q (rp hx q (n+1) s f)).resolve_left h0;have key:∀l:List Int,s∈l->(l.filter λs=>decide (s∈bO m n (bj m))).length+1<=(l.filter λs=>decide (s∈bO m (n+1) (bj m))).length:=λl=>by
      have le:∀l:List Int,(l.filter λs=>decide (s∈bO m n (bj m))).length<=(l.filter λs=>decide (s∈bO m (n+1) (bj m))).length:=λl=>by
       rw[<-zbg,<-zbg];exact List.countP_mono_left λa _ ha=>by
        have ha:a∈bO m n (bj m):=zbd ha;exact zG ((lB m _ a).2 (.inl ha))
      induction l with
      | nil=>exact λh=>(by cases h)
      | cons a l ih=>
       intro h;by_cases e:a=s
       .subst e;rw[mt (Ω i),zaa (Ω f),zF];have:=le l;omega
       .have hl:s∈l:=(zJ.1 h).resolve_left λk=>e k.symm;have:=ih hl;by_cases ha:a∈bO m n (bj m)
        .rw[zaa (Ω ha),zaa (p:=λs=>decide (s∈bO m (n+1) (bj m))) (zG (show a∈bO m (n+1) (bj m) from (lB m _ a).2 (.inl ha))),zF,zF];omega
        .rw[mt (Ω ha)];have:(l.filter λs=>decide (s∈bO m (n+1) (bj m))).length<=((a::l).filter λs=>decide (s∈bO m (n+1) (bj m))).length:=(List.Sublist.filter _ (List.sublist_cons_self a l)).length_le;omega
     have:=key _ hser;omega
 rcases cnt 25 with h | h
 .exact hcl 15 25 h
 .exfalso;have j:=zo (λs=>decide (s∈bO m 25 (bj m))) (m.Nodes.map (·.Serial));rw[zf] at j;have:=(q.bn hx.sh.sr).nl;omega
theorem Ws{s:Int}(h0:s≠0):s∈bO m 40 (bj m)↔HN m s:=by
 refine⟨rp hx q 40 s,λh=>?_⟩;have hc:=Lp hx q;have up:∀n s,s∈bj m->s∈bO m n (bj m):=λn=>by
  induction n with
  | zero=>exact λs h=>h
  | succ n ih=>exact λs h=>(lB m _ s).2 (.inl (ih s h))
 induction h with
 | base h=>exact up 40 _ ((Ie hx q).2 h)
 | Xl hn hr hv ih=>
  have hs:=(q.nd.pos hx.sh.sr hn).1;exact hc _ (wa.2 (.inl ⟨_,hn,q.Im hx hn hv,ih Δ,Δ,hv⟩)) h0
 | @Xw p hp hr ih=>
  obtain⟨k,v,hh,e⟩:=(q.p2 _).1 hp;have hk:=q.gd.ps hx.sh.sr (hx.sh.pr k v hh).1;have f:p.Key≠0:=by rw[e];show σ k≠0;omega
  exact hc _ (wa.2 (.inr ⟨_,hp,ih f,f,rfl⟩)) h0
end
theorem kD{α β R:Type}{l:List α}(F:β->α->β){f:Int × β->Option ((Int × β) ⊕ β)}{b0:β}{K:β->Option R}(P:Nat->β->Prop)(hl:l.length<=1000000)(h0:P 0 b0)
  (h:∀k (hk:k<l.length) b,P k b->f ((k:Int),b)=some (.inl (((k+1:Nat):Int),F b l[k]))/\P (k+1) (F b l[k]))(he:∀b,P l.length b->f ((l.length:Int),b)=some (.inr b)):(lp f (0,b0)).bind K=K (l.foldl F b0):=by
 refine U4 (S9 l.length (λk t=>t=(l.take k).foldl F b0/\P k t) Δ ⟨rfl,h0⟩ (λk t hk e=>.inl ⟨F t l[k],(h k hk t e.2).1,?_,(h k hk t e.2).2⟩) (λt e=>⟨t,he t e.2,?_⟩));·rw[zi hk,pi,<-e.1];rfl
 .rw[e.1,zL]
theorem ni{α β:Type}(p:α->Bool)(g:α->β):∀(l:List α) (b:List β),l.foldl (λb x=>if p x=true then b ++ [g x] else b) b=b++(l.filter p).map g
 | [],b=>by simp
 | a::l,b=>by
  rw[ww,ni p g l];cases h:p a with
  | true=>rw[zb rfl,zaa h];simp
  | false=>rw[za Ψ,mt (by simp[h])]
theorem Iz{α β:Type}(p:α->Bool)(g:α->List β):∀(l:List α) (b:List β),l.foldl (λb x=>if p x=true then b++g x else b) b=b++((l.filter p).map g).flatten
 | [],b=>by simp
 | a::l,b=>by
  rw[ww,Iz p g l];cases h:p a with
  | true=>rw[zb rfl,zaa h];simp
  | false=>rw[za Ψ,mt (by simp[h])]
theorem Wo{m:a8}(B:Bn m)(C:Bl m){L:List Int}(hL:L.length<=10000){R:Type}{K:List Int->Option R} :
  jn (λ(j351:List Int)=>
        jn (λ(F:List Int)=>
         jn (λ(j383:List Int)=>
          K j383) (λQ=>
          (lp (S:=Int × (List Int)) (E:=(List Int)) (λ((i,e):Int × (List Int))=>
           if (decide (i<(F.length:Int))) then
            jn (λ(j394:List Int)=>
             some (.inl (y4 (i+1),j394))) (λy=>
             (ix F i).bind λG=>
             (M8 e G).bind λv396=>
             if (v396==0) then
              (app 8 [] e).bind λv397=>
              (app 8 v397 [G]).bind λv398=>
              y v398
             else
             y e)
           else
           some (.inr e)) (0,L)).bind λT=>
          Q T)) (λP=>
         (lp (S:=Int × (List Int)) (E:=(List Int)) (λ((j,r):Int × (List Int))=>
          if (decide (j<((mO m).Pairs.length:Int))) then
           jn (λ(j408:List Int)=>
            some (.inl (y4 (j+1),j408))) (λz=>
            (ix (mO m).Pairs j).bind λH=>
            (M8 L H.Key).bind λv=>
            if (decide (v > 0)) then
             (app 8 r [H.Val]).bind λv411=>
             z v411
            else
            z r)
          else
          some (.inr r)) (0,j351)).bind λV=>
         P V)) (λN=>
        (lp (S:=Int × (List Int)) (E:=(List Int)) (λ((t,u):Int × (List Int))=>
         if (decide (t<((mO m).Nodes.length:Int))) then
          jn (λ(j421:List Int)=>
           some (.inl (y4 (t+1),j421))) (λA=>
           (ix (mO m).Nodes t).bind λf=>
           (y6 (f.Alive==true) 0 (M8 L f.Serial)).bind λw=>
           if (f.Alive&&(decide (w > 0))) then
            (app 8 u f.Fields).bind λv424=>
            A v424
           else
           A u)
         else
         some (.inr u)) (0,[])).bind λe412=>
        N e412)=K (Lo m L):=by
 have nl:=B.nl;have pa:=C.pa;simp only[jn];refine (kD (l:=m.Nodes) (λb n=>if (n.Alive&&decide (0<L0 L n.Serial))=true then b++n.Fields else b) (λk b=>b.length<=4*k) Δ (zU _) (λk hk b hb=>⟨?_,?_⟩) (λb _=>?_)).trans ?_
 .have hf:=B.fl _ (zl hk);dsimp only;rw[zb Ωs,show (mO m).Nodes=m.Nodes.map nO from rfl,u4 (Ω hk),a2D,zx,p8 (n:=k) Δ];show ((y6 (m.Nodes[k].Alive==true) 0 (M8 L m.Nodes[k].Serial)).bind λw=>if (m.Nodes[k].Alive&&(decide (w > 0))) then (app 8 b m.Nodes[k].Fields).bind _ else _)=_;cases ha:m.Nodes[k].Alive with
  | false=>simp[y6]
  | true=>
   rw[show (true==true)=true from rfl,W4,dq _ _ Δ,a2D,zax,zax];by_cases c:0<L0 L m.Nodes[k].Serial
   .rw[zb (Ω c),zb (Ω c),U5 Δ Δ,a2D]
   .rw[za (Ω c),za (Ω c)]
 .have hf:=B.fl _ (zl hk);split;·rw[zA];omega
  .omega
 .dsimp only;rw[za Ωo]
 rw[Iz,zcm];have h1:=Ga (m.Nodes.filter λn=>n.Alive&&decide (0<L0 L n.Serial)) λn hn=>B.fl n (zj.1 hn).1;have h2:=zo (λn:b8=>n.Alive&&decide (0<L0 L n.Serial)) m.Nodes;have hA:=Ja B C L;have hAe:xP m L=((m.Nodes.filter λn=>n.Alive&&decide (0<L0 L n.Serial)).map (·.Fields)).flatten++(m.Pairs.filter λp=>decide (0<L0 L p.Key)).map (·.Val):=rfl;generalize ((m.Nodes.filter λn=>n.Alive&&decide (0<L0 L n.Serial)).map (·.Fields)).flatten=A1 at hAe h1 |-;refine (kD (l:=m.Pairs) (λb p=>if decide (0<L0 L p.Key)=true then b ++ [p.Val] else b) (λk b=>b.length<=A1.length+k) Δ (zC _) (λk hk b hb=>⟨?_,?_⟩) (λb _=>?_)).trans ?_
 .dsimp only;rw[zb Ωs,show (mO m).Pairs=m.Pairs.map pp from rfl,u4 (Ω hk),a2D,zx,p8 (n:=k) Δ];show ((M8 L m.Pairs[k].Key).bind λv=>if (decide (v > 0)) then (app 8 b [m.Pairs[k].Val]).bind _ else _)=_;rw[dq _ _ Δ,a2D];by_cases c:0<L0 L m.Pairs[k].Key
  .rw[zb (Ω c),zb (Ω c),qe Δ Δ,a2D]
  .rw[za (Ω c),za (Ω c)]
 .split;·rw[zA];simp;omega
  .omega
 .dsimp only;rw[za Ωo]
 rw[ni,<-hAe];refine (kD (l:=xP m L) FH (λk b=>b.length<=L.length+k) Δ (zC _) (λk hk b hb=>⟨?_,?_⟩) (λb _=>?_)).trans rfl
 .dsimp only;rw[zb (Ω hk),u4 hk,a2D,dq _ _ Δ,a2D,p8 (n:=k) Δ];unfold FH;by_cases c:L0 b (xP m L)[k]=0
  .rw[zb (Ω c),zb c,L8 Δ Δ,a2D,qe Δ Δ,a2D]
  .rw[za (Ω c),za c]
 .unfold FH;split;·rw[zA];simp;omega
  .omega
 .dsimp only;rw[za Ψ]
section
variable{σ:Int->Int}{x:Hp}{m:a8}(hx:M0 x)(q:u7 σ x m)
include hx q
theorem Vo:((m.Nodes.filter (·.Alive)).map (·.Serial)).filter (λv=>decide (L0 (bO m 40 (bj m)) v=0))=(cG x).map σ:=by
 have i:=hx.sh.sr;have hser:(m.Nodes.filter (·.Alive)).map (·.Serial)=(lv x.S).map σ:=by
  rw[q.nd.alive i,za5];refine zt λh hh=>?_;exact (q.gd.f h _ (r8 i hh).d).symm
 rw[hser,zco];congr 1;unfold cG fls;refine zaf λd hd=>?_;have h0:σ d≠0:=by have:=q.gd.ps i hd;omega
 show decide (L0 (bO m 40 (bj m)) (σ d)=0)=_;have j:L0 (bO m 40 (bj m)) (σ d)=0↔¬gZ x.S x.T (IH x) d:=by
  rw[<-No hx q hd,<-Ws hx q h0];have:=lI (σ d) (bO m 40 (bj m));constructor
  .intro e k;have:=this.2 ⟨k,h0⟩;omega
  .intro k;rcases zah (L0 (bO m 40 (bj m)) (σ d)) with e | e
   .exact e
   .exact absurd (this.1 e).1 k
 exact zcg.2 j
theorem Pf:jz (mO m)=some ((cG x).map σ):=by
 have i:=hx.sh.sr;have B:=q.bn i;have C:=q.bl hx.sh;have nl:=B.nl;have rl:=C.rl;have tl:=C.tl;have r:(gj m).length<=200:=by
  unfold gj qf;rw[zf];exact zQ (zo ..) tl
 have p:(bj m).length<=300:=by
  unfold bj;rw[zA,zA,zf];have:=zo (λn:b8=>n.Alive&&n.Stuck) m.Nodes;omega
 unfold jz;rw[show (mO m).Roots=m.Roots from rfl,L8 Δ Δ,a2D];simp only[jn];refine (kD (l:=m.Tasks) (λb t=>if (t.Kind==1)=true then b ++ [t.At] else b) (λk b=>b.length<=30+k) Δ rl (λk hk b hb=>⟨?_,?_⟩) (λb _=>?_)).trans ?_
 .dsimp only;rw[zb Ωs,show (mO m).Tasks=m.Tasks.map mC from rfl,u4 (Ω hk),a2D,zx,p8 (n:=k) Δ];show (if (m.Tasks[k].Kind==1)=true then (app 8 b [m.Tasks[k].At]).bind _ else _)=_;split;·rw[qe Δ Δ,a2D]
  .rfl
 .split;·rw[zA];simp;omega
  .omega
 .dsimp only;rw[za Ωo]
 rw[ni,show m.Roots++(m.Tasks.filter λt=>t.Kind==1).map (·.At)=m.Roots++gj m from rfl];refine (kD (l:=m.Nodes) (λb n=>if (n.Alive&&n.Stuck)=true then b ++ [n.Serial] else b) (λk b=>b.length<=230+k) Δ (by rw[zA];omega) (λk hk b hb=>⟨?_,?_⟩) (λb _=>?_)).trans ?_
 .dsimp only;rw[zb Ωs,show (mO m).Nodes=m.Nodes.map nO from rfl,u4 (Ω hk),a2D,zx,p8 (n:=k) Δ];show (if (m.Nodes[k].Alive&&m.Nodes[k].Stuck)=true then (app 8 b [m.Nodes[k].Serial]).bind _ else _)=_;split;·rw[qe Δ Δ,a2D]
  .rfl
 .split;·rw[zA];simp;omega
  .omega
 .dsimp only;rw[za Ωo]
 rw[ni,show m.Roots++gj m++(m.Nodes.filter λn=>n.Alive&&n.Stuck).map (·.Serial)=bj m from rfl];refine (U4 (S9 (T:=List Int) 40 (λk t=>t=bO m k (bj m)) Δ rfl (λk t hk e=>.inl ⟨bO m (k+1) (bj m),?_,rfl⟩) (λt e=>⟨t,?_,zY some e⟩))).trans ?_
 .subst e;have hlen:=CJ B C (bj m) k;dsimp only;rw[zb Ξ];refine (Wo B C (L:=bO m k (bj m)) Δ (R:=(Int × List Int) ⊕ List Int) (K:=λj=>some (Sum.inl (y4 ((k:Int)+1),j)))).trans ?_;rw[p8 (n:=k) Δ];rfl
 .dsimp only;rw[za Ψ]
 have hlen:=CJ B C (bj m) 40;have f:((m.Nodes.filter (·.Alive)).map (·.Serial)).length<=24:=by
  rw[zf];exact zQ (zo ..) nl
 rw[AO B,a2D,<-Vo hx q];generalize (m.Nodes.filter (·.Alive)).map (·.Serial)=V at f |-;refine (kD (l:=V) (λb v=>if decide (L0 (bO m 40 (bj m)) v=0)=true then b ++ [id v] else b) (λk b=>b.length<=k) Δ (zU _) (λk hk b hb=>⟨?_,?_⟩) (λb _=>?_)).trans ?_
 .dsimp only;rw[zb (Ω hk),u4 hk,a2D,dq _ _ Δ,a2D,p8 (n:=k) Δ];by_cases c:L0 (bO m 40 (bj m)) V[k]=0
  .rw[zb (Ω c),zb (Ω c),qe Δ Δ,a2D];rfl
  .rw[za (Ω c),za (Ω c)]
 .split;·rw[zA];simp;omega
  .omega
 .dsimp only;rw[za Ψ]
 rw[ni];simp
end
end Go.Sh
