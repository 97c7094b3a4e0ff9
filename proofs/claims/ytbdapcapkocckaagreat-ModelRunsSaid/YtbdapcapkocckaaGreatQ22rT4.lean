/- A part. -/
import Derived.Test.YtbdapcapkocckaaGreatQ22rT3
set_option linter.unusedVariables false
set_option linter.unusedSimpArgs false
set_option linter.unusedSectionVars false
namespace Go.Sh
theorem Pe{σ:Int->Int}{x:Hp}{m:a8}(hx:M0 x)(R:SL x)(hz:Sh.zr x = [])(q:u7 σ x m):jy (mO m)=some (mO (QJ σ x m),Yf x-((uK x).length:Int)):=by
 have f:=hx.sh.sr;have B:=q.bn f;have C:=q.bl hx.sh;have v:(cG x).length<=24:=zQ (aO (cX hx) (Y5 hx)) (dT (D5.2 f));have hbl:(uK x).length<=24:=zQ (zo ..) v;unfold jy;rw[Pf hx q,a2D];simp only[jn];have cnd:∀k,∀h∈((cG x).take k).filter λh=>due (Sh.ob x.S h),h∈Sh.lv x.S/\due (Sh.ob x.S h)=true:=λk h hh=>by
  obtain⟨a,b⟩:=zj.1 hh;exact⟨Y5 hx _ (zad a),b⟩
 have nodup:∀k,(((cG x).take k).filter λh=>due (Sh.ob x.S h)).Nodup:=λk=>((cX hx).sublist (zcq ..)).filter _;refine (U4 (e:=(((uK x).length:Int),mO (((uK x).map σ).foldl lR m))) (gn (λk=>(((((cG x).take k).filter λh=>due (Sh.ob x.S h)).length:Int),(k:Int),mO (((((cG x).take k).filter λh=>due (Sh.ob x.S h)).map σ).foldl lR m))) rfl (cG x).length (λ_=>True) Δ trivial (λk hk _=>.inl ⟨?_,trivial⟩) (λ_=>⟨(((uK x).length:Int),mO (((uK x).map σ).foldl lR m)),?_,rfl⟩))).trans ?_
 .have hd:=Y5 hx _ (zl hk);obtain⟨hf,_⟩:=q.Ei hx hd;obtain⟨i,hi,T,V⟩:=DQ B hf;have H:=zo (λh=>due (Sh.ob x.S h)) ((cG x).take k);rw[wn] at H;dsimp only;rw[zb (Ω hk),u4 (Ω hk),a2D,zx,V,a2D,show (mO m).Nodes=m.Nodes.map nO from rfl,u4 (Ω hi),a2D,zx,T];have u:ss (nO (Sh.nd σ x.S (F9 (cG x)[k])))=some (due (Sh.ob x.S (cG x)[k])):=by
   have p:=r8 f hd;rw[J2 f p];rfl
  rw[u,a2D,zi hk,zai,zV,pi];cases c:due (Sh.ob x.S (cG x)[k]) with
  | false=>rw[za Ψ,mt Ωx,p8 (n:=k) Δ];simp
  | true=>
   have QL:=u7.quL hx R hz q (nodup k) (cnd k) _ (zC _);rw[zL] at QL;have D:=Ct _ hx R hz (nodup k) (cnd k);have o:=D.rt.sh.sr;have K:(cG x)[k]∈lv ((((cG x).take k).filter λh=>due (Sh.ob x.S h)).foldl kK x).S:=by rw[D.lv];exact hd
   rw[zb rfl,EV (QL.bn o) (QL.bl D.rt.sh) (QL.find o (r8 o K).d),a2D,p8 (n:=k) Δ,zaa Ωx,Y8 Δ Δ];simp
 .dsimp only;rw[za Ψ,zL];rfl
 dsimp only;unfold QJ Yf;by_cases hb:uK x = []
 .have Qb:=q.iU hx (cX hx) (Y5 hx) (BO hx q);have t:=kE hx;have j:DB x=iU x (cG x):=by unfold DB;rw[zb hb]
  have F:(0:Int)∉(cG x).map σ:=λh=>by
   obtain⟨d,hd,e⟩:=zn.1 h;have:=q.gd.ps f (Y5 hx _ hd);omega
  have G:((cG x).map σ).Nodup:=by
   rw[List.Nodup,zbn];refine zbe (λ{a b} ha z h e=>h ?_) (cX hx);exact q.gd.inl f (Y5 hx _ ha) (Y5 hx _ z) e
  have E:∀s∈(cG x).map σ,∃n,m.Nodes.find? (λn=>n.Serial==s)=some n:=λs hs=>by
   obtain⟨d,hd,rfl⟩:=zn.1 hs;exact⟨_,(q.Ei hx (Y5 hx _ hd)).1⟩
  have hgens:∀g∈m.Gens,g<=m.Last:=λg hg=>by
   rw[q.ge] at hg;obtain⟨i,hi,rfl⟩:=zn.1 hg;rw[q.la];exact (f.cell i (za1.1 hi)).2.2.2
  have Q:m.Tasks.length<=100:=by rw[q.tk,zf];have:=hx.sh.q30;omega
  have Qs:=Qb.cy t;have A:=SK B C (by rw[q.la];exact f.l9) hgens Q (S:=(cG x).map σ) (by rw[zf];exact v) G F E;have P:=iH t Qb;have l1:(lv x.S).length<=24:=dT (D5.2 f);have N:(cy (iU x (cG x)))=DB x:=by rw[BN hx,j]
  rw[N] at Qs;have r:SR (DB x).S:=by rw[j];exact t.sh.sr
  have l2:(lv (DB x).S).length<=24:=dT (D5.2 r);have y:=AO (Qs.bn r);rw[Qs.Ly r] at y;have w:=AO B;rw[q.Ly f] at w;rw[zb hb,zb hb,hb];rw[za Ψ,A,a2D,P,a2D,w,a2D,y,a2D,Hv,Hv,Y8 Δ Δ];simp
 .have hpos:0<(uK x).length:=List.length_pos_iff.2 hb;rw[za hb,za hb,zb (Ω hpos),Y8 Δ Δ]
section
variable{ps:List (List k8)}{x:Hp}{m:a8}(hx:Oh x)(g:xf ps x m)(hg:Pg ps)
include hx g hg
theorem Vq(hb:x.S.Serial<7000000000000000000)(row:List Int):∃j,ns m row=some (j,⟨(er ps x row).2.1,(er ps x row).2.2⟩)/\Cy (mO m) row=some (mO j,⟨(er ps x row).2.1,(er ps x row).2.2⟩)/\xf ps (er ps x row).1 j:=by
 have eM:ns m row=if ((Q3 row).2 != 0)=true then some (m,(⟨0,(Q3 row).2⟩:l6)) else if ((Q3 row).1.Kind==11)=true then (bL m).bind λv2=>some (v2.1,v2.2) else if ((Q3 row).1.Kind==12)=true then (eH m (Q3 row).1.A).bind λv3=>some (v3.1,v3.2) else (aq m (Q3 row).1).bind λk=>some (k.1,k.2):=by
  unfold ns;rw[(Io row).1];rfl
 have eR:Cy (mO m) row=if ((Q3 row).2 != 0)=true then some (mO m,(⟨0,(Q3 row).2⟩:w8)) else if ((Q3 row).1.Kind==11)=true then (jy (mO m)).bind λv2=>some (v2.1,(⟨v2.2,0⟩:w8)) else if ((Q3 row).1.Kind==12)=true then (nK (mO m) (Q3 row).1.A).bind λv3=>some (v3.1,v3.2) else (aS (mO m) (Nf (Q3 row).1)).bind λk=>some (k.1,(⟨k.2.1,k.2.2⟩:w8)):=by
  unfold Cy;rw[(Io row).2];rfl
 rw[eM,eR];by_cases h:(Q3 row).2=0
 .have hc:=My h;have he:er ps x row=eo ps x (Q3 row).1:=by unfold er;rw[za (λc=>c h)]
  have hn:¬((Q3 row).2 != 0)=true:=by simp[h]
  rw[za hn,za hn,he];unfold eo;by_cases i:(Q3 row).1.Kind=11
  .have b:((Q3 row).1.Kind==11)=true:=by simpa using i
   rw[zb b,zb b,zb i];obtain⟨⟨σ,q⟩,hp,hu⟩:=g;obtain⟨j,k1,k2,n,o,p⟩:=IU hx.rt hx.sl hx.zr q;rw[k1,a2D,Pe hx.rt hx.sl hx.zr q,a2D,<-p];exact⟨j,rfl,rfl,⟨σ,k2⟩,by rw[n,hp],o hu⟩
  .have b:¬((Q3 row).1.Kind==11)=true:=by simpa using i
   rw[za b,za b,za i];by_cases a:(Q3 row).1.Kind=12
   .have e:((Q3 row).1.Kind==12)=true:=by simpa using a
    rw[zb e,zb e,zb a];rw[a] at hc;have:=Xc hc;obtain⟨j,k1,k2,n⟩:=OI hx g hg (f:=(Q3 row).1.A) Δ Δ Δ;rw[k1,a2D,k2,a2D];exact⟨j,rfl,rfl,n⟩
   .have e:¬((Q3 row).1.Kind==12)=true:=by simpa using a
    rw[za e,za e,za a];have:=sb hc;obtain⟨k1,k2,n⟩:=KM hx g Δ hc Δ;rw[k1,a2D,k2,a2D];exact⟨_,rfl,rfl,n⟩
 .have he:er ps x row=(x,0,(Q3 row).2):=by unfold er;rw[zb h]
  have hn:((Q3 row).2 != 0)=true:=Ω h
  rw[zb hn,zb hn,he];exact⟨m,rfl,rfl,g⟩
end
theorem YX{n last places:Int}{ps:List (List k8)}(hl:ps.length<=12)(hp:∀p∈ps,p.length<=12) :
  (∃e,e≠0/\dA n last places ps=some (Xs,e)/\sq n last places (Du ps)=some (mO Xs,e)) \/
  (∃k p:Nat,Pg ps/\Rs (tE k last p) 0/\dA n last places ps=some (nwM k last p ps,0)/\sq n last places (Du ps)=some (mO (nwM k last p ps),0)/\xf ps (tE k last p) (nwM k last p ps)):=by
 rcases a08 (n:=n) (last:=last) (places:=places) hl (λp h=>zQ (hp p h) Θ) with ⟨e,E,he,b,f,_⟩ | ⟨k,p,rfl,rfl,hk,hg,hr,b,f,G⟩
 .left;rcases RU (n:=n) (last:=last) (places:=places) hl (λp h=>zQ (hp p h) Θ) with ⟨c,f1,f2,_⟩ | ⟨k,p,rfl,rfl,hk,hm,hr,f1,f2⟩
  .rw[b] at f1;obtain rfl:e=c:=zY (λp=>p.2) (zK f1);refine⟨e,he,f,?_⟩;unfold sq;rw[f2,a2D,zb (Ω he)];rfl
  .rw[b] at f1;exact absurd (zY (λp=>p.2) (zK f1)) he
 .right;rcases RU (n:=(k:Int)) (last:=last) (places:=(p:Int)) hl (λp h=>zQ (hp p h) Θ) with ⟨c,f1,f2,f3⟩ | ⟨k',i,_,_,_,_,_,f1,f2⟩
  .rw[b] at f1;have:(0:Int)=c:=zY (λp=>p.2) (zK f1);omega
  .refine⟨k,p,hg,hr,f,?_,G⟩;unfold sq;rw[f2,a2D,za Ψ,ka Δ Δ,a2D,show mk 8 6 (0:Int)=some (List.replicate 6 0) from rfl,a2D];refine rX (a:=(List.replicate 6 (⟨0,false,-1⟩:l4)).map rO) Φ ?_;rfl
theorem a1a:oc Xs=some true/\nZ Xs=some (mO Xs)/\nJ (mO Xs) (mO Xs)=some true:=⟨Φ,Φ,Φ⟩
theorem modelRuns{n last places k:Int}{l:List (List k8)}{rows:List (List Int)}:mX n last places l rows k=some true:=by
 unfold mX;refine a0J λht hl hp hr=>?_;have a:∀p∈l,p.length<=12:=λp q=>by have:=hp p q;omega
 rcases YX (n:=n) (last:=last) (places:=places) (ps:=l) Δ a with ⟨e,he,s,u⟩ | ⟨c,p,hg,j,s,u,G⟩
 .obtain⟨H,K,N⟩:=a1a;rw[s,a2D,Dp Δ a,a2D,u,a2D];dsimp only;rw[zb (by simp[he])];simp only[zZ,W4];rw[H,a2D];simp only[zcp,zZ,W4];rw[K,a2D,N,a2D];rfl
 .have hs:=j.cP;rw[s,a2D,Dp Δ a,a2D,u,a2D];dsimp only;rw[za Ψ];simp only[jn];refine S9 (T:=e6 × a8) rows.length (λi t=>t.1=mO t.2/\xf l (uL l (tE c last p) (rows.take i)).1 t.2) Δ ⟨rfl,G⟩ (λi t hi z=>.inl ?_) (λt z=>⟨.inr (),?_,rfl⟩)
  .obtain⟨E,M⟩:=t;obtain⟨hE,y⟩:=z;dsimp only at hE y;subst hE;obtain⟨w,A⟩:=Yp hg.1 j.oh (rows.take i) (by rw[wn];omega);rw[wn] at A;obtain⟨h,k1,k2,r⟩:=Vq w y hg Δ rows[i];obtain⟨b,P⟩:=Xi hg.1 w Δ rows[i];have v:(uL l (tE c last p) (rows.take (i+1))).1=(er l (uL l (tE c last p) (rows.take i)).1 rows[i]).1:=by
    rw[dI hi,QT]
   generalize uL l (tE c last p) (rows.take i)=Y at *;refine⟨(mO h,h),?_,rfl,by rw[v];exact r⟩;dsimp only;rw[zb (Ω hi),u4 hi,a2D,k1,a2D,k2,a2D];generalize er l Y.1 rows[i]=R at *;have sl:=ZR b r ht;have klv:=r.a0T b;obtain⟨⟨σ,q⟩,f,_⟩:=r;have B:=q.bn b.rt.sh.sr;have C:=q.bl b.rt.sh;have hm:=YT B C (by rw[f];omega) (by rw[f];exact a);have o:=AO B;rw[q.Ly b.rt.sh.sr] at o;have F:=WC b.rt.sh.sr;rw[sl,a2D];simp only[za2,zZ,W4];rw[hm,a2D,ZL B C,a2D];simp only[za2,zcb,zcp,zZ,W4];rw[Gx B C,a2D,Hd B C,a2D];simp only[za2,zcb,zbm,zZ,W4];rw[klv,a2D,o,a2D,nk Δ,a2D];simp only[za2,zcb,zM,pu];rw[p8 (n:=i) Δ]
  .dsimp only;rw[za Ψ]
end Go.Sh
