/-
 More of the theory.
-/
import Derived.Test.YtlkcpapbolbjnaaGreatO19aT
set_option linter.unusedVariables false
set_option linter.unusedSimpArgs false
set_option linter.unusedSectionVars false
namespace Go.Sh
abbrev tz:task_Task:=⟨0,0,0⟩
abbrev cz0:weak_Cell:=⟨0,false,0⟩
theorem D8{α:Type}{l:List α}{i:Nat}(h:i<l.length)(d:α):l.getD i d=l[i]:=by
 rw[List.getD_eq_getElem?_getD,List.getElem?_eq_getElem h]
 rfl
theorem c3J{q:TQ}{w:Int}:wts q w=true↔∃t∈q.L,t.Kind=2∧t.At=w:=by
 unfold wts
 rw[List.any_eq_true]
 simp
def TkP(x:Hp)(t:task_Task):Prop:=0≤t.Prog∧t.Prog≤5∧((t.Kind=1∧t.At∈lv x.S∧(ob x.S t.At).Started=true)∨(t.Kind=2∧0≤t.At∧t.At≤5))
def TkS(a b:task_Task):Prop:=a.Kind=b.Kind∧a.At=b.At
instance(a b:task_Task):Decidable (TkS a b):=by unfold TkS;infer_instance
section
variable{x:Hp}(hR:SR x.S)
include hR
theorem c5p(hq:x.Q.L.length≤1000)(hB:∀t∈x.Q.L,t.At≤9223372036854775807):∃b,a7P (hO x)=some b∧(b=true↔((∀t∈x.Q.L,TkP x t)∧x.Q.L.Pairwise (λa b=>¬TkS a b)∧x.Q.Cap=30∧x.Q.L.length≤30)):=by
 have hlen:(hO x).Q.L.length=x.Q.L.length:=by simp[hO,tqR]
 unfold a7P
 simp only[jn]
 rw[hlen]
 refine b6N x.Q.L.length (λi=>TkP x (x.Q.L.getD i tz)∧∀k,k<i→¬TkS (x.Q.L.getD k tz) (x.Q.L.getD i tz)) (by omega) (λi hi=>?_) (by simp) (λhall=>?_) (λhno=>?_)
 ·have hi':i<(hO x).Q.L.length:=by rw[hlen];exact hi
  have hg:(hO x).Q.L[i]=⟨(x.Q.L.getD i tz).Kind,(x.Q.L.getD i tz).At,(x.Q.L.getD i tz).Prog⟩:=by
   rw[D8 hi]
   simp[hO,tqR,tkR]
  have hat:=hB _ (List.getElem_mem hi)
  rw[←D8 hi tz] at hat
  simp only[Int.ofNat_lt,hi,decide_true,if_true,l5 hi',d0Y,hg]
  generalize ht:x.Q.L.getD i tz=t at hat
  by_cases c1:((((t.Kind != 1)&&(t.Kind != 2))||(decide (t.Prog<0)))||(decide (t.Prog > 5)))=true
  ·rw[if_pos c1]
   refine⟨_,rfl,.inr ⟨λq=>?_,rfl⟩⟩
   obtain⟨⟨q1,q2,q3⟩,_⟩:=q
   simp only[Bool.or_eq_true,Bool.and_eq_true,bne_iff_ne,ne_eq,decide_eq_true_eq] at c1
   rcases q3 with q3 | q3 <;> omega
  ·rw[if_neg c1]
   have c1':(t.Kind=1∨t.Kind=2)∧0≤t.Prog∧t.Prog≤5:=by
    simp only[Bool.or_eq_true,Bool.and_eq_true,bne_iff_ne,ne_eq,decide_eq_true_eq] at c1
    omega
   refine b6N i (λk=>¬TkS (x.Q.L.getD k tz) t) (by omega) (λk hk=>?_) (by simp) (λhall=>?_) (λhno=>?_)
   ·have hk1:k<x.Q.L.length:=by omega
    have hk':k<(hO x).Q.L.length:=by rw[hlen];exact hk1
    have hgk:(hO x).Q.L[k]=⟨(x.Q.L.getD k tz).Kind,(x.Q.L.getD k tz).At,(x.Q.L.getD k tz).Prog⟩:=by
     rw[D8 hk1]
     simp[hO,tqR,tkR]
    simp only[Int.ofNat_lt,hk,decide_true,if_true,l5 hk',d0Y,hgk]
    by_cases c:TkS (x.Q.L.getD k tz) t
    ·rw[if_pos (by simpa[TkS] using c)]
     exact⟨_,rfl,.inr ⟨λq=>q c,rfl⟩⟩
    ·rw[if_neg (by simpa[TkS] using c),c8]
     exact⟨_,rfl,.inl ⟨c,rfl⟩⟩
   ·dsimp only
    obtain⟨e,h1,h2⟩:=Q8 (p6.2 hR) hat
    rw[show (hO x).S=sO x.S from rfl,a6H x.S (by have:=hR.len;omega) hat,h1,Option.map_some,d0Y]
    by_cases c2:TkP x t
    ·rw[if_neg,c8]
     ·exact⟨_,rfl,.inl ⟨⟨c2,hall⟩,rfl⟩⟩
     ·obtain⟨_,_,q | q⟩:=c2
      ·have:=h2.2 q.2.1
       simp[q.1,this,oo,q.2.2]
      ·simp[q.1]
       omega
    ·rw[if_pos]
     ·exact⟨_,rfl,.inr ⟨λq=>c2 q.1,rfl⟩⟩
     ·simp only[Bool.or_eq_true,Bool.and_eq_true,beq_iff_eq,bne_iff_ne,ne_eq,Bool.not_eq_true',decide_eq_true_eq,oo]
      rcases c1'.1 with k1 | k2
      ·left
       refine⟨k1,Classical.byContradiction λq=>c2 ⟨c1'.2.1,c1'.2.2,.inl ⟨k1,?_,?_⟩⟩⟩
       ·exact h2.1 (Classical.byContradiction λq2=>q (.inl q2))
       ·cases hst:(ob x.S t.At).Started
        ·exact absurd (.inr hst) q
        ·rfl
      ·right
       refine⟨k2,?_⟩
       have:¬(0≤t.At∧t.At≤5):=λq=>c2 ⟨c1'.2.1,c1'.2.2,.inr ⟨k2,q.1,q.2⟩⟩
       omega
   ·exact⟨_,rfl,.inr ⟨λq=>hno q.2,rfl⟩⟩
 ·refine⟨_,rfl,?_⟩
  rw[Bool.and_eq_true,beq_iff_eq,decide_eq_true_iff]
  constructor
  ·rintro⟨a,b⟩
   refine⟨λt ht=>?_,?_,a,by first | exact_mod_cast b | (simp[hO,tqR] at b;omega)⟩
   ·obtain⟨i,hi,rfl⟩:=List.getElem_of_mem ht
    have:=(hall i hi).1
    rwa [D8 hi] at this
   ·rw[List.pairwise_iff_getElem]
    intro i j hi hj hij
    have:=(hall j hj).2 i hij
    rwa [D8 hi,D8 hj] at this
  ·rintro⟨_,_,a,b⟩
   exact⟨a,by first | exact_mod_cast b | (simp[hO,tqR];omega)⟩
 ·refine⟨false,rfl,?_⟩
  simp only[Bool.false_eq_true,false_iff]
  rintro⟨a,b,_⟩
  refine hno λi hi=>⟨?_,λk hk=>?_⟩
  ·rw[D8 hi]
   exact a _ (List.getElem_mem hi)
  ·have hk1:k<x.Q.L.length:=by omega
   rw[D8 hi,D8 hk1]
   exact List.pairwise_iff_getElem.1 b k i hk1 hi hk
theorem c4K(hT:HR x.T)(hB:HB x)(hr:x.Roots.length≤1000):∃b,a7O (hO x)=some b∧(b=true↔((∀h∈x.Roots,h=0∨h∈lv x.S)∧(∀h∈lv x.S,∀v∈(ob x.S h).Fields,v=0∨v∈lv x.S)∧∀k v,Has x.T k v→k∈lv x.S∧v∈lv x.S)):=by
 have hlen:(hO x).Roots.length=x.Roots.length:=rfl
 have h24:=D2 (p6.2 hR)
 unfold a7O
 simp only[jn]
 refine b6N x.Roots.length (λi=>x.Roots.getD i 0=0∨x.Roots.getD i 0∈lv x.S) (by omega) (λi hi=>?_) (by simp[hlen]) (λhall=>?_) (λhno=>?_)
 ·have hb:=hB.rb _ (List.getElem_mem hi)
  rw[hlen]
  simp only[Int.ofNat_lt,hi,decide_true,if_true]
  rw[show (hO x).Roots=x.Roots from rfl,l5 hi,d0Y,b9S hR hb,d0Y,D8 hi]
  by_cases c:x.Roots[i]=0∨x.Roots[i]∈lv x.S
  ·rw[decide_eq_true c,if_neg (by simp),c8]
   exact⟨_,rfl,.inl ⟨c,rfl⟩⟩
  ·rw[decide_eq_false c,if_pos (by simp)]
   exact⟨_,rfl,.inr ⟨c,rfl⟩⟩
 ·dsimp only
  have hall':∀h∈x.Roots,h=0∨h∈lv x.S:=λh hh=>by
   obtain⟨i,hi,rfl⟩:=List.getElem_of_mem hh
   have:=hall i hi
   rwa [D8 hi] at this
  rw[show (hO x).S=sO x.S from rfl,a1t (p6.2 hR),d0Y]
  refine b6N (lv x.S).length (λi=>∀v∈(ob x.S ((lv x.S).getD i 0)).Fields,v=0∨v∈lv x.S) (by omega) (λi hi=>?_) (by simp) (λhall2=>?_) (λhno=>?_)
  ·have hm:=List.getElem_mem hi
   have hle:=b7h (p6.2 hR) hi
   have hfl:=(L7 hR hm).fl
   simp only[Int.ofNat_lt,hi,decide_true,if_true]
   rw[l5 hi,d0Y,a6H x.S (by have:=hR.len;omega) hle,b0T (p6.2 hR) hm,Option.map_some,d0Y,D8 hi]
   have hff:(oo (ob x.S (lv x.S)[i])).Fields=(ob x.S (lv x.S)[i]).Fields:=rfl
   dsimp only
   rw[hff]
   refine b6N (ob x.S (lv x.S)[i]).Fields.length (λk=>(ob x.S (lv x.S)[i]).Fields.getD k 0=0∨(ob x.S (lv x.S)[i]).Fields.getD k 0∈lv x.S) (by omega) (λk hk=>?_) (by simp) (λhall3=>?_) (λhno=>?_)
   ·have hp:=A9 hR hm
    have hb:(ob x.S (lv x.S)[i]).Fields[k]≤9223372036854775807:=by
     have e:=a1d hR hp
     exact c5L.1 hB.fb _ hp.1 _ (by rw[←e];exact List.getElem_mem hk)
    simp only[Int.ofNat_lt,hk,decide_true,if_true]
    rw[l5 hk,d0Y,b9S hR hb,d0Y,D8 hk]
    by_cases c:(ob x.S (lv x.S)[i]).Fields[k]=0∨(ob x.S (lv x.S)[i]).Fields[k]∈lv x.S
    ·rw[decide_eq_true c,if_neg (by simp),c8]
     exact⟨_,rfl,.inl ⟨c,rfl⟩⟩
    ·rw[decide_eq_false c,if_pos (by simp)]
     exact⟨_,rfl,.inr ⟨c,rfl⟩⟩
   ·dsimp only
    rw[c8]
    refine⟨_,rfl,.inl ⟨λv hv=>?_,rfl⟩⟩
    obtain⟨k,hk,rfl⟩:=List.getElem_of_mem hv
    have:=hall3 k hk
    rwa [D8 hk] at this
   ·refine⟨_,rfl,.inr ⟨λq=>hno λk hk=>?_,rfl⟩⟩
    rw[D8 hk]
    exact q _ (List.getElem_mem hk)
  ·dsimp only
   have hall2':∀h∈lv x.S,∀v∈(ob x.S h).Fields,v=0∨v∈lv x.S:=λh hh=>by
    obtain⟨i,hi,rfl⟩:=List.getElem_of_mem hh
    have:=hall2 i hi
    rwa [D8 hi] at this
   have h8:=a2p hT.l8
   rw[show (hO x).T=x.T.map L6 from rfl,b08 hT,d0Y,List.length_map]
   refine b6N (U0 x.T).length (λi=>((U0 x.T).getD i ⟨0,0⟩).Key∈lv x.S∧((U0 x.T).getD i ⟨0,0⟩).Val∈lv x.S) (by omega) (λi hi=>?_) (by simp) (λhall3=>?_) (λhno=>?_)
   ·have hi':i<((U0 x.T).map pp).length:=by simpa using hi
    have hb:=hB.tb.has (a0b.1 (List.getElem_mem hi))
    simp only[Int.ofNat_lt,hi,decide_true,if_true]
    rw[l5 hi',d0Y,List.getElem_map,a7F hR hb.1,d0Y,D8 hi]
    by_cases c:(U0 x.T)[i].Key∈lv x.S
    ·rw[decide_eq_true c]
     simp only[Bool.not_true,beq_self_eq_true,D1,Bool.false_or]
     rw[a7F hR hb.2,d0Y]
     by_cases c2:(U0 x.T)[i].Val∈lv x.S
     ·rw[decide_eq_true c2,if_neg (by simp),c8]
      exact⟨_,rfl,.inl ⟨⟨c,c2⟩,rfl⟩⟩
     ·rw[decide_eq_false c2,if_pos (by simp)]
      exact⟨_,rfl,.inr ⟨λq=>c2 q.2,rfl⟩⟩
    ·rw[decide_eq_false c]
     simp only[Bool.not_false,show ((true==false):Bool)=false from rfl,a58,d0Y,Bool.true_or,if_true]
     exact⟨_,rfl,.inr ⟨λq=>c q.1,rfl⟩⟩
   ·refine⟨true,rfl,?_⟩
    simp only[true_iff]
    refine⟨hall',hall2',λk v hkv=>?_⟩
    obtain⟨i,hi,e⟩:=List.getElem_of_mem (a0b (p:=⟨k,v⟩).2 hkv)
    have:=hall3 i hi
    rw[D8 hi,e] at this
    exact this
   ·refine⟨false,rfl,?_⟩
    simp only[Bool.false_eq_true,false_iff]
    rintro⟨_,_,q⟩
    refine hno λi hi=>?_
    rw[D8 hi]
    exact q _ _ (a0b.1 (List.getElem_mem hi))
  ·refine⟨false,rfl,?_⟩
   simp only[Bool.false_eq_true,false_iff]
   rintro⟨_,q,_⟩
   refine hno λi hi=>?_
   rw[D8 hi]
   exact q _ (List.getElem_mem hi)
 ·refine⟨false,rfl,?_⟩
  simp only[Bool.false_eq_true,false_iff]
  rintro⟨q,_⟩
  refine hno λi hi=>?_
  rw[D8 hi]
  exact q _ (List.getElem_mem hi)
def ClP(x:Hp)(i:Nat)(c:weak_Cell):Prop:=-1≤c.Call∧c.Call≤5∧(c.Target=0→c.Intact=false)∧(c.Target≠0→∃p,AtD x.S c.Target p)∧(c.Intact=true→c.Target∈lv x.S∧wts x.Q i=false)
theorem c35(hl:x.Cells.length≤1000)(hq:x.Q.L.length≤1000)(hB:∀c∈x.Cells,c.Target≤9223372036854775807):∃b,a7N (hO x)=some b∧(b=true↔∀i (hi:i<x.Cells.length),ClP x i x.Cells[i]):=by
 have hlen:(hO x).Cells.length=x.Cells.length:=by simp[hO]
 unfold a7N
 simp only[jn]
 rw[hlen]
 refine b6N x.Cells.length (λi=>ClP x i (x.Cells.getD i cz0)) (by omega) (λi hi=>?_) (by simp) (λhall=>⟨true,rfl,?_⟩) (λhno=>⟨false,rfl,?_⟩)
 ·have hi':i<(hO x).Cells.length:=by rw[hlen];exact hi
  have hg:(hO x).Cells[i]=⟨(x.Cells.getD i cz0).Target,(x.Cells.getD i cz0).Intact,(x.Cells.getD i cz0).Call⟩:=by
   rw[D8 hi]
   simp[hO,wcR]
  have hb:=hB _ (List.getElem_mem hi)
  rw[←D8 hi cz0] at hb
  simp only[Int.ofNat_lt,hi,decide_true,if_true,l5 hi',d0Y,hg]
  generalize x.Cells.getD i cz0=c at hb
  rw[show (hO x).S=sO x.S from rfl,a5A _ (by rw[C4];have:=hR.len;omega),d0Y]
  rw[b0M x.S hb]
  obtain⟨z,z1,z2⟩:∃z,p7 x.S.S c.Target=some z∧(z.2=0↔∃p,AtD x.S c.Target p):=by
   by_cases q:∃p,AtD x.S c.Target p
   ·obtain⟨p,hp⟩:=q
    exact⟨_,a7x hR hp,by simp;exact⟨p,hp⟩⟩
   ·refine⟨_,b2s hR hb (λp hp=>q ⟨p,hp⟩),?_⟩
    simp only[q,iff_false]
    exact a4q _
  rw[z1,d0Y]
  by_cases c1:((((decide (c.Call<(-1)))||(decide (c.Call > 5)))||((c.Target==0)&&c.Intact))||((c.Target != 0)&&(z.2 != 0)))=true
  ·rw[c1]
   simp only[show ((true==false):Bool)=false from rfl,Bool.false_and,a58,d0Y,Bool.true_or,if_true]
   refine⟨_,rfl,.inr ⟨λq=>?_,rfl⟩⟩
   obtain⟨q1,q2,q3,q4,q5⟩:=q
   simp only[Bool.or_eq_true,Bool.and_eq_true,decide_eq_true_eq,beq_iff_eq,bne_iff_ne,ne_eq] at c1
   rcases c1 with ((c1 | c1) | c1) | c1
   ·omega
   ·omega
   ·have:=q3 c1.1
    rw[this] at c1
    exact absurd c1.2 (by decide)
   ·exact c1.2 (z2.2 (q4 c1.1))
  ·have c1:((((decide (c.Call<(-1)))||(decide (c.Call > 5)))||((c.Target==0)&&c.Intact))||((c.Target != 0)&&(z.2 != 0)))=false:=by simpa using c1
   have c1' : -1≤c.Call∧c.Call≤5∧(c.Target=0→c.Intact=false)∧(c.Target≠0→∃p,AtD x.S c.Target p):=by
    simp only[Bool.or_eq_false_iff,Bool.and_eq_false_iff,decide_eq_false_iff_not,beq_eq_false_iff_ne,ne_eq,bne_eq_false_iff_eq] at c1
    refine⟨by omega,by omega,λq=>c1.1.2.resolve_left (λq2=>q2 q),λq=>z2.1 (c1.2.resolve_left q)⟩
   rw[c1]
   simp only[beq_self_eq_true,Bool.true_and,Bool.false_or]
   cases hin:c.Intact
   ·simp only[show ((false==true):Bool)=false from rfl,a58,d0Y,Bool.false_and,Bool.false_eq_true,if_false]
    rw[c8]
    exact⟨_,rfl,.inl ⟨⟨c1'.1,c1'.2.1,λ_=>hin,c1'.2.2.2,λq=>by rw[hin] at q;cases q⟩,rfl⟩⟩
   ·simp only[beq_self_eq_true,D1,Bool.true_and]
    rw[a7F hR hb,d0Y]
    by_cases c2:c.Target∈lv x.S
    ·rw[decide_eq_true c2]
     simp only[Bool.not_true,beq_self_eq_true,D1,Bool.false_or]
     rw[show a4O (hO x).Q i=some (wts x.Q i) from c5e hq,d0Y]
     cases hwt:wts x.Q i
     ·rw[if_neg (by decide),c8]
      exact⟨_,rfl,.inl ⟨⟨c1'.1,c1'.2.1,c1'.2.2.1,c1'.2.2.2,λ_=>⟨c2,hwt⟩⟩,rfl⟩⟩
     ·rw[if_pos rfl]
      refine⟨_,rfl,.inr ⟨λq=>?_,rfl⟩⟩
      have:=(q.2.2.2.2 hin).2
      rw[hwt] at this
      cases this
    ·rw[decide_eq_false c2]
     simp only[Bool.not_false,show ((true==false):Bool)=false from rfl,a58,d0Y,Bool.true_or,if_true]
     exact⟨_,rfl,.inr ⟨λq=>c2 (q.2.2.2.2 hin).1,rfl⟩⟩
 ·simp only[true_iff]
  intro i hi
  have:=hall i hi
  rwa [D8 hi] at this
 ·simp only[Bool.false_eq_true,false_iff]
  intro q
  refine hno λi hi=>?_
  rw[D8 hi]
  exact q i hi
omit hR in
theorem c2N (l:List weak_Cell) (hl:l.length≤1000) (h:Int):a5F (l.map wcR) h=some (nmg l h:Int):=by
 unfold a5F
 simp only[jn]
 rw[List.length_map,b0R l (λ(b:Int) c=>if ((h != 0)&&(c.Target==h))=true then b+1 else b) id (λk b=>0≤b∧b≤k) (by omega) (by omega) (λk hk b hI=>?_) (λb _=>by simp),d0Y]
 ·congr 1
  have:∀(l:List weak_Cell) (n:Int),l.foldl (λ(b:Int) c=>if ((h != 0)&&(c.Target==h))=true then b+1 else b) n=n+(nmg l h:Int):=λl=>by
   induction l with
   | nil=>intro n;simp[nmg]
   | cons c l ih=>
    intro n
    rw[List.foldl_cons,ih]
    unfold nmg
    rw[List.countP_cons]
    split <;> simp_all <;> omega
  rw[id,this]
  omega
 ·have hk':k<(l.map wcR).length:=by simpa using hk
  simp only[Int.ofNat_lt,hk,decide_true,if_true,l5 hk',d0Y,List.getElem_map,wcR]
  by_cases c:((h != 0)&&(l[k].Target==h))=true
  ·rw[if_pos c,if_pos (by rw[Bool.and_comm];exact c),G7 (by omega) (by omega),c8]
   exact⟨rfl,by omega⟩
  ·rw[if_neg c,if_neg (by rw[Bool.and_comm];exact c),c8]
   exact⟨rfl,by omega⟩
omit hR in
theorem c01 (l:List weak_Cell) (hl:l.length≤1000) (h:Int):a2f l h=some (nmg l h:Int):=by
 unfold a2f L5 a1W
 simp only[jn,d0Y]
 have key:∃e,lp (S:=Int × (List Int)) (E:=(List Int)) (λ((s17,s18):Int × (List Int))=>
   if (decide (s17<(l.length:Int))) then
     (ix l s17).bind λv26=>
     if ((h != 0)&&(v26.Target==h)) then
      (app 8 s18 [s17]).bind λv28=>
      some (.inl (s7 (s17+1),v28))
     else
     some (.inl (s7 (s17+1),s18))
   else
   some (.inr s18)) (0,[])=some e∧e.length=nmg l h:=by
  refine a0m l.length (λk (acc:List Int)=>acc.length=nmg (l.take k) h) (λ(e:List Int)=>e.length=nmg l h) (by omega) rfl (λk acc hk hP=>?_) (λacc hP=>⟨acc,by simp,by rwa [List.take_length] at hP⟩)
  left
  have hle:acc.length≤k:=by
   rw[hP]
   exact Nat.le_trans (c60 _ _) (by simp;omega)
  have hst:nmg (l.take (k+1)) h=nmg (l.take k) h+if ((h != 0)&&(l[k].Target==h))=true then 1 else 0:=by
   unfold nmg
   rw[List.take_succ_eq_append_getElem hk,List.countP_append,List.countP_cons,List.countP_nil]
   omega
  simp only[Int.ofNat_lt,hk,decide_true,if_true,l5 hk,d0Y]
  rw[c8]
  by_cases c:((h != 0)&&(l[k].Target==h))=true
  ·rw[if_pos c,u7 (by omega) (by simp;omega),d0Y]
   exact⟨_,rfl,by rw[hst,if_pos c];simp[hP]⟩
  ·rw[if_neg c]
   exact⟨_,rfl,by rw[hst,if_neg c];simpa using hP⟩
 obtain⟨e,e1,e2⟩:=key
 rw[show lp _ _=_ from e1,d0Y,d0Y,e2]
omit hR in
theorem c6U {s:store_Store} {i:Nat} (hi:i<s.S.Cells.length):ix (sO s).Cells (i:Int)=some ⟨(ce s i).State,(ce s i).Gen,⟨(ce s i).Val.Serial,(ce s i).Val.Strong,(ce s i).Val.Weak,(ce s i).Val.Prog,(ce s i).Val.Started,(ce s i).Val.Fields⟩⟩:=c8k hi
theorem c5t(hl:x.Cells.length≤1000):∃b,a7Q (hO x)=some b∧(b=true↔Wk x):=by
 have hlen:(hO x).S.Cells.length=x.S.S.Cells.length:=by simp[hO,sO]
 have h24:=hR.len
 have l9:=hR.l9
 unfold a7Q
 simp only[jn]
 rw[hlen]
 refine b6N x.S.S.Cells.length (λi=>Th (ce x.S i)→(ce x.S i).Val.Weak=(nmg x.Cells (1+(i:Int)+32*(ce x.S i).Gen):Int)∧((ce x.S i).State=2→1≤(ce x.S i).Val.Weak∧(ce x.S i).Val.Fields = []∧(ce x.S i).Val.Strong=0)) (by omega) (λi hi=>?_) (by simp) (λhall=>⟨true,rfl,by simp only[true_iff];exact λi hi=>hall i hi⟩) (λhno=>⟨false,rfl,by simp only[Bool.false_eq_true,false_iff];exact λq=>hno λi hi=>q i hi⟩)
 have hc:=hR.cell i hi
 simp only[Int.ofNat_lt,hi,decide_true,if_true]
 rw[show (hO x).S=sO x.S from rfl,c6U hi,d0Y]
 dsimp only
 by_cases ht:Th (ce x.S i)
 ·rw[if_neg (by unfold Th at ht;simp only[Bool.and_eq_true,bne_iff_ne,ne_eq];omega)]
  unfold a8Y
  rw[a6W,if_pos ⟨by omega,by omega,hc.2.2.1,by omega⟩,d0Y,d0Y,show (hO x).Cells=x.Cells.map wcR from rfl,c2N x.Cells hl,d0Y]
  by_cases g:(ce x.S i).Val.Weak=(nmg x.Cells (1+(i:Int)+32*(ce x.S i).Gen):Int)∧((ce x.S i).State=2→1≤(ce x.S i).Val.Weak∧(ce x.S i).Val.Fields = []∧(ce x.S i).Val.Strong=0)
  ·rw[if_neg,c8]
   ·exact⟨_,rfl,.inl ⟨λ_=>g,rfl⟩⟩
   ·obtain⟨g1,g2⟩:=g
    simp only[Bool.or_eq_true,Bool.and_eq_true,bne_iff_ne,ne_eq,beq_iff_eq,decide_eq_true_eq,not_or,not_and,Decidable.not_not]
    refine⟨g1,λq=>?_⟩
    obtain⟨a,b,c⟩:=g2 q
    rw[b]
    exact⟨⟨by omega,by simp⟩,c⟩
  ·rw[if_pos]
   ·exact⟨_,rfl,.inr ⟨λq=>g (q ht),rfl⟩⟩
   ·simp only[Bool.or_eq_true,Bool.and_eq_true,bne_iff_ne,ne_eq,beq_iff_eq,decide_eq_true_eq]
    by_cases g1:(ce x.S i).Val.Weak=(nmg x.Cells (1+(i:Int)+32*(ce x.S i).Gen):Int)
    ·right
     refine Classical.byContradiction λq=>g ⟨g1,λq2=>?_⟩
     have q:¬(((ce x.S i).Val.Weak<1∨((ce x.S i).Val.Fields.length:Int) > 0)∨¬(ce x.S i).Val.Strong=0):=λq3=>q ⟨q2,q3⟩
     refine⟨by omega,List.eq_nil_of_length_eq_zero (by omega),by omega⟩
    ·exact .inl g1
 ·rw[if_pos (by unfold Th at ht;simp only[Bool.and_eq_true,bne_iff_ne,ne_eq];omega),c8]
  exact⟨_,rfl,.inl ⟨λq=>absurd q ht,rfl⟩⟩
omit hR in
theorem b23 (l:List Int) (hl:l.length≤1000):lp (S:=Int × (List Int)) (E:=(List Int)) (λ((s17,s18):Int × (List Int))=>
   if (decide (s17<(l.length:Int))) then
     (ix l s17).bind λv25=>
     if (v25 != 0) then
      (app 8 s18 [v25]).bind λv26=>
      some (.inl (s7 (s17+1),v26))
     else
     some (.inl (s7 (s17+1),s18))
   else
   some (.inr s18)) (0,[])=some (nz l):=by
 rw[D0 l (λb x=>if (x != 0)=true then b ++ [x] else b) id (λk b=>b.length≤k) (by omega) (by simp) (λk hk b hI=>?_) (λb _=>by simp)]
 ·rw[foldl_filter]
  rfl
 ·simp only[Int.ofNat_lt,hk,decide_true,if_true,l5 hk,d0Y]
  rw[c8]
  by_cases c:(l[k] != 0)=true
  ·rw[if_pos c,if_pos c,u7 (by omega) (by simp;omega),d0Y]
   exact⟨rfl,by simp;omega⟩
  ·rw[if_neg c,if_neg c]
   exact⟨rfl,by omega⟩
omit hR in
theorem a7G (hl:x.Roots.length≤1000) (hq:x.Q.L.length≤1000):(otr x).length≤2000:=by
 unfold otr b1O
 rw[List.length_append,List.length_map]
 have:=b8P x.Roots
 have:(x.Q.L.filter (·.Kind==1)).length≤x.Q.L.length:=List.length_filter_le ..
 omega
omit hR in
theorem b9X (hl:x.Roots.length≤1000) (hq:x.Q.L.length≤1000):a4P (hO x)=some (otr x):=by
 unfold a4P
 simp only[jn]
 rw[show (hO x).Roots=x.Roots from rfl,show lp _ _=_ from b23 x.Roots hl,d0Y,show a69 (hO x).Q=some (b1O x.Q) from c7r hq,d0Y]
 have:=a7G hl hq
 unfold otr at this ⊢
 rw[List.length_append] at this
 rw[u7 (by omega) (by omega)]
 rfl
omit hR in
theorem c26 (hl:x.Roots.length≤1000) (hq:x.Q.L.length≤1000):a5p x=some (otr x):=by
 unfold a5p
 simp only[jn]
 rw[show lp _ _=_ from b23 x.Roots hl,d0Y,show a48 x.Q=some (b1O x.Q) from c7J hq,d0Y]
 have:=a7G hl hq
 unfold otr at this ⊢
 rw[List.length_append] at this
 rw[u7 (by omega) (by omega)]
 rfl
omit hR in
theorem b2E:b4r x.S x.T (otr x)↔b4q x []:=by
 constructor
 ·intro h k hk hlt
  have:=h k hk hlt
  unfold rst inr at this
  rw[if_pos hk] at this
  rw[a2N]
  unfold nms
  omega
 ·intro h k hk hlt
  have:=h k hk hlt
  rw[a2N] at this
  unfold nms at this
  unfold rst inr
  rw[if_pos hk]
  omega
end
theorem a6L(x:Hp)(hB:HB x)(hc:x.S.S.Cells.length≤1000)(hr:x.Roots.length≤1000)(hl:x.Cells.length≤1000)(ht:x.T.length≤1000)(hq:x.Q.L.length≤1000):∃b,a1y (hO x)=some b∧(b=true↔HpR x):=by
 unfold a1y
 obtain⟨b1,e1,h1⟩:=c3W (sO x.S) (by rw[C4];exact hc)
 obtain⟨b2,e2,h2⟩:=c1l x.T ht
 rw[show (hO x).S=sO x.S from rfl,e1,d0Y,show (hO x).T=x.T.map L6 from rfl,e2]
 have hno:∀ {P:Prop},¬P→(false=true↔P):=λq=>by simp[q]
 cases b1
 ·refine⟨false,by simp[l4],hno λq=>?_⟩
  have:=h1.2 (p6.2 q.sh.sr)
  cases this
 ·have hR:=p6.1 (h1.1 rfl)
  cases b2
  ·refine⟨false,by simp[l4],hno λq=>?_⟩
   have:=h2.2 q.sh.hr
   cases this
  ·have hT:=h2.1 rfl
   simp only[Bool.not_true,beq_self_eq_true,D1,d0Y,Bool.or_self,Bool.false_or]
   by_cases hlen:x.Roots.length=6∧x.Cells.length=6
   ·rw[if_neg (by simp[hO];omega)]
    obtain⟨b3,e3,h3⟩:=c5p hR hq hB.qb
    rw[e3,d0Y]
    cases b3
    ·refine⟨false,by simp[l4],hno λq=>?_⟩
     have:=h3.2 ⟨q.sh.tk,q.sh.td,q.sh.cap,q.sh.q30⟩
     cases this
    ·obtain⟨t1,t2,t3,t4⟩:=h3.1 rfl
     obtain⟨b4,e4,h4⟩:=c4K hR hT hB hr
     simp only[beq_self_eq_true,D1,Bool.true_and]
     rw[e4,d0Y]
     cases b4
     ·refine⟨false,by simp[l4],hno λq=>?_⟩
      have:=h4.2 ⟨q.sh.rt,q.sh.fl,q.sh.pr⟩
      cases this
     ·obtain⟨n1,n2,n3⟩:=h4.1 rfl
      obtain⟨b5,e5,h5⟩:=c35 hR hl hq hB.cb
      simp only[beq_self_eq_true,D1,Bool.true_and]
      rw[e5,d0Y]
      cases b5
      ·refine⟨false,by simp[l4],hno λq=>?_⟩
       have:=h5.2 q.sh.cl
       cases this
      ·have c1:=h5.1 rfl
       obtain⟨b6,e6,h6⟩:=c5t hR hl
       simp only[beq_self_eq_true,D1,Bool.true_and]
       rw[e6,d0Y]
       cases b6
       ·refine⟨false,by simp[l4],hno λq=>?_⟩
        have:=h6.2 q.wk
        cases this
       ·have w1:=h6.1 rfl
        simp only[beq_self_eq_true,D1,Bool.true_and]
        rw[b9X hr hq,d0Y,c0M (p6.2 hR) hT hB.sb (by have:=a7G hr hq;omega),d0Y]
        refine⟨_,rfl,?_⟩
        rw[decide_eq_true_iff,b2E]
        exact⟨λq=>⟨⟨hR,hT,hlen.1,hlen.2,t3,t4,t1,t2,n1,n2,n3,c1⟩,w1,q⟩,λq=>q.fair⟩
   ·rw[if_pos (by simp[hO];omega)]
    exact⟨false,rfl,hno λq=>hlen ⟨q.sh.r6,q.sh.c6⟩⟩
end Go.Sh
namespace Go.Sh
theorem c8w{K V:Type}[BEq K](hr:∀a:K,(a==a)=true)(he:∀a b:K,(a==b)=true→a=b)(m:List (K × V))(k:K)(v:V)(k':K):w9 (m8 m k v) k'=if k'==k then some v else w9 m k':=by
 induction m with
 | nil=>simp[m8,w9]
 | cons p m ih=>
  unfold m8
  by_cases h:(k==p.1)=true
  ·have:=he _ _ h
   subst this
   rw[if_pos h]
   unfold w9
   by_cases h':(k'==p.1)=true
   ·simp[h']
   ·simp[h']
  ·rw[if_neg h]
   unfold w9
   by_cases h':(k'==p.1)=true
   ·have:=he _ _ h'
    subst this
    have:(p.1==k)≠true:=λq=>by
     have:=he _ _ q
     subst this
     exact h (hr _)
    simp[h',this]
   ·simp only[h',ih]
    simp
theorem c1v(a:task_Task):(a==a)=true:=by
 show ((a.Kind==a.Kind)&&((a.At==a.At)&&((a.Prog==a.Prog)&&true)))=true
 simp
section
variable{x:Hp}(hx:HpR x)(hB:HB x)
include hx hB
theorem b2Z:U9 x=some true:=by
 have hR:=hx.sh.sr
 have r6:=hx.sh.r6
 have h24:=D2 (p6.2 hR)
 unfold U9 I8
 rw[T5 (by omega) (by omega),d0Y]
 simp only[jn]
 rw[a1S (p6.2 hR),d0Y]
 have key:∃e,lp (S:=Int × (List Int)) (E:=(List Int)) (λ((s16,s17):Int × (List Int))=>
   if (decide (s16<((lv x.S).length:Int))) then
    (ix (lv x.S) s16).bind λv20=>
    (r5 x.S v20).bind λv21=>
    (app 8 s17 v21.1.Fields).bind λv22=>
    some (.inl (s7 (s16+1),v22))
   else
   some (.inr s17)) (0,x.Roots)=some e∧(e.length≤200∧∀v∈e,v=0∨v∈lv x.S):=by
  refine a0m (lv x.S).length (λk (acc:List Int)=>acc.length≤6+4*k∧∀v∈acc,v=0∨v∈lv x.S) (λ(e:List Int)=>e.length≤200∧∀v∈e,v=0∨v∈lv x.S) (by omega) ⟨by omega,hx.sh.rt⟩ (λk acc hk hP=>?_) (λacc hP=>⟨acc,by simp,by omega,hP.2⟩)
  have hm:=List.getElem_mem hk
  have hf:=(L7 hR hm).fl
  left
  refine⟨acc++(ob x.S (lv x.S)[k]).Fields,?_,by rw[List.length_append];omega,λv hv=>?_⟩
  ·simp only[Int.ofNat_lt,hk,decide_true,if_true,l5 hk,d0Y]
   rw[b0T (p6.2 hR) hm,d0Y]
   dsimp only
   rw[u7 (by omega) (by omega),d0Y,c8]
  ·rcases List.mem_append.1 hv with q | q
   ·exact hP.2 v q
   ·exact hx.sh.fl _ hm v q
 obtain⟨e,e1,e2⟩:=key
 rw[show lp _ _=_ from e1,d0Y]
 have:D9 e x=some true:=by
  unfold D9 a1q
  simp only[jn]
  refine E0 e.length (λ_=>True) (by omega) trivial (λk hk _=>.inl ⟨?_,trivial⟩) (λ_=>⟨.inr (),by simp,rfl⟩)
  have hm:=e2.2 _ (List.getElem_mem hk)
  have hb:e[k]≤9223372036854775807:=by
   rcases hm with q | q
   ·omega
   ·have:=V0 hR q;omega
  simp only[Int.ofNat_lt,hk,decide_true,if_true,l5 hk,d0Y]
  rw[b8O hR hb,d0Y,d0Y,decide_eq_true hm,if_neg (by simp),c8]
 rw[this]
 rfl
theorem b26:a0N x=some true:=by
 have hR:=hx.sh.sr
 have h8:=a2p hx.sh.hr.l8
 unfold a0N
 rw[b7r hx.sh.hr,d0Y]
 have:A8 (U0 x.T) x=some true:=by
  unfold A8 a1r
  simp only[jn]
  refine E0 (U0 x.T).length (λ_=>True) (by omega) trivial (λk hk _=>.inl ⟨?_,trivial⟩) (λ_=>⟨.inr (),by simp,rfl⟩)
  have hp:=a0b.1 (List.getElem_mem hk)
  have hb:=hB.tb.has hp
  have hl:=hx.sh.pr _ _ hp
  simp only[Int.ofNat_lt,hk,decide_true,if_true,l5 hk,d0Y]
  rw[a9G hR hb.1,d0Y,decide_eq_true hl.1]
  simp only[beq_self_eq_true,D1]
  rw[a9G hR hb.2,d0Y,d0Y,decide_eq_true hl.2,if_neg (by simp),c8]
 rw[this]
 rfl
theorem b4m:a1Q x=some true:=by
 have hR:=hx.sh.sr
 have q30:=hx.sh.q30
 have c6:=hx.sh.c6
 unfold a1Q
 simp only[jn]
 refine M1 x.Q.L.length (λk (m:List (task_Task × Bool))=>∀t:task_Task,t.Prog=0→((w9 m t).getD false=true→∃j,j<k∧TkS (x.Q.L.getD j tz) t)) (by omega) (λt _ q=>by simp[w9] at q) (λk m hk hP=>.inl ?_) (λm hP=>⟨.inr m,by simp,rfl⟩)
 have hm:=List.getElem_mem hk
 obtain⟨t1,t2,t3⟩:=hx.sh.tk _ hm
 have hb:=hB.qb _ hm
 have hno:(w9 m (⟨x.Q.L[k].Kind,x.Q.L[k].At,0⟩:task_Task)).getD false=false:=by
  rw[Bool.eq_false_iff]
  intro q
  obtain⟨j,hj,hs⟩:=hP ⟨x.Q.L[k].Kind,x.Q.L[k].At,0⟩ rfl q
  have hj1:j<x.Q.L.length:=by omega
  rw[D8 hj1] at hs
  exact List.pairwise_iff_getElem.1 hx.sh.td j k hj1 hk hj hs
 have hfor:a0P x x.Q.L[k]=some true:=by
  unfold a0P
  rcases t3 with ⟨a,b,c⟩ | ⟨a,b,c⟩
  ·rw[if_pos (by simpa using a),b0T (p6.2 hR) b,d0Y,c]
   rfl
  ·rw[if_neg (by simp[a]),if_pos (by simpa using a)]
   obtain⟨n,hn⟩:∃n:Nat,x.Q.L[k].At=n:=⟨x.Q.L[k].At.toNat,by omega⟩
   have hnl:n<x.Cells.length:=by omega
   have e1:((decide (x.Q.L[k].At≥0))&&(decide (x.Q.L[k].At<(x.Cells.length:Int))))=true:=by simp;omega
   rw[e1]
   simp only[beq_self_eq_true,D1,Bool.true_and]
   rw[hn,l5 hnl,d0Y]
   have:x.Cells[n].Intact=false:=by
    rw[Bool.eq_false_iff]
    intro q
    have:=((hx.sh.cl n hnl).2.2.2.2 q).2
    rw[Bool.eq_false_iff] at this
    exact this (c3J.2 ⟨_,hm,a,hn⟩)
   rw[this]
   rfl
 refine⟨m8 m (⟨x.Q.L[k].Kind,x.Q.L[k].At,0⟩:task_Task) true,?_,λt ht q=>?_⟩
 ·simp only[Int.ofNat_lt,hk,decide_true,if_true,l5 hk,d0Y]
  rw[hno,decide_eq_true (show x.Q.L[k].Prog≥0 from t1),decide_eq_true (show x.Q.L[k].Prog<6 by omega)]
  simp only[Bool.not_false,Bool.and_self,beq_self_eq_true,D1]
  rw[hfor,d0Y,if_neg (by simp),c8]
 ·rw[c8w c1v task_Task.beq_eq] at q
  by_cases e:(t==(⟨x.Q.L[k].Kind,x.Q.L[k].At,0⟩:task_Task))=true
  ·have:=task_Task.beq_eq _ _ e
   refine⟨k,by omega,?_⟩
   rw[D8 hk,this]
   exact⟨rfl,rfl⟩
  ·rw[if_neg e] at q
   obtain⟨j,hj,hs⟩:=hP t ht q
   exact⟨j,by omega,hs⟩
theorem b3Y:a1O x=some true:=by
 have hR:=hx.sh.sr
 have c6:=hx.sh.c6
 unfold a1O
 have:B5 x.Cells x=some true:=by
  unfold B5 a2k
  simp only[jn]
  refine E0 x.Cells.length (λ_=>True) (by omega) trivial (λk hk _=>.inl ⟨?_,trivial⟩) (λ_=>⟨.inr (),by simp,rfl⟩)
  obtain⟨a1,a2,a3,a4,a5⟩:=hx.sh.cl k hk
  have hb:=hB.cb _ (List.getElem_mem hk)
  simp only[Int.ofNat_lt,hk,decide_true,if_true,l5 hk,d0Y]
  rw[if_neg (by simp;omega)]
  by_cases hin:x.Cells[k].Intact=true
  ·rw[if_pos hin,a9G hR hb,d0Y,d0Y,decide_eq_true (a5 hin).1,if_neg (by simp),c8]
  ·rw[if_neg hin]
   by_cases h0:x.Cells[k].Target=0
   ·have hno:∀i,¬AtD x.S x.Cells[k].Target i:=λi q=>by have:=q.rng hR;omega
    rw[b2s hR hb hno,d0Y,d0Y,h0,if_neg (by simp),c8]
   ·obtain⟨p,hp⟩:=a4 h0
    rw[a7x hR hp,d0Y,d0Y,if_neg (by simp),c8]
 rw[this]
 rfl
theorem b30:a1P x=some true:=by
 have hR:=hx.sh.sr
 have c6:=hx.sh.c6
 have h24:=hR.len
 have l9:=hR.l9
 unfold a1P
 simp only[jn]
 refine E0 x.S.S.Cells.length (λ_=>True) (by omega) trivial (λk hk _=>.inl ⟨?_,trivial⟩) (λ_=>⟨.inr (),by simp,rfl⟩)
 have hc:=hR.cell k hk
 simp only[Int.ofNat_lt,hk,decide_true,if_true]
 rw[b9K hk,d0Y]
 by_cases ht:Th (ce x.S k)
 ·rw[if_neg (by unfold Th at ht;simp only[Bool.and_eq_true,bne_iff_ne,ne_eq];omega),a6I (by omega) (by omega) hc.2.2.1 (by omega),d0Y,c01 x.Cells (by omega),d0Y]
  obtain⟨g1,g2⟩:=hx.wk k hk ht
  rw[if_neg (by simpa using g1),if_neg,c8]
  simp only[Bool.or_eq_true,Bool.and_eq_true,bne_iff_ne,ne_eq,beq_iff_eq,decide_eq_true_eq,not_or,not_and,Decidable.not_not]
  intro q
  obtain⟨a,b,c⟩:=g2 q
  rw[b]
  exact⟨⟨by omega,by simp⟩,c⟩
 ·rw[if_pos (by unfold Th at ht;simp only[Bool.and_eq_true,bne_iff_ne,ne_eq];omega),c8]
open Classical in
theorem b1P:a5q x=some true:=by
 have hR:=hx.sh.sr
 have r6:=hx.sh.r6
 have q30:=hx.sh.q30
 unfold a5q
 have hsh:a0O x=some true:=by
  unfold a0O
  have hsr:a2c x.S=some true:=by
   rw[b6o x.S (by have:=hR.len;omega)]
   congr 1
   rw[decide_eq_true_iff]
   exact p6.2 hR
  obtain⟨b,b1,b2⟩:=c0T x.T (by have:=hx.sh.hr.l8;omega)
  rw[show b0p=some ⟨[],30⟩ from rfl,d0Y,hsr,d0Y]
  simp only[beq_self_eq_true,D1,Bool.true_and]
  rw[b1,d0Y,b2.2 hx.sh.hr,hx.sh.r6,hx.sh.c6,hx.sh.cap]
  have:decide ((x.Q.L.length:Int)≤30)=true:=by simp;omega
  rw[this]
  rfl
 rw[hsh,d0Y,if_neg (by simp)]
 simp only[jn]
 have f1:W5 (some 122) x=some true:=by
  unfold W5
  rw[if_pos rfl]
  exact b2Z hx hB
 have f2:W5 (some 123) x=some true:=by
  unfold W5
  rw[if_neg (by decide),if_pos rfl]
  exact b26 hx hB
 have f3:W5 (some 124) x=some true:=by
  unfold W5
  rw[if_neg (by decide),if_neg (by decide),if_pos rfl]
  exact b4m hx hB
 have f4:W5 (some 125) x=some true:=by
  unfold W5
  rw[if_neg (by decide),if_neg (by decide),if_neg (by decide),if_pos rfl]
  exact b3Y hx hB
 have f5:W5 (some 126) x=some true:=by
  unfold W5
  rw[if_neg (by decide),if_neg (by decide),if_neg (by decide),if_neg (by decide),if_pos rfl]
  exact b30 hx hB
 refine E0 5 (λ_=>True) (by omega) trivial (λk hk _=>.inl ⟨?_,trivial⟩) (λ_=>⟨.inr (),by kernel_rfl,?_⟩)
 ·match k,hk with
  | 0,_=>
   refine (if_pos (by rfl)).trans ?_
   refine bnd (a:=some 122) (by kernel_rfl) ?_
   refine bnd f1 ?_
   kernel_rfl
  | 1,_=>
   refine (if_pos (by rfl)).trans ?_
   refine bnd (a:=some 123) (by kernel_rfl) ?_
   refine bnd f2 ?_
   kernel_rfl
  | 2,_=>
   refine (if_pos (by rfl)).trans ?_
   refine bnd (a:=some 124) (by kernel_rfl) ?_
   refine bnd f3 ?_
   kernel_rfl
  | 3,_=>
   refine (if_pos (by rfl)).trans ?_
   refine bnd (a:=some 125) (by kernel_rfl) ?_
   refine bnd f4 ?_
   kernel_rfl
  | 4,_=>
   refine (if_pos (by rfl)).trans ?_
   refine bnd (a:=some 126) (by kernel_rfl) ?_
   refine bnd f5 ?_
   kernel_rfl
 ·dsimp only
  rw[c26 (by omega) (by omega),d0Y,c4g (p6.2 hR) hx.sh.hr hB.sb (by have:=a7G (x:=x) (by omega) (by omega);omega),d0Y,decide_eq_true (b2E.2 hx.fair)]
end
end Go.Sh
namespace Go.Sh
theorem c7D{l:List k9}(h:l.length≤100000):a92 l l=some true:=by
 unfold a92
 rw[if_neg (by simp)]
 simp only[jn]
 refine E0 l.length (λ_=>True) (by omega) trivial (λk hk _=>.inl ⟨?_,trivial⟩) (λ_=>⟨.inr (),by simp,rfl⟩)
 rw[if_pos (by simpa using hk),l5 hk,d0Y,d0Y,if_neg (by simp),c8 (by omega)]
def SL(x:Hp):Prop:=∀k∈lv x.S,(ob x.S k).Strong≤9223372036854775807
theorem SB.sl{x:Hp}(hR:SR x.S)(h:SB x.S):SL x:=λk hk=>c1u hR h k hk
theorem b4N{x:Hp}(hx:HpR x)(hS:SL x):HB x:=by
 have hR:=hx.sh.sr
 have bd:∀v,v=0∨v∈lv x.S→v≤9223372036854775807:=λv q=>by
  rcases q with q | q
  ·omega
  ·have:=V0 hR q;omega
 refine⟨c8V.2 λi hi=>?_,c5L.2 λi hi v hv=>?_,λv hv=>bd v (hx.sh.rt v hv),λc hc=>?_,λp hp=>?_,λt ht=>?_⟩
 ·by_cases t:Th (ce x.S i)
  ·rcases t with t | t
   ·have q:At x.S (1+(i:Int)+32*(ce x.S i).Gen) i:=⟨hi,t,rfl⟩
    have:=hS _ ((a9L hR).2 ⟨i,q⟩)
    rwa [a1d hR q] at this
   ·have:=((hx.wk i hi (.inr t)).2 t).2.2
    omega
  ·have:=(hR.no i hi t).2.1
   simp only[oo] at this
   omega
 ·by_cases t:Th (ce x.S i)
  ·rcases t with t | t
   ·have q:At x.S (1+(i:Int)+32*(ce x.S i).Gen) i:=⟨hi,t,rfl⟩
    have hm:=(a9L hR).2 ⟨i,q⟩
    exact bd v (hx.sh.fl _ hm v (by rw[a1d hR q];exact hv))
   ·rw[((hx.wk i hi (.inr t)).2 t).2.1] at hv
    cases hv
  ·have:=(hR.no i hi t).2.2.2.2.2
   simp only[oo] at this
   rw[List.eq_nil_of_length_eq_zero this] at hv
   cases hv
 ·obtain⟨i,hi,rfl⟩:=List.getElem_of_mem hc
  by_cases e:x.Cells[i].Target=0
  ·omega
  ·obtain⟨p,hp⟩:=(hx.sh.cl i hi).2.2.2.1 e
   have:=hp.rng hR
   omega
 ·obtain⟨i,hi,rfl⟩:=List.getElem_of_mem hp
  have e:pt x.T i=x.T[i]:=by
   unfold pt
   rw[List.getD_eq_getElem?_getD,List.getElem?_eq_getElem hi]
   rfl
  by_cases s1:(pt x.T i).State=1
  ·obtain⟨a,b⟩:=hx.sh.pr (pt x.T i).Key (pt x.T i).Val ⟨i,⟨hi,s1,rfl⟩,rfl⟩
   rw[e] at a b
   exact⟨bd _ (.inr a),bd _ (.inr b)⟩
  ·obtain⟨a,b⟩:=(hx.sh.hr.st i hi).2 s1
   rw[e] at a b
   omega
 ·obtain⟨_,_,q | q⟩:=hx.sh.tk t ht
  ·exact bd _ (.inr q.2.1)
  ·omega
theorem c55{s:store_Store}(hR:SR s):Sm s:=by
 refine⟨by have:=hR.len;omega,λi hi=>?_⟩
 by_cases t:Th (ce s i)
 ·have:=(hR.ok i hi t).fl
  rw[G9 hi] at this
  omega
 ·have:=(hR.no i hi t).2.2.2.2.2
  simp only[oo] at this
  rw[G9 hi] at this
  omega
theorem c3r{x:Hp}(h:HpS x):a7a (hO x) (hO x)=some true:=by
 have sm:=c55 h.sr
 have h1:=h.r6
 have h2:=h.c6
 have h3:=h.hr.l8
 have h4:=h.q30
 unfold a7a
 rw[show (hO x).S=sO x.S from rfl,c0x _ (by rw[C4];have:=sm.1;omega) (λi hi=>by
  have:=sm.2 i (by rw[C4] at hi;exact hi)
  simp only[sO,List.getElem_map,cO,oo]
  omega),d0Y]
 simp only[beq_self_eq_true,D1,Bool.true_and]
 rw[show (hO x).Roots=x.Roots from rfl,a5t (by omega),d0Y]
 simp only[beq_self_eq_true,D1,Bool.true_and]
 rw[c7D (by simp[hO];omega),d0Y]
 simp only[beq_self_eq_true,D1,Bool.true_and]
 rw[c1o (by simp[hO];omega),d0Y]
 simp only[beq_self_eq_true,D1,Bool.true_and]
 rw[show (hO x).Q=tqR x.Q from rfl,c7p (by omega),d0Y]
theorem c4u(c:Int):a3e c≤12:=by unfold a3e;split <;> (try split) <;> omega
theorem c4c{c:Int}(h:c≤9223372036854775807):a6w c≤9223372036854775807:=by unfold a6w;split <;> (try split) <;> omega
theorem SL.of{x y:Hp}(h:SL x)(hl:lv y.S=lv x.S)(hs:∀k∈lv x.S,(ob y.S k).Strong=(ob x.S k).Strong):SL y:=λk hk=>by
 rw[hl] at hk
 rw[hs k hk]
 exact h k hk
theorem SL.st{x:Hp}(h:SL x)(hR:SR x.S)(v:Int){f:Int→Int}(hf:∀c,0≤c→0≤f c)(hb:∀c,c≤9223372036854775807→f c≤9223372036854775807):SL (stO x v f):=λk hk=>by
 rw[(a1V hR v hf).lv] at hk
 rw[b3x hR v hf hk]
 split
 ·exact hb _ (h k hk)
 ·exact h k hk
theorem SL.rtn{x:Hp}(h:SL x)(hR:SR x.S)(v:Int):SL (rtn x v):=h.st hR v (λc=>a1R) λc _=>by have:=c4u c;omega
theorem SL.rls{x:Hp}(h:SL x)(hR:SR x.S)(v:Int):SL (X4 x v):=h.st hR v (λc=>a0F) λc hc=>c4c hc
theorem b9b{x:Hp}(hR:SR x.S)(v:Int):SR (X4 x v).S:=(a1V hR v λc=>a0F).sr
section
variable{x:Hp}(hx:HpR x)(hS:SL x)
include hx hS
end
end Go.Sh
namespace Go.Sh
end Go.Sh
namespace Go.Sh
end Go.Sh
namespace Go.Sh
def b1j(x:Hp):Prop:=Sm x.S∧x.Roots.length≤20∧x.Cells.length≤20∧x.T.length≤20∧x.Q.L.length≤60
instance(x:Hp):Decidable (b1j x):=by unfold b1j;infer_instance
theorem HpS.c8h{x:Hp}(h:HpS x):b1j x:=by
 have h1:=h.r6
 have h2:=h.c6
 have h3:=h.hr.l8
 have h4:=h.q30
 exact⟨c55 h.sr,by omega,by omega,by omega,by omega⟩
theorem b89{x:Hp}(hx:HpR x)(hS:SL x):a1y (hO x)=some true:=by
 obtain⟨f,f2,f3,f4,f5⟩:=hx.sh.c8h
 obtain⟨b,h1,h2⟩:=a6L x (b4N hx hS) (by have:=f.1;omega) (by omega) (by omega) (by omega) (by omega)
 rw[h1,h2.2 hx]
end Go.Sh
namespace Go.Sh
def c4q:Hp:=⟨⟨⟨[],0⟩,0⟩,[],[],[],⟨[],0⟩⟩
def c6i(x:Hp):Bool:=x.S.S.Cells.all (λc=>decide (c.Val.Strong≤9223372036854775807)&&c.Val.Fields.all λv=>decide (v≤9223372036854775807))&&(x.Roots.all (λv=>decide (v≤9223372036854775807))&&(x.Cells.all (λc=>decide (c.Target≤9223372036854775807))&&(x.T.all (λp=>decide (p.Key≤9223372036854775807∧p.Val≤9223372036854775807))&&x.Q.L.all λt=>decide (t.At≤9223372036854775807))))
theorem c6O{x:Hp}(h:c6i x=true):HB x:=by
 unfold c6i at h
 simp only[Bool.and_eq_true,List.all_eq_true,decide_eq_true_iff] at h
 obtain⟨h1,h2,h3,h4,h5⟩:=h
 exact⟨λc hc=>(h1 c hc).1,λc hc=>(h1 c hc).2,h2,h3,h4,h5⟩
section
variable{x:Hp}(hB:HB x)
include hB
end
end Go.Sh
namespace Go.Sh
abbrev ded(o:store_Obj):store_Obj:=⟨o.Serial,0,o.Weak,o.Prog,o.Started,[]⟩
def gnC(s:store_Store)(i:Nat):slab_Cell_store_Obj:=
 if (ce s i).Val.Weak=0 then (if (ce s i).Gen=s.S.Last then ⟨3,(ce s i).Gen,z0⟩ else ⟨0,(ce s i).Gen+1,z0⟩) else ⟨2,(ce s i).Gen,ded (ce s i).Val⟩
def gnA(s:store_Store)(d:Int):store_Store:=G3 s (Z0 d) (gnC s (Z0 d))
def gnL(s:store_Store)(ds:List Int):store_Store:=ds.foldl gnA s
theorem c6L(s:store_Store)(i:Nat):(gnC s i).State≠1:=by
 unfold gnC
 split
 ·split <;> simp
 ·simp
theorem b8V{s:store_Store}(hR:SR s){a b:Int}(ha:a∈lv s)(hb:b∈lv s)(h:a≠b):Z0 a≠Z0 b:=λe=>by
 have h1:=A9 hR ha
 have h2:=A9 hR hb
 rw[e] at h1
 exact h (h1.2.2.trans h2.2.2.symm)
section
variable{s:store_Store}(hR:SR s){d:Int}(hd:d∈lv s)
include hR hd
theorem b8I:SR (gnA s d):=by
 have q:=A9 hR hd
 have hc:=hR.cell _ q.1
 have ho:=hR.ok _ q.1 (.inl q.2.1)
 have no:b1J (oo z0):=⟨rfl,rfl,rfl,rfl,rfl,rfl⟩
 unfold gnA gnC
 split
 ·split
  ·exact hR.G3 q.1 ⟨by simp,by simp,hc.2.2.1,hc.2.2.2⟩ (λ_=>no) (λq=>absurd q (by unfold Th;simp))
  ·refine hR.G3 q.1 ⟨by simp,by simp,?_,?_⟩ (λ_=>no) (λq=>absurd q (by unfold Th;simp))
   ·show 0≤(ce s (Z0 d)).Gen+1;omega
   ·show (ce s (Z0 d)).Gen+1≤s.S.Last;omega
 ·exact hR.G3 q.1 ⟨by simp,by simp,hc.2.2.1,hc.2.2.2⟩ (λq=>absurd (.inr rfl) q) (λ_=>⟨⟨ho.s1,ho.s2,Int.le_refl _,ho.wk,ho.p1,ho.p2,Nat.zero_le _⟩,.inl q.2.1,rfl⟩)
theorem c2p(j:Nat):ce (gnA s d) j=if j=Z0 d then gnC s (Z0 d) else ce s j:=L9 (A9 hR hd).1 _ j
theorem c6J:lv (gnA s d)=(lv s).filter λh=>decide (h≠d):=by
 have hS:=b8I hR hd
 unfold gnA at hS ⊢
 have hc:=c6L s (Z0 d)
 rw[c4F hR (A9 hR hd).1 hc hS]
 refine List.filter_congr λh hh=>decide_eq_decide.2 ⟨λq e=>q (by rw[e]),λq=>b8V hR hh hd q⟩
theorem c6K{k:Int}(hk:k∈lv s)(hne:k≠d):ob (gnA s d) k=ob s k:=by
 have hS:=b8I hR hd
 unfold gnA at hS ⊢
 exact c4Q hR (A9 hR hd).1 hS hk (b8V hR hk hd hne)
end
structure Gn (s s':store_Store) (ds:List Int):Prop where
 sr:SR s'
 len:s'.S.Cells.length=s.S.Cells.length
 last:s'.S.Last=s.S.Last
 ser:s'.Serial=s.Serial
 lv:lv s'=(lv s).filter λh=>decide (h∉ds)
 ob:∀k∈Sh.lv s,k∉ds→ob s' k=ob s k
 ce:∀j,ce s' j=if j∈ds.map Z0 then gnC s j else ce s j
theorem a23:∀(ds:List Int) {s:store_Store} (hR:SR s),ds.Nodup→(∀d∈ds,d∈lv s)→Gn s (gnL s ds) ds
 | [],s,hR,_,_=>⟨hR,rfl,rfl,rfl,(List.filter_eq_self.2 (λa _=>by simp)).symm,λ_ _ _=>rfl,λj=>by simp[gnL]⟩
 | d::ds,s,hR,hn,hm=>by
  rw[List.nodup_cons] at hn
  have hd:=hm d (List.mem_cons_self ..)
  have hlv:=c6J hR hd
  have hm':∀e∈ds,e∈lv (gnA s d):=λe he=>by
   rw[hlv,List.mem_filter,decide_eq_true_iff]
   exact⟨hm e (List.mem_cons_of_mem _ he),λq=>hn.1 (q▸he)⟩
  have ih:=a23 ds (b8I hR hd) hn.2 hm'
  refine⟨ih.sr,ih.len.trans (a02 ..),ih.last,ih.ser,?_,λk hk hne=>?_,λj=>?_⟩
  ·show lv (gnL (gnA s d) ds)=_
   rw[ih.lv,hlv,List.filter_filter]
   refine List.filter_congr λh hh=>?_
   rw[Bool.eq_iff_iff]
   simp only[Bool.and_eq_true,decide_eq_true_iff,List.mem_cons,not_or]
   exact⟨λq=>⟨q.2,q.1⟩,λq=>⟨q.2,q.1⟩⟩
  ·show ob (gnL (gnA s d) ds) k=_
   rw[List.mem_cons,not_or] at hne
   rw[ih.ob k (by rw[hlv,List.mem_filter,decide_eq_true_iff];exact⟨hk,hne.1⟩) hne.2,c6K hR hd hk hne.1]
  ·show ce (gnL (gnA s d) ds) j=_
   have hg:∀e∈ds,Z0 e≠Z0 d:=λe he=>b8V hR (hm e (List.mem_cons_of_mem _ he)) hd λq=>hn.1 (q▸he)
   rw[ih.ce]
   by_cases h1:j∈ds.map Z0
   ·obtain⟨e,he,rfl⟩:=List.mem_map.1 h1
    rw[if_pos h1,if_pos (by rw[List.map_cons];exact List.mem_cons_of_mem _ h1)]
    unfold gnC
    rw[c2p hR hd,if_neg (hg e he)]
    rfl
   ·rw[if_neg h1,c2p hR hd,List.map_cons]
    by_cases h2:j=Z0 d
    ·subst h2
     rw[if_pos rfl,if_pos (List.mem_cons_self ..)]
    ·rw[if_neg h2,if_neg]
     rw[List.mem_cons]
     exact λq=>q.elim h2 h1
theorem b5e{α:Type}(p:α→Bool)(f:α→Nat):∀l:List α,(l.map f).sum=((l.filter p).map f).sum+((l.filter λx => !p x).map f).sum
 | []=>rfl
 | x::l=>by
  rw[List.map_cons,List.sum_cons,b5e p f l,List.filter_cons,List.filter_cons]
  cases p x <;> simp <;> omega
theorem b74(f:Int→List Int)(y:Int):∀l:List Int,X9 (l.flatMap f) y=(l.map λx=>X9 (f x) y).sum
 | []=>a2N y
 | x::l=>by rw[List.flatMap_cons,a0q,b74 f y l,List.map_cons,List.sum_cons]
theorem Gn.inn{s s':store_Store}{ds:List Int}(hR:SR s)(hn:ds.Nodup)(hm:∀d∈ds,d∈Sh.lv s)(g:Gn s s' ds)(y:Int):inn s' y+X9 (ds.flatMap (outs s)) y=inn s y:=by
 unfold Sh.inn
 rw[g.lv,b5e (λh=>decide (h∉ds)) (λx=>X9 (outs s x) y) (Sh.lv s),b74]
 have h1:((Sh.lv s).filter λh=>decide (h∉ds)).map (λx=>X9 (outs s' x) y)=((Sh.lv s).filter λh=>decide (h∉ds)).map λx=>X9 (outs s x) y:=List.map_congr_left λx hx=>by
  rw[List.mem_filter,decide_eq_true_iff] at hx
  unfold Sh.outs
  rw[g.ob x hx.1 hx.2]
 have h2:((Sh.lv s).filter λx => !decide (x∉ds)).Perm ds:=by
  rw[List.perm_ext_iff_of_nodup ((a3g (p6.2 hR)).filter _) hn]
  intro a
  rw[List.mem_filter]
  simp only[decide_not,Bool.not_not,decide_eq_true_iff]
  exact⟨λq=>q.2,λq=>⟨hm a q,q⟩⟩
 rw[h1,(h2.map λx=>X9 (outs s x) y).sum_nat]
theorem b7n{L:List task_Task}(hd:L.Pairwise λa b=>¬(a.Kind=b.Kind∧a.At=b.At))(k:Int):((L.filter (·.Kind==k)).map (·.At)).Nodup:=by
 unfold List.Nodup
 rw[List.pairwise_map]
 refine (hd.filter _).imp_of_mem λ{a b} ha hb h e=>?_
 rw[List.mem_filter,beq_iff_eq] at ha hb
 exact h ⟨ha.2.trans hb.2.symm,e⟩
theorem b3E{L:List task_Task}{m:List Int}(hd:L.Pairwise λa b=>¬(a.Kind=b.Kind∧a.At=b.At))(h:∀t∈L,(t.Kind=1∧t.At∈m)∨(t.Kind=2∧0≤t.At∧t.At≤5)):L.length≤m.length+6:=by
 have h1:L.length=(L.filter (·.Kind==1)).length+(L.filter (·.Kind==2)).length:=by
  rw[a9m (λt:task_Task=>t.Kind==1) L]
  congr 2
  refine List.filter_congr λt ht=>?_
  rcases h t ht with q | q
  ·simp[q.1]
  ·simp[q.1]
 have h2:=a0U (b7n hd 1) (m:=m) λa ha=>by
  obtain⟨t,ht,rfl⟩:=List.mem_map.1 ha
  rw[List.mem_filter,beq_iff_eq] at ht
  rcases h t ht.1 with q | q
  ·exact q.2
  ·omega
 have h3:=a0U (b7n hd 2) (m:=[0,1,2,3,4,5]) λa ha=>by
  obtain⟨t,ht,rfl⟩:=List.mem_map.1 ha
  rw[List.mem_filter,beq_iff_eq] at ht
  rcases h t ht.1 with q | q
  ·omega
  ·simp only[List.mem_cons,List.not_mem_nil,or_false]
   omega
 rw[List.length_map] at h2 h3
 simp only[List.length_cons,List.length_nil] at h3
 omega
theorem a8a{q:TQ}{w:Int}:wts q w=true↔∃t∈q.L,t.Kind=2∧t.At=w:=by
 unfold wts
 rw[List.any_eq_true]
 simp
theorem b7j{q:TQ}{h:Int}:h∈b1O q↔∃t∈q.L,t.Kind=1∧t.At=h:=by
 unfold b1O
 rw[List.mem_map]
 simp only[List.mem_filter,beq_iff_eq]
 exact⟨λ⟨t,⟨a,b⟩,c⟩=>⟨t,a,b,c⟩,λ⟨t,a,b,c⟩=>⟨t,⟨a,b⟩,c⟩⟩
abbrev cz:weak_Cell:=⟨0,false,0⟩
def a12(ds:List Int)(c:weak_Cell):Bool:=c.Intact&&c.Target != 0&&decide (c.Target∈ds)
def a6h(ds:List Int)(c:weak_Cell):weak_Cell:=if a12 ds c then ⟨c.Target,false,c.Call⟩ else c
def clr(l:List weak_Cell)(ds:List Int):List weak_Cell:=l.map (a6h ds)
def cls(l:List weak_Cell)(ds:List Int):List Nat:=(List.range l.length).filter λw=>a12 ds (l.getD w cz)&&decide (0≤(l.getD w cz).Call)
def clt(l:List weak_Cell)(ds:List Int):List task_Task:=(cls l ds).map λ(w:Nat)=>⟨2,(w:Int),(l.getD w cz).Call⟩
theorem b5q(ds:List Int)(c:weak_Cell):(a6h ds c).Target=c.Target∧(a6h ds c).Call=c.Call∧((a6h ds c).Intact=true↔c.Intact=true∧a12 ds c=false):=by
 unfold a6h
 cases h:a12 ds c
 ·rw[if_neg (by simp)]
  simp
 ·rw[if_pos rfl]
  simp
theorem c4L(l:List weak_Cell)(ds:List Int)(h:Int):nmg (clr l ds) h=nmg l h:=by
 unfold nmg clr
 rw[List.countP_map]
 congr 1
 funext c
 simp only[Function.comp_apply,(b5q ds c).1]
theorem a5x{l:List weak_Cell}{ds:List Int}{t:task_Task}:t∈clt l ds↔∃w,∃hw:w<l.length,t=⟨2,(w:Int),l[w].Call⟩∧a12 ds l[w]=true∧0≤l[w].Call:=by
 unfold clt cls
 rw[List.mem_map]
 constructor
 ·rintro⟨w,hw,rfl⟩
  rw[List.mem_filter,List.mem_range] at hw
  obtain⟨h1,h2⟩:=hw
  have e:l.getD w cz=l[w]:=by rw[List.getD_eq_getElem?_getD,List.getElem?_eq_getElem h1];rfl
  rw[e] at h2 ⊢
  rw[Bool.and_eq_true,decide_eq_true_iff] at h2
  exact⟨w,h1,rfl,h2.1,h2.2⟩
 ·rintro⟨w,hw,rfl,h2,h3⟩
  have e:l.getD w cz=l[w]:=by rw[List.getD_eq_getElem?_getD,List.getElem?_eq_getElem hw];rfl
  refine⟨w,?_,by rw[e]⟩
  rw[List.mem_filter,List.mem_range,e,Bool.and_eq_true,decide_eq_true_iff]
  exact⟨hw,h2,h3⟩
theorem b4y(l:List weak_Cell)(ds:List Int):(clt l ds).Pairwise λa b=>¬(a.Kind=b.Kind∧a.At=b.At):=by
 unfold clt cls
 rw[List.pairwise_map]
 refine (List.Pairwise.filter _ (List.nodup_range (n:=l.length))).imp λ{a b} h=>?_
 rintro⟨_,e⟩
 dsimp only at e
 omega
end Go.Sh
namespace Go.Sh
def a36(x:Hp)(ds:List Int)(t:Tb):Hp:=⟨gnL x.S ds,x.Roots,clr x.Cells ds,t,⟨x.Q.L++clt x.Cells ds,x.Q.Cap⟩⟩
theorem b67(q:TQ)(l:List task_Task)(c:Int)(h:∀t∈l,t.Kind≠1):b1O ⟨q.L++l,c⟩=b1O q:=by
 unfold b1O
 dsimp only
 rw[List.filter_append]
 have:l.filter (λt=>t.Kind==1) = []:=by
  rw[List.filter_eq_nil_iff]
  intro t ht
  simpa using h t ht
 rw[this,List.append_nil]
theorem c0A{x:Hp}(hx:HpR x){ds:List Int}(hn:ds.Nodup)(hm:∀d∈ds,d∈lv x.S)
  (ho:∀d∈ds,d∉otr x)(hf:∀h∈lv x.S,h∉ds→∀v∈(ob x.S h).Fields,v∉ds)(hp:∀k v,Has x.T k v→k∉ds→v∉ds)
  {t:Tb}{vals:List Int}(ht:HR t)(h1:∀k v,Has t k v↔k∉ds∧Has x.T k v)(h2:∀y,own t y+X9 vals y=own x.T y) :
  HpS (a36 x ds t)∧Wk (a36 x ds t)∧b4q (a36 x ds t) (ds.flatMap (outs x.S)++vals):=by
 have hS:=hx.sh
 have hR:=hS.sr
 have g:=a23 ds hR hn hm
 have hlv:∀h,h∈lv (gnL x.S ds)↔h∈lv x.S∧h∉ds:=λh=>by rw[g.lv,List.mem_filter,decide_eq_true_iff]
 have hlen:(lv x.S).length≤24:=D2 (p6.2 hR)
 have hcl:∀w (hw:w<x.Cells.length),a12 ds x.Cells[w]=true→x.Cells[w].Intact=true:=λw hw q=>by
  unfold a12 at q
  rw[Bool.and_eq_true,Bool.and_eq_true] at q
  exact q.1.1
 have htd:(x.Q.L++clt x.Cells ds).Pairwise λa b=>¬(a.Kind=b.Kind∧a.At=b.At):=by
  rw[List.pairwise_append]
  refine⟨hS.td,b4y ..,λa ha b hb q=>?_⟩
  obtain⟨w,hw,rfl,hh,_⟩:=a5x.1 hb
  have:=((hS.cl w hw).2.2.2.2 (hcl w hw hh)).2
  rw[Bool.eq_false_iff] at this
  exact this (a8a.2 ⟨a,ha,q.1,q.2⟩)
 have htk:∀t∈x.Q.L++clt x.Cells ds,0≤t.Prog∧t.Prog≤5∧((t.Kind=1∧t.At∈lv (gnL x.S ds)∧(ob (gnL x.S ds) t.At).Started=true)∨(t.Kind=2∧0≤t.At∧t.At≤5)):=λt htt=>by
  rcases List.mem_append.1 htt with q | q
  ·obtain⟨a,b,c⟩:=hS.tk t q
   refine⟨a,b,?_⟩
   rcases c with ⟨c1,c2,c3⟩ | c
   ·have hnd:t.At∉ds:=λhd=>ho _ hd (List.mem_append.2 (.inr (b7j.2 ⟨t,q,c1,rfl⟩)))
    exact .inl ⟨c1,(hlv _).2 ⟨c2,hnd⟩,by rw[g.ob _ c2 hnd];exact c3⟩
   ·exact .inr c
  ·obtain⟨w,hw,rfl,hh,hc⟩:=a5x.1 q
   have c6:=hS.c6
   have:=(hS.cl w hw).2.1
   exact⟨hc,this,.inr ⟨rfl,by dsimp only;omega,by dsimp only;omega⟩⟩
 have hq30:(x.Q.L++clt x.Cells ds).length≤30:=by
  have:=b3E (m:=lv x.S) htd λt htt=>by
   rcases (htk t htt).2.2 with q | q
   ·exact .inl ⟨q.1,((hlv _).1 q.2.1).1⟩
   ·exact .inr q
  omega
 have hwts:∀i:Nat,wts x.Q i=false→(∀hi:i<x.Cells.length,a12 ds x.Cells[i]=false)→wts ⟨x.Q.L++clt x.Cells ds,x.Q.Cap⟩ i=false:=λi q1 q2=>by
  rw[Bool.eq_false_iff] at q1 ⊢
  intro q
  obtain⟨t,ht,a,b⟩:=a8a.1 q
  rcases List.mem_append.1 ht with c | c
  ·exact q1 (a8a.2 ⟨t,c,a,b⟩)
  ·obtain⟨w,hw,rfl,hh,_⟩:=a5x.1 c
   dsimp only at b
   have:w=i:=by omega
   subst this
   rw[q2 hw] at hh
   cases hh
 refine⟨⟨g.sr,ht,hS.r6,?_,hS.cap,hq30,htk,htd,λh hh=>?_,λh hh v hv=>?_,λk v hkv=>?_,λi hi=>?_⟩,λi hi hti=>?_,λh hh hlt=>?_⟩
 ·unfold a36 clr
  rw[List.length_map]
  exact hS.c6
 ·rcases hS.rt h hh with q | q
  ·exact .inl q
  ·have h0:h≠0:=λe=>b0S hR (e▸q)
   exact .inr ((hlv h).2 ⟨q,λhd=>ho h hd (List.mem_append.2 (.inl (b0Z.2 ⟨hh,h0⟩)))⟩)
 ·obtain⟨a,b⟩:=(hlv h).1 hh
  have hv':v∈(ob x.S h).Fields:=by
   have e:=g.ob h a b
   unfold a36 at hv
   rwa [e] at hv
  rcases hS.fl h a v hv' with q | q
  ·exact .inl q
  ·exact .inr ((hlv v).2 ⟨q,hf h a b v hv'⟩)
 ·obtain⟨a,b⟩:=(h1 k v).1 hkv
  obtain⟨c,d⟩:=hS.pr k v b
  exact⟨(hlv k).2 ⟨c,a⟩,(hlv v).2 ⟨d,hp k v b a⟩⟩
 ·have hi':i<x.Cells.length:=by
   unfold a36 clr at hi
   simpa using hi
  have e:(a36 x ds t).Cells[i]=a6h ds x.Cells[i]:=List.getElem_map _
  obtain⟨a1,a2,a3,a4,a5⟩:=hS.cl i hi'
  obtain⟨b1,b2,b3⟩:=b5q ds x.Cells[i]
  rw[e,b1,b2]
  refine⟨a1,a2,λq=>?_,λq=>?_,λq=>?_⟩
  ·rw[Bool.eq_false_iff]
   intro q2
   rw[a3 q] at b3
   exact absurd (b3.1 q2).1 (by decide)
  ·obtain⟨p,hp1,hp2,hp3⟩:=a4 q
   refine⟨p,by show p<(gnL x.S ds).S.Cells.length;rw[g.len];exact hp1,?_⟩
   show Th (ce (gnL x.S ds) p)∧_=1+(p:Int)+32*(ce (gnL x.S ds) p).Gen
   rw[g.ce]
   split
   ·have hw:=(hx.wk p hp1 hp2).1
    have:=c4M hi' q
    rw[hp3] at this
    unfold gnC
    rw[if_neg (by omega)]
    exact⟨.inr rfl,hp3⟩
   ·exact⟨hp2,hp3⟩
  ·obtain⟨c1,c2⟩:=b3.1 q
   obtain⟨d1,d2⟩:=a5 c1
   have h0:x.Cells[i].Target≠0:=λe=>b0S hR (e▸d1)
   refine⟨(hlv _).2 ⟨d1,λhd=>?_⟩,hwts i d2 λ_=>c2⟩
   have:a12 ds x.Cells[i]=true:=by
    unfold a12
    simp[c1,h0,hd]
   rw[this] at c2
   cases c2
 ·have hi':i<x.S.S.Cells.length:=by
   have:=g.len
   have hi:i<(gnL x.S ds).S.Cells.length:=hi
   omega
  show (ce (gnL x.S ds) i).Val.Weak=(nmg (clr x.Cells ds) (1+(i:Int)+32*(ce (gnL x.S ds) i).Gen):Int)∧((ce (gnL x.S ds) i).State=2→_)
  have hti':Th (ce (gnL x.S ds) i):=hti
  show _∧((ce (gnL x.S ds) i).State=2→1≤(ce (gnL x.S ds) i).Val.Weak∧(ce (gnL x.S ds) i).Val.Fields = []∧(ce (gnL x.S ds) i).Val.Strong=0)
  rw[c4L]
  rw[g.ce] at hti' ⊢
  split
  ·rename_i q
   rw[if_pos q] at hti'
   obtain⟨d,hd,rfl⟩:=List.mem_map.1 q
   have hp:=A9 hR (hm d hd)
   have hw:=(hx.wk _ hi' (.inl hp.2.1)).1
   unfold gnC at hti' ⊢
   split at hti'
   ·exfalso
    unfold Th at hti'
    split at hti' <;> simp at hti'
   ·rename_i q2
    rw[if_neg q2]
    have:=(hR.ok _ hi' (.inl hp.2.1)).wk
    exact⟨hw,λ_=>⟨by dsimp only;omega,rfl,rfl⟩⟩
  ·rename_i q
   rw[if_neg q] at hti'
   exact hx.wk i hi' hti'
 ·obtain⟨a,b⟩:=(hlv h).1 hh
  have e:=g.ob h a b
  have e':ob (a36 x ds t).S h=ob x.S h:=e
  rw[e'] at hlt ⊢
  have hf:=hx.fair h a hlt
  rw[a2N] at hf
  rw[hf]
  have i1:=g.inn hR hn hm h
  have i2:=h2 h
  have i3:b1O ⟨x.Q.L++clt x.Cells ds,x.Q.Cap⟩=b1O x.Q:=b67 _ _ _ λt ht=>by
   obtain⟨w,_,rfl,_⟩:=a5x.1 ht
   simp
  unfold nms otr a36
  dsimp only
  rw[i3,a0q (ds.flatMap (outs x.S)),a0q]
  omega
theorem b3n:∀(l:List Int) {x:Hp},HpS x→Wk x→b4q x l→HpR (l.foldl X4 x)
 | [],x,h1,h2,h3=>⟨h1,h2,h3⟩
 | v::l,x,h1,h2,h3=>b3n l (h1.st v λc=>a0F) (h2.st h1.sr v λc=>a0F) (c3j h1.sr h3)
abbrev srt(o:store_Obj):store_Obj:=⟨o.Serial,o.Strong,o.Weak,o.Prog,true,o.Fields⟩
abbrev qtk(x:Hp)(h:Int):task_Task:=⟨1,h,(ob x.S h).Prog⟩
noncomputable def quH(x:Hp)(h:Int):Hp:=rtn ⟨seO x.S h (srt (ob x.S h)),x.Roots,x.Cells,x.T,⟨x.Q.L ++ [qtk x h],x.Q.Cap⟩⟩ h
theorem b02{x:Hp}(hx:HpR x){h:Int}(hh:h∈lv x.S)(hp:0≤(ob x.S h).Prog)(hs:(ob x.S h).Started=false):HpR (quH x h):=by
 have hS:=hx.sh
 have hR:=hS.sr
 have oko:=L7 hR hh
 have ho:OkO x.S (srt (ob x.S h)):=⟨oko.s1,oko.s2,oko.st,oko.wk,oko.p1,oko.p2,oko.fl⟩
 have r1:=a4j (o:=srt (ob x.S h)) hR hh rfl ho
 have l1:=a7m (o:=srt (ob x.S h)) hR hh rfl ho
 have o1:∀j,j∈lv x.S→ob (seO x.S h (srt (ob x.S h))) j=if j=h then srt (ob x.S h) else ob x.S j:=λj hj=>by
  have:=V0 hR hj
  exact a4i (o:=srt (ob x.S h)) hR hh rfl ho (by omega)
 have hlen:(lv x.S).length≤24:=D2 (p6.2 hR)
 have s1:HpS (wS x (seO x.S h (srt (ob x.S h)))):=hS.of r1 l1 (λk i q=>(c3s (o:=srt (ob x.S h)) hR hh rfl ho).2 q) (λk hk q=>by
  rw[o1 k hk]
  split
  ·rfl
  ·exact q) λk hk v hv=>by
  rw[o1 k hk] at hv
  split at hv
  ·rename_i e;subst e;exact hS.fl k hk v hv
  ·exact hS.fl k hk v hv
 have w1:Wk (wS x (seO x.S h (srt (ob x.S h)))):=λi hi ht=>by
  have L6:=A9 hR hh
  have hc:=c3t (o:=srt (ob x.S h)) hR hh rfl ho i
  dsimp only at hi ht ⊢
  rw[hc] at ht ⊢
  have hi':i<x.S.S.Cells.length:=by unfold seO at hi;rwa [R7] at hi
  split at ht
  ·rename_i e
   subst e
   rw[if_pos rfl]
   dsimp only
   have:=hx.wk _ hi' (.inl L6.2.1)
   rw[a1d hR L6]
   exact⟨this.1,λq=>absurd q (by rw[L6.2.1];decide)⟩
  ·rename_i e
   rw[if_neg e]
   exact hx.wk i hi' ht
 have htd:(x.Q.L ++ [qtk x h]).Pairwise λa b=>¬(a.Kind=b.Kind∧a.At=b.At):=by
  rw[List.pairwise_append]
  refine⟨hS.td,by simp,λa ha b hb q=>?_⟩
  rw[List.mem_singleton] at hb
  subst hb
  dsimp only at q
  rcases (hS.tk a ha).2.2 with c | c
  ·rw[q.2,hs] at c
   exact absurd c.2.2 (by decide)
  ·omega
 have htk:∀t∈x.Q.L ++ [qtk x h],0≤t.Prog∧t.Prog≤5∧((t.Kind=1∧t.At∈lv (seO x.S h (srt (ob x.S h)))∧(ob (seO x.S h (srt (ob x.S h))) t.At).Started=true)∨(t.Kind=2∧0≤t.At∧t.At≤5)):=λt ht=>by
  rcases List.mem_append.1 ht with q | q
  ·exact s1.tk t q
  ·rw[List.mem_singleton] at q
   subst q
   refine⟨hp,oko.p2,.inl ⟨rfl,by rw[l1];exact hh,?_⟩⟩
   dsimp only
   rw[o1 h hh,if_pos rfl]
 have hq30:(x.Q.L ++ [qtk x h]).length≤30:=by
  have:=b3E (m:=lv x.S) htd λt ht=>by
   rcases (htk t ht).2.2 with q | q
   ·exact .inl ⟨q.1,by rw[←l1];exact q.2.1⟩
   ·exact .inr q
  omega
 have s2:HpS ⟨seO x.S h (srt (ob x.S h)),x.Roots,x.Cells,x.T,⟨x.Q.L ++ [qtk x h],x.Q.Cap⟩⟩:=by
  refine⟨s1.sr,s1.hr,s1.r6,s1.c6,s1.cap,hq30,htk,htd,s1.rt,s1.fl,s1.pr,λi hi=>?_⟩
  obtain⟨a,b,c,d,e⟩:=s1.cl i hi
  refine⟨a,b,c,d,λq=>⟨(e q).1,?_⟩⟩
  have:=(e q).2
  rw[Bool.eq_false_iff] at this ⊢
  intro q2
  obtain⟨t,ht,k1,k2⟩:=a8a.1 q2
  rcases List.mem_append.1 ht with q3 | q3
  ·exact this (a8a.2 ⟨t,q3,k1,k2⟩)
  ·rw[List.mem_singleton] at q3
   subst q3
   dsimp only at k1
   omega
 have w2:Wk ⟨seO x.S h (srt (ob x.S h)),x.Roots,x.Cells,x.T,⟨x.Q.L ++ [qtk x h],x.Q.Cap⟩⟩:=w1
 refine⟨s2.st h λc=>a1R,w2.st s2.sr h λc=>a1R,λk hk hlt=>?_⟩
 have hk':k∈lv x.S:=by
  have:lv (quH x h).S=lv x.S:=(a1V s2.sr h λc=>a1R).lv.trans l1
  rw[←this];exact hk
 have hst:(ob (quH x h).S k).Strong=if k=h then a3e (ob x.S k).Strong else (ob x.S k).Strong:=by
  have:=b3x (x:=⟨seO x.S h (srt (ob x.S h)),x.Roots,x.Cells,x.T,⟨x.Q.L ++ [qtk x h],x.Q.Cap⟩⟩) s2.sr h (f:=a3e) (λc=>a1R) (k:=k) (by rw[←l1] at hk';exact hk')
  refine Eq.trans this ?_
  dsimp only
  rw[o1 k hk']
  by_cases e:k=h
  ·subst e
   rw[if_pos rfl,if_pos rfl,if_pos rfl]
  ·rw[if_neg e,if_neg e,if_neg e]
 have hnm:nms (quH x h) k=nms x k+if k=h then 1 else 0:=by
  have:=c0m (x:=⟨seO x.S h (srt (ob x.S h)),x.Roots,x.Cells,x.T,⟨x.Q.L ++ [qtk x h],x.Q.Cap⟩⟩) s2.sr h (f:=a3e) (λc=>a1R) k
  refine Eq.trans this ?_
  have hi:=c4v (o:=srt (ob x.S h)) hR hh rfl ho k
  dsimp only at hi
  have h0:k≠0:=λe=>b0S hR (e▸hk')
  unfold nms otr b1O
  dsimp only
  rw[List.filter_append,List.map_append,a0q,a0q,a0q]
  have:X9 (List.map (·.At) (List.filter (λt:task_Task=>t.Kind==1) [qtk x h])) k=if k=h then 1 else 0:=by
   show X9 [h] k=_
   rw[b0s,a2N]
   by_cases e:k=h
   ·rw[if_pos ⟨e.symm,h0⟩,if_pos e]
   ·rw[if_neg (λq=>e q.1.symm),if_neg e]
  rw[this]
  omega
 rw[hst] at hlt ⊢
 rw[hnm,a2N]
 have hpos:=(L7 hR hk').st
 by_cases e:k=h
 ·rw[if_pos e] at hlt ⊢
  rw[if_pos e]
  have:=hx.fair k hk' (by unfold a3e at hlt;split at hlt <;> omega)
  rw[a2N] at this
  unfold a3e at hlt ⊢
  split at hlt
  ·omega
  ·rename_i q
   rw[if_neg q,if_neg (by omega)]
   omega
 ·rw[if_neg e] at hlt ⊢
  rw[if_neg e]
  have:=hx.fair k hk' hlt
  rw[a2N] at this
  exact this
end Go.Sh
namespace Go.Sh
noncomputable def zr(x:Hp):List Int:=(lv x.S).filter λh=>(ob x.S h).Strong==0
theorem a2w{x:Hp}{h:Int}:h∈zr x↔h∈lv x.S∧(ob x.S h).Strong=0:=by
 unfold zr
 rw[List.mem_filter,beq_iff_eq]
theorem c0v{x:Hp}(hx:HpR x){z:Int}(hz:z∈zr x):nms x z=0:=by
 obtain⟨a,b⟩:=a2w.1 hz
 have:=hx.fair z a (by omega)
 rw[a2N] at this
 omega
theorem c3F{l:List Int}{h:Int}(h0:h≠0)(e:X9 l h=0):h∉l:=λq=>by
 have:=a0f.2 ⟨h0,q⟩
 omega
theorem c2C{α:Type}(f:α→Nat):∀ {l:List α} {a:α},a∈l→f a≤(l.map f).sum
 | b::l,a,h=>by
  rw[List.map_cons,List.sum_cons]
  rcases List.mem_cons.1 h with e | e
  ·subst e;omega
  ·have:=c2C f e;omega
theorem b9J{s:store_Store}{a y:Int}(ha:a∈lv s):X9 (outs s a) y≤inn s y:=c2C (λx=>X9 (outs s x) y) ha
theorem b92{t:Tb}{k v:Int}(h:Has t k v)(h0:v≠0):0<own t v:=List.countP_pos_iff.2 ⟨⟨k,v⟩,a0b.2 h,by simp[h0]⟩
def wot(t:Tb)(ks:List Int):Tb × List Int:=(K4 t ks).getD (t,[])
theorem a5a{t:Tb}(hT:HR t)(ks:List Int)(hks:ks.length≤1000):K4 t ks=some (wot t ks)∧HR (wot t ks).1∧(wot t ks).2.length≤ks.length∧a17 (t.map L6) ks=some ((wot t ks).1.map L6,(wot t ks).2) ∧
  (∀k v,Has (wot t ks).1 k v↔k∉ks∧Has t k v)∧∀y,own (wot t ks).1 y+X9 (wot t ks).2 y=own t y:=by
 obtain⟨a,had,h1,h2,h3,h4,h5,h6,h7,h8,h9⟩:=b8d hT ks hks
 have:wot t ks=(a,had):=by unfold wot;rw[h1];rfl
 rw[this]
 exact⟨h1,h2,h4,h5,h6,h9⟩
noncomputable def buH(x:Hp)(ds:List Int):Hp:=(ds.flatMap (outs x.S)++(wot x.T ds).2).foldl X4 (a36 x ds (wot x.T ds).1)
theorem b0k:∀(l:List Int) {x:Hp},SR x.S→Kin x.S (l.foldl X4 x).S∧l.foldl X4 x=wS x (l.foldl X4 x).S
 | [],x,h=>⟨Kin.refl h,rfl⟩
 | v::l,x,h=>by
  have k1:=a1V h v (f:=a6w) λc=>a0F
  obtain⟨k2,e⟩:=b0k l (x:=X4 x v) k1.sr
  refine⟨k1.trans k2,?_⟩
  show l.foldl X4 (X4 x v)=wS x (l.foldl X4 (X4 x v)).S
  rw[e,c7A x v]
theorem b4u{x:Hp}(hx:HpR x){ds:List Int}(hn:ds.Nodup)(hm:∀d∈ds,d∈lv x.S)
  (ho:∀d∈ds,d∉otr x)(hf:∀h∈lv x.S,h∉ds→∀v∈(ob x.S h).Fields,v∉ds)(hp:∀k v,Has x.T k v→k∉ds→v∉ds):HpR (buH x ds):=by
 have hl:ds.length≤24:=Nat.le_trans (a0U hn hm) (D2 (p6.2 hx.sh.sr))
 obtain⟨_,w1,_,_,w2,w3⟩:=a5a hx.sh.hr ds (by omega)
 obtain⟨a,b,c⟩:=c0A hx hn hm ho hf hp w1 w2 w3
 exact b3n _ a b c
theorem b8o{x:Hp}(hR:SR x.S){ds:List Int}(hn:ds.Nodup)(hm:∀d∈ds,d∈lv x.S):lv (buH x ds).S=(lv x.S).filter λh=>decide (h∉ds):=by
 have g:=a23 ds hR hn hm
 exact (b0k (ds.flatMap (outs x.S)++(wot x.T ds).2) (x:=a36 x ds (wot x.T ds).1) g.sr).1.lv.trans g.lv
theorem c1L{x:Hp}(hR:SR x.S){ds:List Int}(hn:ds.Nodup)(hm:∀d∈ds,d∈lv x.S){k:Int}(hk:k∈lv x.S)(hd:k∉ds):∃n,ob (buH x ds).S k=stg (ob x.S k) n:=by
 have g:=a23 ds hR hn hm
 have hr:=V0 hR hk
 obtain⟨n,e⟩:=(b0k (ds.flatMap (outs x.S)++(wot x.T ds).2) (x:=a36 x ds (wot x.T ds).1) g.sr).1.ob k (by omega)
 refine⟨n,?_⟩
 have e':ob (buH x ds).S k=_:=e
 have g':ob (a36 x ds (wot x.T ds).1).S k=ob x.S k:=g.ob k hk hd
 rw[e',g']
theorem a9d{x:Hp}(hR:SR x.S){ds:List Int}(hn:ds.Nodup)(hm:∀d∈ds,d∈lv x.S):(buH x ds).Roots=x.Roots∧(buH x ds).Cells=clr x.Cells ds∧(buH x ds).T=(wot x.T ds).1∧(buH x ds).Q=⟨x.Q.L++clt x.Cells ds,x.Q.Cap⟩:=by
 have g:=a23 ds hR hn hm
 have e:=(b0k (ds.flatMap (outs x.S)++(wot x.T ds).2) (x:=a36 x ds (wot x.T ds).1) g.sr).2
 have e':buH x ds=wS (a36 x ds (wot x.T ds).1) (buH x ds).S:=e
 rw[e']
 exact⟨rfl,rfl,rfl,rfl⟩
theorem b3Q{x:Hp}(hx:HpR x){z:Int}(hz:z∈zr x):HpR (buH x [z]):=by
 obtain⟨a,b⟩:=a2w.1 hz
 have h0:z≠0:=λe=>b0S hx.sh.sr (e▸a)
 have hn:=c0v hx hz
 unfold nms at hn
 refine b4u hx (by simp) (by simpa using a) (λd hd=>?_) (λh hh hne v hv q=>?_) (λk v hkv _ q=>?_)
 ·rw[List.mem_singleton] at hd
  subst hd
  exact c3F h0 (by omega)
 ·rw[List.mem_singleton] at q
  subst q
  have:=b9J (y:=v) hh
  have h1:=a0f.2 ⟨h0,show v∈outs x.S h from b0Z.2 ⟨hv,h0⟩⟩
  omega
 ·rw[List.mem_singleton] at q
  subst q
  have:=b92 hkv h0
  omega
def due(o:store_Obj):Bool:=decide (0≤o.Prog) && !o.Started
noncomputable def stp(x:Hp):Hp:=match zr x with
 | []=>x
 | z::_=>if due (ob x.S z) then quH x z else buH x [z]
noncomputable def stN:Nat→Hp→Hp
 | 0,x=>x
 | n+1,x=>stN n (stp x)
theorem a3u(n:Nat)(x:Hp):stN (n+1) x=stp (stN n x):=by
 induction n generalizing x with
 | zero=>rfl
 | succ n ih=>exact ih (stp x)
theorem b2j{x:Hp}(h:zr x = []):stp x=x:=by unfold stp;rw[h]
theorem a7s{x:Hp}{z:Int}{l:List Int}(h:zr x=z::l):stp x=if due (ob x.S z) then quH x z else buH x [z]:=by unfold stp;rw[h]
theorem c1t{x:Hp}(hx:HpR x):HpR (stp x):=by
 cases h:zr x with
 | nil=>rw[b2j h];exact hx
 | cons z l=>
  have hz:z∈zr x:=by rw[h];exact List.mem_cons_self ..
  rw[a7s h]
  split
  ·rename_i q
   unfold due at q
   rw[Bool.and_eq_true,decide_eq_true_iff,Bool.not_eq_true'] at q
   exact b02 hx (a2w.1 hz).1 q.1 q.2
  ·exact b3Q hx hz
theorem a1D{x:Hp}(hx:HpR x)(n:Nat):HpR (stN n x):=by
 induction n with
 | zero=>exact hx
 | succ n ih=>rw[a3u];exact c1t ih
section
variable{x:Hp}(hR:SR x.S){h:Int}(hh:h∈lv x.S)
include hR hh
theorem a9Q:Kin (seO x.S h (srt (ob x.S h))) (quH x h).S∧(quH x h).Roots=x.Roots∧(quH x h).Cells=x.Cells∧(quH x h).T=x.T∧(quH x h).Q=⟨x.Q.L ++ [qtk x h],x.Q.Cap⟩:=by
 have oko:=L7 hR hh
 have r1:=a4j (o:=srt (ob x.S h)) hR hh rfl ⟨oko.s1,oko.s2,oko.st,oko.wk,oko.p1,oko.p2,oko.fl⟩
 refine⟨a1V (x:=⟨seO x.S h (srt (ob x.S h)),x.Roots,x.Cells,x.T,⟨x.Q.L ++ [qtk x h],x.Q.Cap⟩⟩) r1 h λc=>a1R,?_⟩
 have e:quH x h=wS ⟨seO x.S h (srt (ob x.S h)),x.Roots,x.Cells,x.T,⟨x.Q.L ++ [qtk x h],x.Q.Cap⟩⟩ (quH x h).S:=c7C _ h
 rw[e]
 exact⟨rfl,rfl,rfl,rfl⟩
theorem b8X:lv (quH x h).S=lv x.S:=by
 have oko:=L7 hR hh
 exact (a9Q hR hh).1.lv.trans (a7m (o:=srt (ob x.S h)) hR hh rfl ⟨oko.s1,oko.s2,oko.st,oko.wk,oko.p1,oko.p2,oko.fl⟩)
theorem b50{k:Int}(hk:k∈lv x.S):∃n,ob (quH x h).S k=stg (if k=h then srt (ob x.S h) else ob x.S k) n:=by
 have oko:=L7 hR hh
 have hr:=V0 hR hk
 obtain⟨n,e⟩:=(a9Q hR hh).1.ob k (by omega)
 refine⟨n,?_⟩
 rw[e,a4i (o:=srt (ob x.S h)) hR hh rfl ⟨oko.s1,oko.s2,oko.st,oko.wk,oko.p1,oko.p2,oko.fl⟩ (by omega)]
end
noncomputable def mu(x:Hp):Nat:=(lv x.S).length+((lv x.S).filter λh => !(ob x.S h).Started).length
theorem c8y{x:Hp}(hR:SR x.S):mu x≤48:=by
 have h1:(lv x.S).length≤24:=D2 (p6.2 hR)
 have h2:((lv x.S).filter λh => !(ob x.S h).Started).length≤(lv x.S).length:=List.length_filter_le ..
 unfold mu
 omega
theorem c7H{x:Hp}(hx:HpR x)(h:zr x ≠ []):mu (stp x)<mu x:=by
 cases hz:zr x with
 | nil=>exact absurd hz h
 | cons z l=>
  have hzm:z∈zr x:=by rw[hz];exact List.mem_cons_self ..
  have hzl:=(a2w.1 hzm).1
  have hR:=hx.sh.sr
  rw[a7s hz]
  split
  ·rename_i q
   unfold due at q
   rw[Bool.and_eq_true,decide_eq_true_iff,Bool.not_eq_true'] at q
   unfold mu
   rw[b8X hR hzl]
   have:=filter_lt (p:=λh => !(ob (quH x z).S h).Started) (q:=λh => !(ob x.S h).Started) (l:=lv x.S) (λk hk hp=>by
    obtain⟨n,e⟩:=b50 hR hzl hk
    rw[e] at hp
    split at hp
    ·exact absurd hp (by simp)
    ·exact hp) z hzl (by rw[q.2];rfl) (by
    obtain⟨n,e⟩:=b50 hR hzl hzl
    rw[e,if_pos rfl]
    rfl)
   omega
  ·unfold mu
   have hn:([z]:List Int).Nodup:=by simp
   have hm:∀d ∈ [z],d∈lv x.S:=by simpa using hzl
   rw[b8o hR hn hm,List.filter_filter]
   have h1:((lv x.S).filter λh=>decide (h ∉ [z])).length<((lv x.S).filter λ_=>true).length:=filter_lt (λ_ _ _=>rfl) z hzl rfl (by simp)
   rw[List.filter_eq_self.2 (λ_ _=>rfl)] at h1
   have h2:((lv x.S).filter λa=>(!(ob (buH x [z]).S a).Started)&&decide (a ∉ [z])).length≤((lv x.S).filter λh => !(ob x.S h).Started).length:=by
    rw[←List.countP_eq_length_filter,←List.countP_eq_length_filter]
    refine List.countP_mono_left λa ha hp=>?_
    rw[Bool.and_eq_true,decide_eq_true_iff] at hp
    obtain⟨n,e⟩:=c1L hR hn hm ha hp.2
    rw[e] at hp
    exact hp.1
   omega
noncomputable def b6k(x:Hp):Hp:=stN 100 x
theorem b1c{x:Hp}(hx:HpR x):∃n,n≤48∧zr (stN n x) = []∧(∀j,j<n→zr (stN j x) ≠ [])∧b6k x=stN n x:=by
 have key:∀m,(∃n,n≤m∧zr (stN n x) = [])∨mu (stN m x)+m≤mu x:=by
  intro m
  induction m with
  | zero=>exact .inr (Nat.le_refl _)
  | succ m ih=>
   rcases ih with ⟨n,h1,h2⟩ | ih
   ·exact .inl ⟨n,by omega,h2⟩
   ·by_cases q:zr (stN m x) = []
    ·exact .inl ⟨m,by omega,q⟩
    ·have:=c7H (a1D hx m) q
     rw[←a3u] at this
     exact .inr (by omega)
 have h48:=c8y hx.sh.sr
 have hex:∃n,n≤48∧zr (stN n x) = []:=by
  rcases key 49 with ⟨n,h1,h2⟩ | h
  ·rcases Nat.lt_or_ge n 49 with q | q
   ·exact⟨n,by omega,h2⟩
   ·rcases key 48 with h | h
    ·exact h
    ·have:mu (stN 48 x)=0:=by omega
     refine⟨48,Nat.le_refl _,?_⟩
     have hl:(lv (stN 48 x).S).length=0:=by unfold mu at this;omega
     unfold zr
     rw[List.eq_nil_of_length_eq_zero hl]
     rfl
  ·omega
 obtain⟨n,⟨hn,hz⟩,hmin⟩:=U2 hex
 refine⟨n,hn,hz,λj hj q=>?_,?_⟩
 ·have:=hmin j ⟨by omega,q⟩
  omega
 ·have:∀k,stN (n+k) x=stN n x:=λk=>by
   induction k with
   | zero=>rfl
   | succ k ih=>rw[show n+(k+1)=(n+k)+1 by omega,a3u,ih,b2j hz]
  have h100:=this (100-n)
  rw[show n+(100-n)=100 by omega] at h100
  exact h100
theorem b9i{x:Hp}(hx:HpR x):HpR (b6k x):=a1D hx 100
theorem c1p{x:Hp}(hx:HpR x):zr (b6k x) = []:=by
 obtain⟨n,_,h,_,e⟩:=b1c hx
 rw[e];exact h
theorem c3w{x:Hp}(h:zr x = []):b6k x=x:=by
 have:∀n,stN n x=x:=λn=>by
  induction n with
  | zero=>rfl
  | succ n ih=>rw[a3u,ih,b2j h]
 exact this 100
end Go.Sh
namespace Go.Sh
section
variable{x:Hp}(hR:SR x.S)
include hR
theorem a13{h:Int}(hh:h∈lv x.S):h≤9223372036854775807:=by have:=V0 hR hh;omega
theorem b0P{h:Int}(hh:h∈lv x.S):r5 x.S h=some (ob x.S h,0):=by
 obtain⟨e,h1,h2⟩:=Q8 (p6.2 hR) (a13 hR hh)
 rw[h1,h2.2 hh]
theorem a10{h:Int}(hh:h∈lv x.S):E2 (sO x.S) h=some (oo (ob x.S h),0):=by
 have:=hR.len
 rw[a6H x.S (by omega) (a13 hR hh),b0P hR hh]
 rfl
theorem zero_eq:a0z x=some (zr x):=by
 have h24:(lv x.S).length≤24:=D2 (p6.2 hR)
 unfold a0z
 simp only[jn]
 rw[a1S (p6.2 hR),d0Y]
 rw[D0 (lv x.S) (λb h=>if (ob x.S h).Strong==0 then b ++ [h] else b) id (λk b=>b.length≤k) (by omega) (Nat.le_refl _) (λk hk b hb=>?_) (λb hb=>by simp)]
 ·rw[foldl_filter]
  rfl
 ·simp only[Int.ofNat_lt,hk,decide_true,if_true,l5 hk,d0Y,b0P hR (List.getElem_mem hk)]
  by_cases c:((ob x.S (lv x.S)[k]).Strong==0)=true
  ·rw[if_pos c,if_pos c,u7 (by omega) (by simp;omega),d0Y,c8]
   exact⟨rfl,by simp;omega⟩
  ·rw[if_neg c,if_neg c,c8]
   exact⟨rfl,by omega⟩
theorem b9t:a4R (hO x)=some (zr x):=by
 have h24:(lv x.S).length≤24:=D2 (p6.2 hR)
 unfold a4R
 simp only[jn]
 rw[show (hO x).S=sO x.S from rfl,a1t (p6.2 hR),d0Y]
 rw[D0 (lv x.S) (λb h=>if (ob x.S h).Strong==0 then b ++ [h] else b) id (λk b=>b.length≤k) (by omega) (Nat.le_refl _) (λk hk b hb=>?_) (λb hb=>by simp)]
 ·rw[foldl_filter]
  rfl
 ·simp only[Int.ofNat_lt,hk,decide_true,if_true,l5 hk,d0Y,a10 hR (List.getElem_mem hk)]
  by_cases c:((ob x.S (lv x.S)[k]).Strong==0)=true
  ·rw[show ((oo (ob x.S (lv x.S)[k])).Strong==0)=true from c,if_pos rfl,if_pos c,u7 (by omega) (by simp;omega),d0Y,c8]
   exact⟨rfl,by simp;omega⟩
  ·rw[if_neg (show ¬((oo (ob x.S (lv x.S)[k])).Strong==0)=true from c),if_neg c,c8]
   exact⟨rfl,by omega⟩
theorem b49:a19 (hO x)=some (decide (zr x = [])):=by
 unfold a19
 rw[b9t hR,d0Y]
 congr 1
 cases zr x <;> simp
 omega
end
noncomputable def quD(x:Hp)(h:Int):Hp:=if h∈lv x.S∧due (ob x.S h)=true then quH x h else x
theorem b6l{s:store_Store}(hR:SR s){h:Int}(hl:h∈lv s):OkO s (srt (ob s h)):=by
 have oko:=L7 hR hl
 exact⟨oko.s1,oko.s2,oko.st,oko.wk,oko.p1,oko.p2,oko.fl⟩
theorem b91(o:store_Obj):I7 o=some (due o):=by
 unfold I7 due
 congr 1
section
variable{x:Hp}(hx:HpR x)(hS:SL x){h:Int}(hh:h≤9223372036854775807)
include hx hS hh
theorem b29(hl:h∈lv x.S)(hd:due (ob x.S h)=true):x.Q.L.length<30:=by
 have hb:0≤(ob x.S h).Prog∧(ob x.S h).Started=false:=by
  unfold due at hd
  rw[Bool.and_eq_true,decide_eq_true_iff,Bool.not_eq_true'] at hd
  exact hd
 have:=(b02 hx hl hb.1 hb.2).sh.q30
 rw[(a9Q hx.sh.sr hl).2.2.2.2] at this
 simp at this
 omega
theorem b42:O1 x h=some (quD x h):=by
 have hR:=hx.sh.sr
 have cap:=hx.sh.cap
 obtain⟨e,h1,h2⟩:=Q8 (p6.2 hR) hh
 unfold O1 quD
 rw[h1,d0Y]
 by_cases hl:h∈lv x.S
 ·have e0:e=0:=h2.2 hl
  subst e0
  have e1:(((0:Int) != 0)==false)=true:=rfl
  simp only[e1,D1,b91,d0Y]
  cases hd:due (ob x.S h)
  ·rw[if_pos (by simp),if_neg (by simp)]
  ·rw[if_neg (by simp),if_pos ⟨hl,rfl⟩]
   have hr:=b29 hx hS hh hl hd
   have hok:=b6l hR hl
   have l1:=a7m (o:=srt (ob x.S h)) hR hl rfl hok
   have r1:=a4j (o:=srt (ob x.S h)) hR hl rfl hok
   rw[b2h (o:=srt (ob x.S h)) hR hl rfl hok,d0Y,c56 _ (by omega),d0Y]
   have et:tad x.Q ⟨1,h,(ob x.S h).Prog⟩=(⟨x.Q.L ++ [qtk x h],x.Q.Cap⟩,0):=by
    unfold tad
    rw[if_neg (by omega)]
   rw[et]
   dsimp only
   rw[c1e r1 hh (λk hk=>?_),d0Y]
   ·rfl
   ·dsimp only at hk ⊢
    rw[l1] at hk
    rw[a4i (o:=srt (ob x.S h)) hR hl rfl hok (a13 hR hk)]
    split
    ·exact hS h hl
    ·exact hS k hk
 ·have e0:e≠0:=λq=>hl (h2.1 q)
  have e1:(e != 0)=true:=by simpa using e0
  rw[e1]
  simp only[show ((true==false)=true)=False by simp,l4,if_false,d0Y,Bool.true_or,if_true]
  rw[if_neg (λq=>hl q.1)]
theorem c1Y:a5I (hO x) h=some (decide (h∈lv x.S)&&due (ob x.S h)):=by
 have hR:=hx.sh.sr
 have hlen:=hR.len
 obtain⟨e,h1,h2⟩:=Q8 (p6.2 hR) hh
 unfold a5I
 rw[show (hO x).S=sO x.S from rfl,a6H x.S (by omega) hh,h1,Option.map_some,d0Y,a7F hR hh,d0Y]
 unfold due oo
 rw[Bool.and_assoc]
theorem b7w:a1z (hO x) h=some (hO (quD x h)):=by
 have hR:=hx.sh.sr
 have cap:=hx.sh.cap
 unfold a1z quD
 rw[c1Y hx hS hh,d0Y]
 by_cases hl:h∈lv x.S
 ·rw[decide_eq_true hl,Bool.true_and]
  cases hd:due (ob x.S h)
  ·rw[if_pos (by simp),if_neg (by simp)]
  ·rw[if_neg (by simp),if_pos ⟨hl,rfl⟩]
   have hr:=b29 hx hS hh hl hd
   have hok:=b6l hR hl
   have l1:=a7m (o:=srt (ob x.S h)) hR hl rfl hok
   have r1:=a4j (o:=srt (ob x.S h)) hR hl rfl hok
   rw[show (hO x).S=sO x.S from rfl,a10 hR hl,d0Y]
   have es:a0c (sO x.S) h (oo (srt (ob x.S h)))=some (sO (seO x.S h (srt (ob x.S h))),0):=b2i hR hl rfl hok
   have es':a0c (sO x.S) h ⟨(oo (ob x.S h)).Serial,(oo (ob x.S h)).Strong,(oo (ob x.S h)).Weak,(oo (ob x.S h)).Prog,true,(oo (ob x.S h)).Fields⟩=some (sO (seO x.S h (srt (ob x.S h))),0):=es
   rw[es',d0Y]
   have ea:a3T (hO x).Q ⟨1,h,(oo (ob x.S h)).Prog⟩=some (tqR ⟨x.Q.L ++ [qtk x h],x.Q.Cap⟩,0):=by
    have:=c51 (q:=x.Q) (qtk x h) (by omega)
    have et:tad x.Q (qtk x h)=(⟨x.Q.L ++ [qtk x h],x.Q.Cap⟩,0):=by
     unfold tad
     rw[if_neg (by omega)]
    rw[et] at this
    exact this
   rw[ea,d0Y]
   have er:=c3e (x:=⟨seO x.S h (srt (ob x.S h)),x.Roots,x.Cells,x.T,⟨x.Q.L ++ [qtk x h],x.Q.Cap⟩⟩) r1 hh (λk hk=>by
    dsimp only at hk ⊢
    rw[l1] at hk
    rw[a4i (o:=srt (ob x.S h)) hR hl rfl hok (a13 hR hk)]
    split
    ·exact hS h hl
    ·exact hS k hk)
   have er':a3n ⟨sO (seO x.S h (srt (ob x.S h))),(hO x).Roots,(hO x).Cells,(hO x).T,tqR ⟨x.Q.L ++ [qtk x h],x.Q.Cap⟩⟩ h=_:=er
   dsimp only
   rw[er',d0Y]
   rfl
 ·rw[decide_eq_false hl,Bool.false_and]
  rw[if_pos (by simp),if_neg (λq=>hl q.1)]
end
noncomputable def lvo(x:Hp)(l:List Int):List Int:=l.foldl (λb h=>if h∈lv x.S∧h∉b then b ++ [h] else b) []
theorem b7i{x:Hp}{z:Int}(hz:z∈lv x.S):lvo x [z] = [z]:=by
 unfold lvo
 simp[hz]
section
variable{x:Hp}(hR:SR x.S)
include hR
theorem a9K(l:List Int)(hl:l.length≤1000)(hb:∀h∈l,h≤9223372036854775807):P7 x l=some (lvo x l):=by
 unfold P7
 simp only[jn]
 have key:=D0 (f:=λ((s20,s21,s22):Int × (List (Int × Bool)) × (List Int))=>
   if (decide (s20<(l.length:Int))) then
     (ix l s20).bind λv32=>
     (r5 x.S v32).bind λv33=>
     if ((v33.2==0)==true) then
      if (!((w9 s21 v32).getD (false:Bool))) then
       (app 8 s22 [v32]).bind λv34=>
       some (Sum.inl (s7 (s20+1),(m8 s21 v32 true),v34))
      else
      some (.inl (s7 (s20+1),s21,s22))
     else
     some (.inl (s7 (s20+1),s21,s22))
   else
   some (.inr s22)) l (λ(b:List (Int × Bool) × List Int) h=>if h∈lv x.S∧h∉b.2 then (m8 b.1 h true,b.2 ++ [h]) else b) (λb=>b.2) (λk b=>b.2.length≤k∧∀d,(w9 b.1 d).getD false=decide (d∈b.2)) (b0:=([],[])) (by omega) ⟨Nat.le_refl _,λd=>by simp[w9]⟩ (λk hk b hb2=>?_) (λb hb2=>by simp)
 ·rw[key,d0Y]
  congr 1
  have:∀(l:List Int) (m:List (Int × Bool)) (b:List Int),(l.foldl (λ(b:List (Int × Bool) × List Int) h=>if h∈lv x.S∧h∉b.2 then (m8 b.1 h true,b.2 ++ [h]) else b) (m,b)).2=l.foldl (λb h=>if h∈lv x.S∧h∉b then b ++ [h] else b) b:=λl=>by
   induction l with
   | nil=>intro m b;rfl
   | cons h l ih=>
    intro m b
    rw[List.foldl_cons,List.foldl_cons]
    by_cases c:h∈lv x.S∧h∉b
    ·rw[if_pos c,if_pos c,ih]
    ·rw[if_neg c,if_neg c,ih]
  exact this l [] []
 ·obtain⟨hb1,hb3⟩:=hb2
  obtain⟨e,h1,h2⟩:=Q8 (p6.2 hR) (hb _ (List.getElem_mem hk))
  simp only[Int.ofNat_lt,hk,decide_true,if_true,l5 hk,d0Y,h1,hb3]
  by_cases hl:l[k]∈lv x.S
  ·have e0:e=0:=h2.2 hl
   subst e0
   by_cases hm:l[k]∈b.2
   ·rw[if_pos (by rfl),if_neg (by simp[hm]),if_neg (λq=>q.2 hm),c8]
    exact⟨rfl,by omega,hb3⟩
   ·rw[if_pos (by rfl),if_pos (by simp[hm]),if_pos ⟨hl,hm⟩,u7 (by omega) (by simp;omega),d0Y,c8]
    refine⟨rfl,by simp;omega,λd=>?_⟩
    rw[a4A]
    by_cases q:d=l[k]
    ·rw[if_pos q]
     simp[q]
    ·rw[if_neg q,hb3]
     simp[q]
  ·have e0:e≠0:=λq=>hl (h2.1 q)
   rw[if_neg (by simp[e0]),if_neg (λq=>hl q.1),c8]
   exact⟨rfl,by omega,hb3⟩
theorem c1Z(l:List Int)(hl:l.length≤1000)(hb:∀h∈l,h≤9223372036854775807):a7c (hO x) l=some (lvo x l):=by
 unfold a7c
 simp only[jn]
 rw[D0 l (λb h=>if h∈lv x.S∧h∉b then b ++ [h] else b) id (λk b=>b.length≤k) (by omega) (Nat.le_refl _) (λk hk b hb2=>?_) (λb hb=>by simp)]
 ·rfl
 ·simp only[Int.ofNat_lt,hk,decide_true,if_true,l5 hk,d0Y,a7F hR (hb _ (List.getElem_mem hk))]
  by_cases hl:l[k]∈lv x.S
  ·have h0:l[k]≠0:=λe=>b0S hR (e▸hl)
   rw[decide_eq_true hl]
   simp only[beq_self_eq_true,D1,a9w b _ (by omega:b.length≤1000000),d0Y,Bool.true_and]
   by_cases hm:l[k]∈b
   ·rw[if_neg (by simp[hm,h0]),if_neg (λq=>q.2 hm),c8]
    exact⟨rfl,by omega⟩
   ·rw[if_pos (by simp[hm]),if_pos ⟨hl,hm⟩,u7 (by omega) (by simp;omega),d0Y,c8]
    exact⟨rfl,by simp;omega⟩
  ·rw[decide_eq_false hl]
   simp only[show ((false==true)=true)=False by simp,l4,if_false,d0Y,Bool.false_and]
   rw[if_neg (by simp),if_neg (λq=>hl q.1),c8]
   exact⟨rfl,by omega⟩
end
end Go.Sh
namespace Go.Sh
theorem b2K{α β:Type}(p:α→Bool)(f:α→β):∀(xs:List α) (acc:List β),xs.foldl (λb x=>if p x then b ++ [f x] else b) acc=acc++(xs.filter p).map f
 | [],acc=>by simp
 | x::xs,acc=>by
  rw[List.foldl_cons,b2K p f xs]
  by_cases h:p x=true
  ·simp[h]
  ·simp[h]
theorem Z9{α:Type}{l:List α}{i:Nat}(h:i<l.length)(d:α):l.getD i d=l[i]:=by
 rw[List.getD_eq_getElem?_getD,List.getElem?_eq_getElem h];rfl
theorem c0B(c:weak_Cell)(ds:List Int)(hl:ds.length≤1000):X6 c ds=some (a12 ds c):=by
 unfold X6 a12
 rw[contains_eq _ _ (by omega)]
 cases (c.Intact&&c.Target != 0)
 ·rfl
 ·simp[l4]
def pks(l:List weak_Cell)(ds:List Int):List Nat:=(List.range l.length).filter λw=>a12 ds (l.getD w cz)
theorem c7g{l:List weak_Cell}{ds:List Int}{w:Nat}(h:w∈pks l ds):w<l.length:=by
 unfold pks at h
 rw[List.mem_filter,List.mem_range] at h
 exact h.1
theorem c48(l:List weak_Cell)(ds:List Int):(pks l ds).length≤l.length:=by
 unfold pks
 exact Nat.le_trans (List.length_filter_le ..) (by simp)
theorem c7h(l:List weak_Cell)(ds:List Int):(pks l ds).Nodup:=List.Pairwise.filter _ List.nodup_range
theorem c38(l:List weak_Cell)(ds:List Int):cls l ds=(pks l ds).filter λw=>decide (0≤(l.getD w cz).Call):=by
 unfold cls pks
 rw[List.filter_filter]
 refine List.filter_congr λw _=>?_
 rw[Bool.and_comm]
def a5s(l:List Nat):List Int:=l.map λ(n:Nat)=>(n:Int)
theorem b5O{l:List Nat}{k:Nat}(h:k<l.length):ix (a5s l) (k:Int)=some ((l[k]:Nat):Int):=by
 unfold a5s
 rw[a0Q,l5 h];rfl
theorem a4x(l:List Nat):(a5s l).length=l.length:=List.length_map ..
theorem c1b(l:List weak_Cell)(ds:List Int)(hl:l.length≤1000)(hd:ds.length≤1000):G8 l ds=some (a5s (pks l ds)):=by
 unfold G8
 simp only[jn]
 have hr:(List.range l.length).length=l.length:=by simp
 have key:=D0 (List.range l.length) (λ(b:List Int) (w:Nat)=>if a12 ds (l.getD w cz) then b ++ [(w:Int)] else b) id (λk b=>b.length≤k) (b0:=[]) (f:=λ((s17,s18):Int × (List Int))=>
   if (decide (s17<(l.length:Int))) then
     (ix l s17).bind λv26=>
     (X6 v26 ds).bind λv27=>
     if v27 then
      (app 8 s18 [s17]).bind λv28=>
      some (Sum.inl (s7 (s17+1),v28))
     else
     some (.inl (s7 (s17+1),s18))
   else
   some (.inr s18)) (by omega) (Nat.le_refl _) (λk hk b hb=>?_) (λb hb=>by simp)
 ·rw[key,b2K]
  rfl
 ·rw[hr] at hk
  simp only[Int.ofNat_lt,hk,decide_true,if_true,l5 hk,d0Y,c0B _ _ hd,List.getElem_range,Z9 hk]
  by_cases c:a12 ds l[k]=true
  ·rw[if_pos c,if_pos c,u7 (by omega) (by simp;omega),d0Y,c8]
   exact⟨rfl,by simp;omega⟩
  ·rw[if_neg c,if_neg c,c8]
   exact⟨rfl,by omega⟩
theorem c0I(l:List weak_Cell)(hl:l.length≤1000):a0B l=some l:=by
 unfold a0B
 rw[c8x (by omega) (by omega),d0Y]
 unfold cpy
 rw[if_pos (by simp),d0Y]
 simp
def a9g(l:List weak_Cell)(K:List Nat):List weak_Cell:=(List.range l.length).map λi=>if i∈K then ⟨(l.getD i cz).Target,false,(l.getD i cz).Call⟩ else l.getD i cz
theorem a4o(l:List weak_Cell)(K:List Nat):(a9g l K).length=l.length:=by simp[a9g]
theorem a9h{l:List weak_Cell}{K:List Nat}{i:Nat}(h:i<(a9g l K).length):(a9g l K)[i]=if i∈K then ⟨(l.getD i cz).Target,false,(l.getD i cz).Call⟩ else l.getD i cz:=by simp[a9g]
theorem c1S(l:List weak_Cell):a9g l []=l:=by
 refine List.ext_getElem (a4o ..) λi h1 h2=>?_
 rw[a9h,if_neg (by simp),Z9 h2]
theorem c0D{l:List weak_Cell}{K:List Nat}{w:Nat}(hw:w<l.length):a9g l (K ++ [w])=(a9g l K).set w ⟨(l.getD w cz).Target,false,(l.getD w cz).Call⟩:=by
 refine List.ext_getElem (by rw[List.length_set,a4o,a4o]) λi h1 h2=>?_
 rw[a9h,List.getElem_set]
 by_cases e:w=i
 ·subst e
  rw[if_pos rfl,if_pos (by simp)]
 ·rw[if_neg e,a9h]
  by_cases q:i∈K
  ·rw[if_pos (List.mem_append_left _ q),if_pos q]
  ·rw[if_neg,if_neg q]
   rw[List.mem_append,List.mem_singleton]
   exact λq2=>q2.elim q λq3=>e q3.symm
theorem c1R(l:List weak_Cell)(ds:List Int):a9g l (pks l ds)=clr l ds:=by
 refine List.ext_getElem (by rw[a4o];simp[clr]) λi h1 h2=>?_
 have hi:i<l.length:=by rw[a4o] at h1;exact h1
 have ec:(clr l ds)[i]=a6h ds l[i]:=List.getElem_map _
 rw[a9h,ec,Z9 hi]
 unfold a6h
 by_cases c:a12 ds l[i]=true
 ·rw[if_pos c,if_pos]
  unfold pks
  rw[List.mem_filter,List.mem_range,Z9 hi]
  exact⟨hi,c⟩
 ·rw[if_neg c,if_neg]
  unfold pks
  rw[List.mem_filter,List.mem_range,Z9 hi]
  exact λq=>c q.2
theorem P9{α:Type}{l:List α}{k:Nat}(h:k<l.length):l.take (k+1)=l.take k ++ [l[k]]:=List.take_succ_eq_append_getElem h
theorem c1O(l:List weak_Cell)(ds:List Int)(hl:l.length≤1000)(hd:ds.length≤1000):a3x l ds=some (clr l ds,a5s (cls l ds)):=by
 unfold a3x
 rw[c1b l ds hl hd,d0Y,c0I l hl,d0Y]
 simp only[jn,a4x]
 have hp:=c48 l ds
 refine M1 (pks l ds).length (λk (b:List weak_Cell × List Int)=>b.1=a9g l ((pks l ds).take k)∧b.2=a5s (((pks l ds).take k).filter λw=>decide (0≤(l.getD w cz).Call))) (by omega) ⟨by simp[c1S],by simp[a5s]⟩ ?_ ?_
 ·rintro k ⟨b1,b2⟩ hk ⟨rfl,rfl⟩
  left
  have hw:=c7g (List.getElem_mem hk)
  have hnm:(pks l ds)[k]∉(pks l ds).take k:=λq=>by
   have hn:=c7h l ds
   rw[←List.take_append_drop k (pks l ds),List.nodup_append] at hn
   exact hn.2.2 _ q (pks l ds)[k] (by rw[List.drop_eq_getElem_cons hk];exact List.mem_cons_self ..) rfl
  have h1:(pks l ds)[k]<(a9g l ((pks l ds).take k)).length:=by rw[a4o];exact hw
  have e1:ix (a9g l ((pks l ds).take k)) (((pks l ds)[k]:Nat):Int)=some (l.getD (pks l ds)[k] cz):=by rw[l5 h1,a9h,if_neg hnm]
  have h2:(pks l ds)[k]<((a9g l ((pks l ds).take k)).set (pks l ds)[k] ⟨(l.getD (pks l ds)[k] cz).Target,false,(l.getD (pks l ds)[k] cz).Call⟩).length:=by rw[List.length_set];exact h1
  have e2:ix ((a9g l ((pks l ds).take k)).set (pks l ds)[k] ⟨(l.getD (pks l ds)[k] cz).Target,false,(l.getD (pks l ds)[k] cz).Call⟩) (((pks l ds)[k]:Nat):Int)=some ⟨(l.getD (pks l ds)[k] cz).Target,false,(l.getD (pks l ds)[k] cz).Call⟩:=by rw[l5 h2,List.getElem_set_self]
  dsimp only
  simp only[Int.ofNat_lt,hk,decide_true,if_true,b5O hk,d0Y,e1,Int.toNat_natCast,e2]
  have hle:(a5s (((pks l ds).take k).filter λw=>decide (0≤(l.getD w cz).Call))).length≤1000:=by
   rw[a4x]
   exact Nat.le_trans (List.length_filter_le ..) (by simp;omega)
  rw[P9 hk,c0D hw,List.filter_append]
  by_cases c:0≤(l.getD (pks l ds)[k] cz).Call
  ·rw[if_pos (decide_eq_true c),u7 (by omega) (by simp only[List.length_cons,List.length_nil];omega),d0Y,c8]
   refine⟨_,rfl,rfl,?_⟩
   rw[List.filter_cons,if_pos (decide_eq_true c)]
   simp[a5s]
  ·rw[if_neg (λq=>c (of_decide_eq_true q)),c8]
   refine⟨_,rfl,rfl,?_⟩
   rw[List.filter_cons,if_neg (λq=>c (of_decide_eq_true q))]
   simp[a5s]
 ·rintro⟨b1,b2⟩ ⟨rfl,rfl⟩
  refine⟨_,if_neg (by simp),?_⟩
  dsimp only
  rw[List.take_length,c1R,←c38]
theorem c8i(c:weak_Cell)(ds:List Int)(hd:ds.length≤1000):((l4 ((wcR c).Intact==true) 0 (H6 ds (wcR c).Target)).bind λv=>some ((wcR c).Intact&&decide (v > 0)))=some (a12 ds c):=by
 unfold a12 wcR
 dsimp only
 cases hI:c.Intact
 ·rfl
 ·simp only[beq_self_eq_true,D1]
  rw[W1 _ _ (by omega),d0Y]
  congr 1
  rw[Bool.true_and,Bool.true_and,Bool.eq_iff_iff]
  simp only[decide_eq_true_iff,Bool.and_eq_true,bne_iff_ne]
  have:=a0f (l:=ds) (h:=c.Target)
  constructor
  ·intro q
   exact this.1 (by omega)
  ·intro q
   have:=this.2 q
   omega
theorem c37(l:List weak_Cell)(ds:List Int)(hl:l.length≤1000)(hd:ds.length≤1000):a7J (l.map wcR) ds=some ((clr l ds).map wcR,a5s (cls l ds)):=by
 unfold a7J
 simp only[jn,List.length_map]
 refine M1 l.length (λk (b:List k9 × List Int)=>b.1=((clr l ds).take k).map wcR∧b.2=a5s ((List.range k).filter λw=>a12 ds (l.getD w cz)&&decide (0≤(l.getD w cz).Call))) (by omega) ⟨by simp,by simp[a5s]⟩ ?_ ?_
 ·rintro k ⟨b1,b2⟩ hk ⟨rfl,rfl⟩
  left
  have hk2:k<(clr l ds).length:=by simp[clr];exact hk
  have e1:ix (l.map wcR) (k:Int)=some (wcR l[k]):=by rw[a0Q,l5 hk];rfl
  have hle:(a5s ((List.range k).filter λw=>a12 ds (l.getD w cz)&&decide (0≤(l.getD w cz).Call))).length≤1000:=by
   rw[a4x]
   exact Nat.le_trans (List.length_filter_le ..) (by simp;omega)
  dsimp only
  simp only[Int.ofNat_lt,hk,decide_true,if_true,e1,d0Y]
  obtain⟨v,hv,hv2⟩:=a5Y (c8i l[k] ds hd)
  rw[hv,d0Y]
  have hv2:=Option.some.inj hv2
  rw[hv2,P9 hk2,List.map_append,List.range_succ,List.filter_append]
  have ec:(clr l ds)[k]=a6h ds l[k]:=List.getElem_map _
  have lc:(List.map wcR (List.take k (clr l ds))).length≤1000:=by simp[clr];omega
  rw[ec]
  unfold a6h
  by_cases c:a12 ds l[k]=true
  ·rw[if_pos c,if_pos c]
   by_cases c2:0≤l[k].Call
   ·rw[if_pos (by simpa[wcR] using c2),u7 (by omega) (by simp only[List.length_cons,List.length_nil];omega),d0Y,u7 (by omega) (by simp only[List.length_cons,List.length_nil];omega),d0Y,c8]
    refine⟨_,rfl,rfl,?_⟩
    simp only[List.filter_cons,List.filter_nil,Z9 hk,c,c2,decide_true,Bool.and_self,if_true]
    simp[a5s]
   ·rw[if_neg (by simpa[wcR] using c2),u7 (by omega) (by simp only[List.length_cons,List.length_nil];omega),d0Y,c8]
    refine⟨_,rfl,rfl,?_⟩
    simp only[List.filter_cons,List.filter_nil,Z9 hk,c,c2,decide_false,Bool.and_false,Bool.false_eq_true,if_false,List.append_nil]
  ·rw[if_neg c,if_neg c,u7 (by omega) (by simp only[List.length_cons,List.length_nil];omega),d0Y,c8]
   refine⟨_,rfl,rfl,?_⟩
   have c:a12 ds l[k]=false:=by simpa using c
   simp only[List.filter_cons,List.filter_nil,Z9 hk,c,Bool.false_and,Bool.false_eq_true,if_false,List.append_nil]
 ·rintro⟨b1,b2⟩ ⟨rfl,rfl⟩
  refine⟨_,if_neg (by simp),?_⟩
  dsimp only
  rw[List.take_of_length_le (by simp[clr])]
  rfl
end Go.Sh
namespace Go.Sh
def clH(x:Hp)(ds:List Int):Hp:=⟨x.S,x.Roots,clr x.Cells ds,x.T,⟨x.Q.L++clt x.Cells ds,x.Q.Cap⟩⟩
theorem a1L(l:List weak_Cell)(ds:List Int):(clt l ds).length=(cls l ds).length:=List.length_map ..
theorem c1T{l:List weak_Cell}{ds:List Int}{w:Nat}(h:w∈cls l ds):w<l.length:=by
 unfold cls at h
 rw[List.mem_filter,List.mem_range] at h
 exact h.1
theorem c1U{l:List weak_Cell}{ds:List Int}{k:Nat}(h:k<(clt l ds).length):(clt l ds)[k]=⟨2,(((cls l ds)[k]'(by rw[←a1L];exact h):Nat):Int),(l.getD ((cls l ds)[k]'(by rw[←a1L];exact h)) cz).Call⟩:=List.getElem_map _
theorem b6K{l:List weak_Cell}{ds:List Int}{w:Nat}(h:w<l.length):ix (clr l ds) (w:Int)=some (a6h ds l[w]):=by
 unfold clr
 rw[a0Q,l5 h];rfl
section
variable{x:Hp}{ds:List Int}(hc:x.Cells.length≤6)(hd:ds.length≤1000)(hq:(x.Q.L++clt x.Cells ds).length≤30)(hcap:x.Q.Cap=30)
include hc hd hq hcap
theorem b4s{k:Nat}(hk:k<(clt x.Cells ds).length):tad ⟨x.Q.L++(clt x.Cells ds).take k,x.Q.Cap⟩ (clt x.Cells ds)[k]=(⟨x.Q.L++(clt x.Cells ds).take (k+1),x.Q.Cap⟩,0):=by
 rw[List.length_append] at hq
 unfold tad
 rw[if_neg (by dsimp only;rw[List.length_append,List.length_take,hcap];omega),P9 hk,List.append_assoc]
theorem b8p:a03 x ds=some (clH x ds):=by
 unfold a03
 rw[c1O _ _ (by omega) hd,d0Y]
 dsimp only
 simp only[jn,a4x]
 have hq2:=hq
 rw[List.length_append] at hq2
 refine M1 (cls x.Cells ds).length (λk (q:TQ)=>q=⟨x.Q.L++(clt x.Cells ds).take k,x.Q.Cap⟩) (by rw[←a1L];omega) (by simp) ?_ ?_
 ·rintro k q hk rfl
  left
  have hw:=c1T (List.getElem_mem hk)
  have hk2:k<(clt x.Cells ds).length:=by rw[a1L];exact hk
  simp only[Int.ofNat_lt,hk,decide_true,if_true,b5O hk,d0Y,b6K hw]
  have et:(⟨2,(((cls x.Cells ds)[k]:Nat):Int),(a6h ds x.Cells[(cls x.Cells ds)[k]]).Call⟩:task_Task)=(clt x.Cells ds)[k]:=by
   rw[c1U,(b5q ds _).2.1,Z9 hw]
  rw[et,c56 _ (by dsimp only;rw[List.length_append,List.length_take];omega),b4s hc hd hq hcap hk2,d0Y,c8 (by rw[←a1L] at hk;omega)]
  exact⟨_,rfl,rfl⟩
 ·rintro q rfl
  refine⟨_,if_neg (by simp),?_⟩
  rw[←a1L,List.take_length]
  rfl
theorem c6h{K:r7→Option c5}:((lp (S:=Int × r7) (E:=r7) (λ((s68,s69):Int × r7)=>
   if (decide (s68<((a5s (cls x.Cells ds)).length:Int))) then
    (ix (a5s (cls x.Cells ds)) s68).bind λv72=>
    (ix ((clr x.Cells ds).map wcR) v72).bind λv73=>
    (a3T s69 (⟨2,v72,v73.Call⟩:m9)).bind λv74=>
    some (.inl (s7 (s68+1),v74.1))
   else
   some (.inr s69)) (0,tqR x.Q)).bind K)=K (tqR (clH x ds).Q):=by
 have hq2:=hq
 rw[List.length_append] at hq2
 have key:=a0m (f:=λ((s68,s69):Int × r7)=>
   if (decide (s68<((a5s (cls x.Cells ds)).length:Int))) then
    (ix (a5s (cls x.Cells ds)) s68).bind λv72=>
    (ix ((clr x.Cells ds).map wcR) v72).bind λv73=>
    (a3T s69 (⟨2,v72,v73.Call⟩:m9)).bind λv74=>
    some (Sum.inl (s7 (s68+1),v74.1))
   else
   some (.inr s69)) (t0:=tqR x.Q) (cls x.Cells ds).length (λk (q:r7)=>q=tqR ⟨x.Q.L++(clt x.Cells ds).take k,x.Q.Cap⟩) (λq=>q=tqR (clH x ds).Q) (by rw[←a1L];omega) (by simp) ?_ ?_
 ·obtain⟨e,h1,h2⟩:=key
  rw[h1,d0Y,h2]
 ·rintro k q hk rfl
  left
  have hw:=c1T (List.getElem_mem hk)
  have hk2:k<(clt x.Cells ds).length:=by rw[a1L];exact hk
  have ei:ix ((clr x.Cells ds).map wcR) (((cls x.Cells ds)[k]:Nat):Int)=some (wcR (a6h ds x.Cells[(cls x.Cells ds)[k]])):=by rw[a0Q,b6K hw];rfl
  simp only[a4x,Int.ofNat_lt,hk,decide_true,if_true,b5O hk,d0Y,ei]
  have et:(⟨2,(((cls x.Cells ds)[k]:Nat):Int),(wcR (a6h ds x.Cells[(cls x.Cells ds)[k]])).Call⟩:m9)=tkR (clt x.Cells ds)[k]:=by
   rw[c1U,Z9 hw]
   show (⟨2,_,(a6h ds x.Cells[(cls x.Cells ds)[k]]).Call⟩:m9)=_
   rw[(b5q ds _).2.1]
   rfl
  rw[et,c51 _ (by dsimp only;rw[List.length_append,List.length_take];omega),b4s hc hd hq hcap hk2,d0Y,c8 (by rw[←a1L] at hk;omega)]
  exact⟨_,rfl,rfl⟩
 ·rintro q rfl
  refine⟨_,if_neg (by rw[a4x];simp),?_⟩
  rw[←a1L,List.take_length]
  rfl
end
theorem b1b(s:store_Store)(i:Nat)(c d:slab_Cell_store_Obj):G3 (G3 s i c) i d=G3 s i d:=by
 unfold G3
 dsimp only
 rw[List.set_set]
section
variable{s:store_Store}(hR:SR s){d:Int}(hd:d∈lv s)
include hR hd
def k1(s:store_Store)(d:Int):store_Store:=G3 s (Z0 d) ⟨1,(ce s (Z0 d)).Gen,ded (ob s d)⟩
def k2(s:store_Store)(d:Int):store_Store:=G3 s (Z0 d) ⟨2,(ce s (Z0 d)).Gen,ded (ob s d)⟩
theorem b5v:OkO s (ded (ob s d)):=by
 have ho:=L7 hR hd
 exact⟨ho.s1,ho.s2,Int.le_refl _,ho.wk,ho.p1,ho.p2,Nat.zero_le _⟩
theorem b8M:seO s d (ded (ob s d))=k1 s d:=by
 have q:=A9 hR hd
 unfold seO a0V k1 G3
 rw[q.2.1]
theorem c5R:At (k1 s d) d (Z0 d):=by
 have q:=A9 hR hd
 refine⟨by unfold k1;rw[a02];exact q.1,?_,?_⟩
 ·unfold k1;rw[L9 q.1,if_pos rfl]
 ·unfold k1;rw[L9 q.1,if_pos rfl];exact q.2.2
theorem c5S:SR (k1 s d):=by rw[←b8M hR hd];exact a4j (o:=ded (ob s d)) hR hd rfl (b5v hR hd)
theorem c5V:SR (k2 s d):=by
 have q:=A9 hR hd
 have hc:=hR.cell _ q.1
 unfold k2
 refine hR.G3 q.1 ⟨by simp,by simp,hc.2.2.1,hc.2.2.2⟩ (λq=>absurd (.inr rfl) q) (λ_=>⟨b5v hR hd,.inl q.2.1,?_⟩)
 show (ob s d).Serial=_
 rw[a1d hR q]
theorem c5T:AtD (k2 s d) d (Z0 d):=by
 have q:=A9 hR hd
 refine⟨by unfold k2;rw[a02];exact q.1,?_,?_⟩
 ·unfold k2;rw[L9 q.1,if_pos rfl];exact .inr rfl
 ·unfold k2;rw[L9 q.1,if_pos rfl];exact q.2.2
theorem c4y:O6 (k1 s d).S d=some ((k2 s d).S,0):=by
 have q:=A9 hR hd
 have hR1:=c5S hR hd
 have q1:=c5R hR hd
 have hr:=V0 hR hd
 have hlen:=hR1.len
 have hH:Hnd d:=((a8R hR1).2 q1.d).2.1
 have hsl:(d-1) % 32=(Z0 d:Nat):=((a8R hR1).2 q1.d).2.2.1
 have hg:(d-1) / 32=(ce s (Z0 d)).Gen:=by
  have:=q.2.2
  have h24:=hR.len
  have:=q.1
  omega
 unfold O6 C0
 rw[a7x hR1 q1.d,d0Y,if_neg (by simp),b9K q1.1,d0Y,q1.2.1,if_neg (by simp),d0Y,if_neg (by simp),a3c (by omega),d0Y,if_pos hH,hsl,a4d (by omega),d0Y,if_pos hH,hg,a75 rfl q1.1 hlen,d0Y]
 have e:(ce (k1 s d) (Z0 d)).Val=ded (ob s d):=by unfold k1;rw[L9 q.1,if_pos rfl]
 rw[e]
 congr 2
 show (G3 (k1 s d) (Z0 d) _).S=(k2 s d).S
 unfold k1 k2
 rw[b1b]
theorem c5O(hw:(ob s d).Weak=0):gvA (k2 s d) (Z0 d)=gnA s d:=by
 have q:=A9 hR hd
 have e:ce (k2 s d) (Z0 d)=⟨2,(ce s (Z0 d)).Gen,ded (ob s d)⟩:=by unfold k2;rw[L9 q.1,if_pos rfl]
 unfold gvA gnA gnC
 rw[e]
 rw[a1d hR q] at hw
 rw[if_pos hw]
 unfold k2
 rw[b1b]
 rfl
theorem c5U(hw:(ob s d).Weak≠0):k2 s d=gnA s d:=by
 have q:=A9 hR hd
 unfold k2 gnA gnC
 rw[a1d hR q] at hw ⊢
 rw[if_neg hw]
end
theorem c0X{x:Hp}(hR:SR x.S){d:Int}(hd:d∈lv x.S):R8 x d=some (wS x (gnA x.S d)):=by
 unfold R8
 rw[b0P hR hd,d0Y]
 have e1:J3 x.S d (⟨(ob x.S d).Serial,0,(ob x.S d).Weak,(ob x.S d).Prog,(ob x.S d).Started,[]⟩:store_Obj)=some (k1 x.S d,0):=by
  rw[←b8M hR hd]
  exact b2h (o:=ded (ob x.S d)) hR hd rfl (b5v hR hd)
 rw[e1,d0Y,c4y hR hd,d0Y]
 by_cases hw:(ob x.S d).Weak=0
 ·rw[if_pos (by simpa using hw),c4n (c5V hR hd) (c5T hR hd),d0Y,c5O hR hd hw]
  rfl
 ·rw[if_neg (by simpa using hw)]
  show some (wS x (k2 x.S d))=_
  rw[c5U hR hd hw]
theorem c6W{s:store_Store}(hR:SR s){d:Int}(hd:d∈lv s):a9X (sO (k1 s d)) d=some (sO (k2 s d)):=by
 have q:=A9 hR hd
 have hR1:=c5S hR hd
 have q1:=c5R hR hd
 have hlen:=hR1.len
 have hr:=V0 hR hd
 have hi:=q1.1
 have hi2:Z0 d<(sO (k1 s d)).Cells.length:=by rw[C4];exact hi
 have L6:Z0 d<(pl (sO (k1 s d))).Cells.length:=by rw[a5z];exact hi2
 have hlen2:(sO (k1 s d)).Cells.length≤24:=by rw[C4];exact hlen
 unfold a9X b3c a9T
 rw[a5A _ (by omega),d0Y,b0M (k1 s d) (by omega),a7x hR1 q1.d,d0Y,if_neg (by simp),b7s hi2,d0Y]
 have hst:(plc (Z0 d) (sO (k1 s d)).Cells[Z0 d]).State=1:=by
  have:=q1.2.1
  rw[G9 hi] at this
  simpa[plc,sO,cO] using this
 have hgen:(plc (Z0 d) (sO (k1 s d)).Cells[Z0 d]).Gen=(ce s (Z0 d)).Gen:=by
  have:(ce (k1 s d) (Z0 d)).Gen=(ce s (Z0 d)).Gen:=by unfold k1;rw[L9 q.1,if_pos rfl]
  rw[G9 hi] at this
  simpa[plc,sO,cO] using this
 rw[hst,if_neg (by simp),d0Y,if_neg (by simp),d0Y]
 dsimp only
 rw[b7s hi2,d0Y]
 have w3:∀c:r8,a0Y (pl (sO (k1 s d))) ((Z0 d:Nat):Int) c=some ⟨(pl (sO (k1 s d))).Cells.set (Z0 d) c,(pl (sO (k1 s d))).Last⟩:=λc=>by
  unfold a0Y
  rw[T5 (by omega) (by rw[a5z];omega),d0Y,l5 L6,d0Y,Int.toNat_natCast]
 rw[w3,d0Y,d0Y,b75 _ _ (by omega) (by simp[a5z]),d0Y,hgen]
 unfold k2
 rw[←b1b s (Z0 d) ⟨1,(ce s (Z0 d)).Gen,ded (ob s d)⟩,c0k]
 show some _=some (⟨(sO (k1 s d)).Cells.set (Z0 d) _,_,_⟩:c9)
 congr 1
 congr 1
 refine List.ext_getElem (by simp) λk h1 h2=>?_
 have hk:k<(k1 s d).S.Cells.length:=by simpa[C4] using h1
 have hk2:k<(sO (k1 s d)).Cells.length:=by rw[C4];exact hk
 have hk3:k<(pl (sO (k1 s d))).Cells.length:=by rw[a5z];exact hk2
 simp only[List.getElem_map,List.getElem_range,List.getElem_set]
 rw[a9u L6,Z9 hk2,Z9 hk3]
 by_cases e:k=Z0 d
 ·subst e
  rw[if_pos rfl,if_pos rfl]
  have e2:(sO (k1 s d)).Cells[Z0 d].Val=oo (ded (ob s d)):=by
   have:(ce (k1 s d) (Z0 d)).Val=ded (ob s d):=by unfold k1;rw[L9 q.1,if_pos rfl]
   rw[←this,G9 hi]
   simp[sO,cO]
  rw[e2]
  rfl
 ·rw[if_neg e,if_neg (Ne.symm e)]
  simp[sO,pl,plc,cO]
theorem c6M{x:Hp}(hR:SR x.S){d:Int}(hd:d∈lv x.S):a4S (hO x) d=some (hO (wS x (gnA x.S d))):=by
 unfold a4S
 rw[show (hO x).S=sO x.S from rfl,a10 hR hd,d0Y]
 have e1:a0c (sO x.S) d (⟨(oo (ob x.S d)).Serial,0,(oo (ob x.S d)).Weak,(oo (ob x.S d)).Prog,(oo (ob x.S d)).Started,[]⟩:z8)=some (sO (k1 x.S d),0):=by
  rw[←b8M hR hd]
  exact b2i (o:=ded (ob x.S d)) hR hd rfl (b5v hR hd)
 rw[e1,d0Y,c6W hR hd,d0Y]
 by_cases hw:(ob x.S d).Weak=0
 ·rw[if_pos (by simpa[oo] using hw),c6I (c5V hR hd) (c5T hR hd),d0Y,c5O hR hd hw]
  rfl
 ·rw[if_neg (by simpa[oo] using hw)]
  show some (hO (wS x (k2 x.S d)))=_
  rw[c5U hR hd hw]
end Go.Sh
namespace Go.Sh
theorem c0c:∀(l:List Int) {x:Hp},SR x.S→SR (l.foldl X4 x).S
 | [],x,h=>h
 | v::l,x,h=>c0c l (x:=X4 x v) (b9b h v)
theorem c0b:∀(l:List Int) {x:Hp},SR x.S→SL x→SL (l.foldl X4 x)
 | [],x,_,h=>h
 | v::l,x,hR,h=>c0b l (x:=X4 x v) (b9b hR v) (h.rls hR v)
theorem c1f(l:List Int){k:Nat}(hk:k<l.length)(x:Hp):(l.take (k+1)).foldl X4 x=X4 ((l.take k).foldl X4 x) l[k]:=by
 rw[P9 hk,List.foldl_append]
 rfl
theorem b6e{y:Hp}(hR:SR y.S)(l:List Int)(hl:l.length≤1000000)(hb:∀v∈l,v≤9223372036854775807){K:Hp→Option Hp}:((lp (S:=Int × hold_Heap) (E:=hold_Heap) (λ((s35,s36):Int × hold_Heap)=>
     if (decide (s35<(l.length:Int))) then
      (ix l s35).bind λv39=>
      (H9 s36 v39).bind λv40=>
      some (.inl (s7 (s35+1),v40))
     else
     some (.inr s36)) (0,y)).bind K)=K (l.foldl X4 y):=by
 have key:=D0 l X4 id (λk z=>SR z.S) (b0:=y) (f:=λ((s35,s36):Int × hold_Heap)=>
     if (decide (s35<(l.length:Int))) then
      (ix l s35).bind λv39=>
      (H9 s36 v39).bind λv40=>
      some (Sum.inl (s7 (s35+1),v40))
     else
     some (.inr s36)) (by omega) hR (λk hk z hz=>?_) (λz hz=>by simp)
 ·rw[key,d0Y]
  rfl
 ·simp only[Int.ofNat_lt,hk,decide_true,if_true,l5 hk,d0Y,b87 hz (hb _ (List.getElem_mem hk))]
  rw[c8]
  exact⟨rfl,b9b hz _⟩
theorem b3l{y:Hp}(hR:SR y.S)(l:List Int)(hl:l.length≤1000000)(hb:∀v∈l,v≤9223372036854775807){K:c5→Option c5}:((lp (S:=Int × c5) (E:=c5) (λ((s45,s46):Int × c5)=>
      if (decide (s45<(l.length:Int))) then
       (ix l s45).bind λv49=>
       (V3 s46 v49).bind λv50=>
       some (.inl (s7 (s45+1),v50))
      else
      some (.inr s46)) (0,hO y)).bind K)=K (hO (l.foldl X4 y)):=by
 have key:=a0m (f:=λ((s45,s46):Int × c5)=>
      if (decide (s45<(l.length:Int))) then
       (ix l s45).bind λv49=>
       (V3 s46 v49).bind λv50=>
       some (Sum.inl (s7 (s45+1),v50))
      else
      some (.inr s46)) (t0:=hO y) l.length (λk z=>z=hO ((l.take k).foldl X4 y)) (λz=>z=hO (l.foldl X4 y)) (by omega) rfl ?_ ?_
 ·obtain⟨e,h1,h2⟩:=key
  rw[h1,d0Y,h2]
 ·rintro k z hk rfl
  left
  have hz:=c0c (l.take k) hR
  simp only[Int.ofNat_lt,hk,decide_true,if_true,l5 hk,d0Y,c1d hz (hb _ (List.getElem_mem hk))]
  rw[c8,←c1f l hk]
  exact⟨_,rfl,rfl⟩
 ·rintro z rfl
  exact⟨_,if_neg (by simp),by rw[List.take_length]⟩
theorem b62(s:store_Store)(ds:List Int){k:Nat}(hk:k<ds.length):gnL s (ds.take (k+1))=gnA (gnL s (ds.take k)) ds[k]:=by
 unfold gnL
 rw[P9 hk,List.foldl_append]
 rfl
section
variable{y:Hp}(hR:SR y.S){ds:List Int}(hn:ds.Nodup)(hm:∀d∈ds,d∈lv y.S)
include hR hn hm
theorem b2T{k:Nat}(hk:k<ds.length):SR (gnL y.S (ds.take k))∧ds[k]∈lv (gnL y.S (ds.take k)):=by
 have g:=a23 (ds.take k) hR ((List.take_sublist k ds).nodup hn) λd hd=>hm d (List.mem_of_mem_take hd)
 refine⟨g.sr,?_⟩
 rw[g.lv,List.mem_filter,decide_eq_true_iff]
 refine⟨hm _ (List.getElem_mem hk),λq=>?_⟩
 rw[←List.take_append_drop k ds,List.nodup_append] at hn
 exact hn.2.2 _ q ds[k] (by rw[List.drop_eq_getElem_cons hk];exact List.mem_cons_self ..) rfl
theorem c0W(hl:ds.length≤1000){K:Hp→Option Hp}:((lp (S:=Int × hold_Heap) (E:=hold_Heap) (λ((s42,s43):Int × hold_Heap)=>
    if (decide (s42<(ds.length:Int))) then
     (ix ds s42).bind λv46=>
     (R8 s43 v46).bind λv47=>
     some (.inl (s7 (s42+1),v47))
    else
    some (.inr s43)) (0,y)).bind K)=K (wS y (gnL y.S ds)):=by
 have key:=a0m (f:=λ((s42,s43):Int × hold_Heap)=>
    if (decide (s42<(ds.length:Int))) then
     (ix ds s42).bind λv46=>
     (R8 s43 v46).bind λv47=>
     some (Sum.inl (s7 (s42+1),v47))
    else
    some (.inr s43)) (t0:=y) ds.length (λk z=>z=wS y (gnL y.S (ds.take k))) (λz=>z=wS y (gnL y.S ds)) (by omega) rfl ?_ ?_
 ·obtain⟨e,h1,h2⟩:=key
  rw[h1,d0Y,h2]
 ·rintro k z hk rfl
  left
  obtain⟨h1,h2⟩:=b2T hR hn hm hk
  simp only[Int.ofNat_lt,hk,decide_true,if_true,l5 hk,d0Y,c0X (x:=wS y (gnL y.S (ds.take k))) h1 h2]
  rw[c8,b62 _ _ hk]
  exact⟨_,rfl,rfl⟩
 ·rintro z rfl
  exact⟨_,if_neg (by simp),by rw[List.take_length]⟩
theorem b7e(hl:ds.length≤1000){K:c5→Option c5}:((lp (S:=Int × c5) (E:=c5) (λ((s52,s53):Int × c5)=>
     if (decide (s52<(ds.length:Int))) then
      (ix ds s52).bind λv56=>
      (a4S s53 v56).bind λv57=>
      some (.inl (s7 (s52+1),v57))
     else
     some (.inr s53)) (0,hO y)).bind K)=K (hO (wS y (gnL y.S ds))):=by
 have key:=a0m (f:=λ((s52,s53):Int × c5)=>
     if (decide (s52<(ds.length:Int))) then
      (ix ds s52).bind λv56=>
      (a4S s53 v56).bind λv57=>
      some (Sum.inl (s7 (s52+1),v57))
     else
     some (.inr s53)) (t0:=hO y) ds.length (λk z=>z=hO (wS y (gnL y.S (ds.take k)))) (λz=>z=hO (wS y (gnL y.S ds))) (by omega) rfl ?_ ?_
 ·obtain⟨e,h1,h2⟩:=key
  rw[h1,d0Y,h2]
 ·rintro k z hk rfl
  left
  obtain⟨h1,h2⟩:=b2T hR hn hm hk
  simp only[Int.ofNat_lt,hk,decide_true,if_true,l5 hk,d0Y,c6M (x:=wS y (gnL y.S (ds.take k))) h1 h2]
  rw[c8,b62 _ _ hk]
  exact⟨_,rfl,rfl⟩
 ·rintro z rfl
  exact⟨_,if_neg (by simp),by rw[List.take_length]⟩
end
section
variable{x:Hp}(hx:HpR x){ds:List Int}(hn:ds.Nodup)(hm:∀d∈ds,d∈lv x.S)
include hx hn hm
theorem b5w:ds.length≤24:=Nat.le_trans (a0U hn hm) (D2 (p6.2 hx.sh.sr))
theorem b5D{d:Int}(hd:d∈lv x.S):(ob x.S d).Fields.length≤4:=(L7 hx.sh.sr hd).fl
theorem b5V{d:Int}(hd:d∈lv x.S):(outs x.S d).length≤4:=Nat.le_trans (b8P _) (b5D hx hn hm hd)
theorem a7C:∀(l:List Int),(∀d∈l,d∈lv x.S)→(l.flatMap (outs x.S)).length≤4*l.length
 | [],_=>by simp
 | d::l,h=>by
  rw[List.flatMap_cons,List.length_append,List.length_cons]
  have:=a7C l λe he=>h e (List.mem_cons_of_mem _ he)
  have:=b5V hx hn hm (h d (List.mem_cons_self ..))
  omega
theorem b9Z:∀v∈ds.flatMap (outs x.S)++(wot x.T ds).2,v≤9223372036854775807:=λv hv=>by
 rcases List.mem_append.1 hv with q | q
 ·obtain⟨d,hd,q⟩:=List.mem_flatMap.1 q
  obtain⟨q,_⟩:=b0Z.1 q
  rcases hx.sh.fl d (hm d hd) v q with e | e
  ·omega
  ·exact a13 hx.sh.sr e
 ·by_cases h0:v=0
  ·omega
  ·have hl:=b5w hx hn hm
   have h3:=(a5a hx.sh.hr ds (by omega)).2.2.2.2.2 v
   have h4:=a0f.2 ⟨h0,q⟩
   have h5:0<own x.T v:=by omega
   obtain⟨p,hp,hq⟩:=List.countP_pos_iff.1 h5
   have hq:(v != 0&&p.Val==v)=true:=hq
   rw[Bool.and_eq_true,beq_iff_eq] at hq
   have:=(hx.sh.pr _ _ (a0b.1 hp)).2
   rw[hq.2] at this
   exact a13 hx.sh.sr this
theorem b7q:(ds.flatMap (outs x.S)++(wot x.T ds).2).length≤200:=by
 have hl:=b5w hx hn hm
 have h1:=a7C hx hn hm ds hm
 have h2:=(a5a hx.sh.hr ds (by omega)).2.2.1
 rw[List.length_append]
 omega
theorem b9w(hq:(x.Q.L++clt x.Cells ds).length≤30){l:List Int}(h1:P7 x l=some ds):V6 x l=some (buH x ds):=by
 have hl:=b5w hx hn hm
 have hR:=hx.sh.sr
 obtain⟨w1,w2,w3,w4,w5,w6⟩:=a5a hx.sh.hr ds (by omega)
 have ol:=b7q hx hn hm
 have fl:=a7C hx hn hm ds hm
 unfold V6
 rw[h1,d0Y,b8p (by have:=hx.sh.c6;omega) (by omega) hq hx.sh.cap,d0Y]
 simp only[jn]
 have key:=D0 ds (λb d=>b++outs x.S d) id (λk b=>b.length≤4*k) (b0:=[]) (f:=λ((s49,s50):Int × (List Int))=>
   if (decide (s49<(ds.length:Int))) then
    (ix ds s49).bind λv53=>
    (r5 (clH x ds).S v53).bind λv54=>
    (a2Y v54.1.Fields).bind λv55=>
    (app 8 s50 v55).bind λv56=>
    some (Sum.inl (s7 (s49+1),v56))
   else
   some (.inr s50)) (by omega) (by simp) (λk hk b hb=>?_) (λb hb=>by simp)
 ·rw[key,d0Y,a1o,List.nil_append]
  dsimp only[id]
  rw[show (clH x ds).T=x.T from rfl,w1,d0Y]
  have ol2:=ol
  rw[List.length_append] at ol2
  rw[u7 (by omega) (by omega),d0Y]
  have k1:=c0W (y:=⟨(clH x ds).S,(clH x ds).Roots,(clH x ds).Cells,(wot x.T ds).1,(clH x ds).Q⟩) hR hn hm (by omega) (K:=λe=>(lp (S:=Int × hold_Heap) (E:=hold_Heap) (λ((s35,s36):Int × hold_Heap)=>
     if (decide (s35<((ds.flatMap (outs x.S)++(wot x.T ds).2).length:Int))) then
      (ix (ds.flatMap (outs x.S)++(wot x.T ds).2) s35).bind λv39=>
      (H9 s36 v39).bind λv40=>
      some (.inl (s7 (s35+1),v40))
     else
     some (.inr s36)) (0,e)).bind λe34=>some e34)
  refine Eq.trans k1 ?_
  have g:=a23 ds hR hn hm
  have k2:=b6e (y:=wS (⟨(clH x ds).S,(clH x ds).Roots,(clH x ds).Cells,(wot x.T ds).1,(clH x ds).Q⟩:Hp) (gnL x.S ds)) g.sr _ (by omega) (b9Z hx hn hm) (K:=λe34=>some e34)
  refine Eq.trans k2 ?_
  rfl
 ·have hd:=hm _ (List.getElem_mem hk)
  have f4:=b5D hx hn hm hd
  have o4:=b5V hx hn hm hd
  simp only[Int.ofNat_lt,hk,decide_true,if_true,l5 hk,d0Y,show (clH x ds).S=x.S from rfl,b0P hR hd,b7m _ (by omega:(ob x.S ds[k]).Fields.length≤1000000)]
  have e:nz (ob x.S ds[k]).Fields=outs x.S ds[k]:=rfl
  rw[e,u7 (by omega) (by omega),d0Y,c8]
  exact⟨rfl,by rw[List.length_append];omega⟩
theorem b4v(hq:(x.Q.L++clt x.Cells ds).length≤30){l:List Int}(h1:a7c (hO x) l=some ds):a4Q (hO x) l=some (hO (buH x ds)):=by
 have hl:=b5w hx hn hm
 have hR:=hx.sh.sr
 obtain⟨w1,w2,w3,w4,w5,w6⟩:=a5a hx.sh.hr ds (by omega)
 have ol:=b7q hx hn hm
 have fl:=a7C hx hn hm ds hm
 have c6:=hx.sh.c6
 unfold a4Q
 rw[h1,d0Y,show (hO x).Cells=x.Cells.map wcR from rfl,c37 _ _ (by omega) (by omega),d0Y]
 simp only[jn]
 rw[show (hO x).Q=tqR x.Q from rfl,c6h (by omega) (by omega) hq hx.sh.cap]
 have key:=D0 ds (λb d=>b++outs x.S d) id (λk b=>b.length≤4*k) (b0:=[]) (f:=λ((s59,s60):Int × (List Int))=>
    if (decide (s59<(ds.length:Int))) then
     (ix ds s59).bind λv63=>
     (E2 (hO x).S v63).bind λv64=>
     (a1w v64.1.Fields).bind λv65=>
     (app 8 s60 v65).bind λv66=>
     some (Sum.inl (s7 (s59+1),v66))
    else
    some (.inr s60)) (by omega) (by simp) (λk hk b hb=>?_) (λb hb=>by simp)
 ·rw[key,d0Y,a1o,List.nil_append]
  dsimp only[id]
  rw[show (hO x).T=x.T.map L6 from rfl,w4,d0Y]
  dsimp only
  have ol2:=ol
  rw[List.length_append] at ol2
  rw[u7 (by omega) (by omega),d0Y]
  have k1:=b7e (y:=⟨(clH x ds).S,(clH x ds).Roots,(clH x ds).Cells,(wot x.T ds).1,(clH x ds).Q⟩) hR hn hm (by omega) (K:=λe=>(lp (S:=Int × c5) (E:=c5) (λ((s45,s46):Int × c5)=>
      if (decide (s45<((ds.flatMap (outs x.S)++(wot x.T ds).2).length:Int))) then
       (ix (ds.flatMap (outs x.S)++(wot x.T ds).2) s45).bind λv49=>
       (V3 s46 v49).bind λv50=>
       some (.inl (s7 (s45+1),v50))
      else
      some (.inr s46)) (0,e)).bind λe44=>some e44)
  refine Eq.trans k1 ?_
  have g:=a23 ds hR hn hm
  have k2:=b3l (y:=wS (⟨(clH x ds).S,(clH x ds).Roots,(clH x ds).Cells,(wot x.T ds).1,(clH x ds).Q⟩:Hp) (gnL x.S ds)) g.sr _ (by omega) (b9Z hx hn hm) (K:=λe44=>some e44)
  refine Eq.trans k2 ?_
  rfl
 ·have hd:=hm _ (List.getElem_mem hk)
  have f4:=b5D hx hn hm hd
  have o4:=b5V hx hn hm hd
  simp only[Int.ofNat_lt,hk,decide_true,if_true,l5 hk,d0Y,show (hO x).S=sO x.S from rfl,a10 hR hd]
  have e:a1w (oo (ob x.S ds[k])).Fields=some (outs x.S ds[k]):=b2Y _ (by show (ob x.S ds[k]).Fields.length≤_;omega)
  rw[e,d0Y,u7 (by omega) (by omega),d0Y,c8]
  exact⟨rfl,by rw[List.length_append];omega⟩
end
end Go.Sh
namespace Go.Sh
theorem c32{x:Hp}(hR:SR x.S)(hS:SL x){ds:List Int}(hn:ds.Nodup)(hm:∀d∈ds,d∈lv x.S)(t:Tb):SL (a36 x ds t):=λk hk=>by
 have g:=a23 ds hR hn hm
 have hk:k∈lv (gnL x.S ds):=hk
 rw[g.lv,List.mem_filter,decide_eq_true_iff] at hk
 have e:ob (a36 x ds t).S k=ob x.S k:=g.ob k hk.1 hk.2
 rw[e]
 exact hS k hk.1
theorem c1M{x:Hp}(hR:SR x.S)(hS:SL x){ds:List Int}(hn:ds.Nodup)(hm:∀d∈ds,d∈lv x.S):SL (buH x ds):=
 c0b _ (x:=a36 x ds (wot x.T ds).1) (a23 ds hR hn hm).sr (c32 hR hS hn hm _)
theorem c3c{x:Hp}(hR:SR x.S)(hS:SL x){h:Int}(hh:h∈lv x.S):SL (quH x h):=by
 have hok:=b6l hR hh
 have r1:=a4j (o:=srt (ob x.S h)) hR hh rfl hok
 refine SL.rtn (x:=⟨seO x.S h (srt (ob x.S h)),x.Roots,x.Cells,x.T,⟨x.Q.L ++ [qtk x h],x.Q.Cap⟩⟩) (λk hk=>?_) r1 h
 dsimp only at hk ⊢
 rw[a7m (o:=srt (ob x.S h)) hR hh rfl hok] at hk
 rw[a4i (o:=srt (ob x.S h)) hR hh rfl hok (a13 hR hk)]
 split
 ·exact hS h hh
 ·exact hS k hk
theorem c7I{x:Hp}(hx:HpR x)(hS:SL x):SL (stp x):=by
 cases h:zr x with
 | nil=>rw[b2j h];exact hS
 | cons z l=>
  have hz:=(a2w.1 (show z∈zr x by rw[h];exact List.mem_cons_self ..)).1
  rw[a7s h]
  split
  ·exact c3c hx.sh.sr hS hz
  ·exact c1M hx.sh.sr hS (by simp) (by simpa using hz)
theorem b6m{x:Hp}(hx:HpR x)(hS:SL x)(n:Nat):SL (stN n x):=by
 induction n with
 | zero=>exact hS
 | succ n ih=>rw[a3u];exact c7I (a1D hx n) ih
theorem c5m{x:Hp}(hx:HpR x)(hS:SL x):SL (b6k x):=b6m hx hS 100
section
variable{x:Hp}(hx:HpR x)(hS:SL x)
include hx hS
theorem b5g{z:Int}(hz:z∈zr x):(x.Q.L++clt x.Cells [z]).length≤30:=by
 have h1:=(b3Q hx hz).sh.q30
 have hzl:=(a2w.1 hz).1
 rw[(a9d hx.sh.sr (ds:=[z]) (by simp) (by simpa using hzl)).2.2.2] at h1
 exact h1
theorem c1i(h:zr x = []):((a0z x).bind λv4=>
  if ((v4.length:Int)==0) then
   some (Sum.inr x)
  else
  (ix v4 0).bind λv5=>
  (r5 x.S v5).bind λv6=>
  (I7 v6.1).bind λv7=>
  if v7 then
   (O1 x v5).bind λv8=>
   some (.inl v8)
  else
  (cut v4 0 1).bind λv9=>
  (V6 x v9).bind λv10=>
  some (Sum.inl (α:=Hp) (β:=Hp) v10))=some (.inr x):=by
 rw[zero_eq hx.sh.sr,d0Y,h]
 rfl
theorem c8b(z:Int)(l:List Int):cut (z::l) 0 1=some [z]:=by
 unfold cut
 rw[if_pos (by simp;omega)]
 simp
theorem b9d(h:zr x ≠ []):((a0z x).bind λv4=>
  if ((v4.length:Int)==0) then
   some (Sum.inr x)
  else
  (ix v4 0).bind λv5=>
  (r5 x.S v5).bind λv6=>
  (I7 v6.1).bind λv7=>
  if v7 then
   (O1 x v5).bind λv8=>
   some (.inl v8)
  else
  (cut v4 0 1).bind λv9=>
  (V6 x v9).bind λv10=>
  some (Sum.inl (α:=Hp) (β:=Hp) v10))=some (.inl (stp x)):=by
 cases hz:zr x with
 | nil=>exact absurd hz h
 | cons z l=>
  have hzm:z∈zr x:=by rw[hz];exact List.mem_cons_self ..
  have hzl:=(a2w.1 hzm).1
  have hR:=hx.sh.sr
  rw[zero_eq hR,d0Y,hz,if_neg (by simp;omega),show ix (z::l) 0=some z from rfl,d0Y,b0P hR hzl,d0Y,b91,d0Y,a7s hz]
  by_cases hd:due (ob x.S z)=true
  ·rw[if_pos hd,if_pos hd,b42 hx hS (a13 hR hzl),d0Y]
   unfold quD
   rw[if_pos ⟨hzl,hd⟩]
  ·rw[if_neg hd,if_neg hd,c8b hx hS,d0Y,b9w hx (ds:=[z]) (by simp) (by simpa using hzl) (b5g hx hS hzm) (by rw[a9K hR [z] (by simp) (by simpa using a13 hR hzl),b7i hzl]),d0Y]
theorem b48:Z4 x=some (b6k x):=by
 obtain⟨n,hn,h1,h2,h3⟩:=b1c hx
 unfold Z4
 refine a3f (λj=>stN j x) rfl n (λ_=>True) (by omega) trivial (λk hk _=>.inl ⟨?_,trivial⟩) (λ_=>⟨stN n x,?_,by rw[h3]⟩)
 ·have:=b9d (a1D hx k) (b6m hx hS k) (h2 k hk)
  rw[←a3u] at this
  exact this
 ·exact c1i (a1D hx n) (b6m hx hS n) h1
theorem c5i{k:Nat}(hk:k<100)(h:zr x ≠ []){E:Type}{e:E}:((a4R (hO x)).bind λv35=>
     if ((v35.length:Int)==0) then
      some (Sum.inr e)
     else
     (ix v35 0).bind λv36=>
     (a5I (hO x) v36).bind λv37=>
     if v37 then
      (a1z (hO x) v36).bind λv38=>
      some (.inl (s7 ((k:Int)+1),v38))
     else
     (cut v35 0 1).bind λv39=>
     (a4Q (hO x) v39).bind λv40=>
     some (Sum.inl (s7 ((k:Int)+1),v40)))=some (.inl (((k+1:Nat):Int),hO (stp x))):=by
 cases hz:zr x with
 | nil=>exact absurd hz h
 | cons z l=>
  have hzm:z∈zr x:=by rw[hz];exact List.mem_cons_self ..
  have hzl:=(a2w.1 hzm).1
  have hR:=hx.sh.sr
  rw[b9t hR,d0Y,hz,if_neg (by simp;omega),show ix (z::l) 0=some z from rfl,d0Y,c1Y hx hS (a13 hR hzl),d0Y,decide_eq_true hzl,Bool.true_and,a7s hz,c8]
  by_cases hd:due (ob x.S z)=true
  ·rw[if_pos hd,if_pos hd,b7w hx hS (a13 hR hzl),d0Y]
   unfold quD
   rw[if_pos ⟨hzl,hd⟩]
  ·rw[if_neg hd,if_neg hd,c8b hx hS,d0Y,b4v hx (ds:=[z]) (by simp) (by simpa using hzl) (b5g hx hS hzm) (by rw[c1Z hR [z] (by simp) (by simpa using a13 hR hzl),b7i hzl]),d0Y]
theorem b70:a3p (hO x)=some (hO (b6k x)):=by
 obtain⟨n,hn,h1,h2,h3⟩:=b1c hx
 unfold a3p
 simp only[jn]
 refine a3f (λj=>((j:Int),hO (stN j x))) (by rfl) n (λ_=>True) (by omega) trivial (λk hk _=>.inl ⟨?_,trivial⟩) (λ_=>⟨.inl (hO (stN n x)),?_,by rw[h3]⟩)
 ·dsimp only
  rw[if_pos (by simp;omega)]
  have:=c5i (a1D hx k) (b6m hx hS k) (k:=k) (by omega) (h2 k hk) (e:=(Sum.inl (hO (stN k x)):c5 ⊕ c5))
  rw[←a3u] at this
  exact this
 ·dsimp only
  rw[if_pos (by simp;omega),b9t (a1D hx n).sh.sr,d0Y,h1]
  rfl
end
end Go.Sh
namespace Go.Sh
end Go.Sh
namespace Go.Sh
end Go.Sh
namespace Go.Sh
end Go.Sh
namespace Go.Sh
def ooI(o:z8):store_Obj:=⟨o.Serial,o.Strong,o.Weak,o.Prog,o.Started,o.Fields⟩
def sOI(s:c9):store_Store:=⟨⟨s.Cells.map λc=>⟨c.State,c.Gen,ooI c.Val⟩,s.Last⟩,s.Serial⟩
def hOI(x:c5):Hp:=⟨sOI x.S,x.Roots,x.Cells.map λc=>⟨c.Target,c.Intact,c.Call⟩,x.T.map λp=>⟨p.State,p.Key,p.Val⟩,⟨x.Q.L.map λt=>⟨t.Kind,t.At,t.Prog⟩,x.Q.Cap⟩⟩
theorem c2u(x:Hp):hOI (hO x)=x:=by
 obtain⟨⟨⟨cs,l⟩,n⟩,r,w,t,⟨q,c⟩⟩:=x
 unfold hOI hO sOI sO tqR
 dsimp only
 have a1:(cs.map cO).map (λc=>(⟨c.State,c.Gen,ooI c.Val⟩:slab_Cell_store_Obj))=cs:=by
  rw[List.map_map]
  refine Eq.trans (List.map_congr_left λa _=>?_) (List.map_id cs)
  rfl
 have a2:(w.map wcR).map (λc=>(⟨c.Target,c.Intact,c.Call⟩:weak_Cell))=w:=by
  rw[List.map_map]
  refine Eq.trans (List.map_congr_left λa _=>?_) (List.map_id w)
  rfl
 have a3:(t.map L6).map (λp=>(⟨p.State,p.Key,p.Val⟩:hash_Place))=t:=by
  rw[List.map_map]
  refine Eq.trans (List.map_congr_left λa _=>?_) (List.map_id t)
  rfl
 have a4:(q.map tkR).map (λt=>(⟨t.Kind,t.At,t.Prog⟩:task_Task))=q:=by
  rw[List.map_map]
  refine Eq.trans (List.map_congr_left λa _=>?_) (List.map_id q)
  rfl
 rw[a1,a2,a3,a4]
theorem c0e{x:Hp}(hx:HpR x){ds:List Int}:(x.Q.L++clt x.Cells ds).length≤30:=by
 have hS:=hx.sh
 have c6:=hS.c6
 have h24:(lv x.S).length≤24:=D2 (p6.2 hS.sr)
 have htd:(x.Q.L++clt x.Cells ds).Pairwise λa b=>¬(a.Kind=b.Kind∧a.At=b.At):=by
  rw[List.pairwise_append]
  refine⟨hS.td,b4y ..,λa ha b hb q=>?_⟩
  obtain⟨w,hw,rfl,hh,_⟩:=a5x.1 hb
  have hi:x.Cells[w].Intact=true:=by
   unfold a12 at hh
   rw[Bool.and_eq_true,Bool.and_eq_true] at hh
   exact hh.1.1
  have:=((hS.cl w hw).2.2.2.2 hi).2
  rw[Bool.eq_false_iff] at this
  exact this (a8a.2 ⟨a,ha,q.1,q.2⟩)
 have:=b3E (m:=lv x.S) htd λt ht=>by
  rcases List.mem_append.1 ht with q | q
  ·rcases (hS.tk t q).2.2 with c | c
   ·exact .inl ⟨c.1,c.2.1⟩
   ·exact .inr c
  ·obtain⟨w,hw,rfl,_,_⟩:=a5x.1 q
   exact .inr ⟨rfl,by dsimp only;omega,by dsimp only;omega⟩
 omega
section
variable{x:Hp}(hB:HB x)
include hB
end
end Go.Sh
namespace Go.Sh
structure Stl (x y:Hp):Prop where
 lv:∀h∈lv y.S,h∈lv x.S
 ser:y.S.Serial=x.S.Serial
 len:y.S.S.Cells.length=x.S.S.Cells.length
 ob:∀h∈Sh.lv y.S,(ob y.S h).Serial=(ob x.S h).Serial∧(Sh.ob y.S h).Prog=(Sh.ob x.S h).Prog∧(Sh.ob y.S h).Fields=(Sh.ob x.S h).Fields∧((Sh.ob x.S h).Started=true→(Sh.ob y.S h).Started=true)
 rt:y.Roots=x.Roots
 cn:y.Cells.length=x.Cells.length
 cl:∀i (h:i<y.Cells.length) (h':i<x.Cells.length),y.Cells[i]=⟨x.Cells[i].Target,x.Cells[i].Intact&&decide (x.Cells[i].Target∈Sh.lv y.S),x.Cells[i].Call⟩
 q:∃l,y.Q=⟨x.Q.L++l,x.Q.Cap⟩∧(∀t∈l,t.Kind=1→t.At∈Sh.lv x.S∧(Sh.ob x.S t.At).Started=false)∧∀h∈Sh.lv y.S,(Sh.ob y.S h).Started=true→(Sh.ob x.S h).Started=false→∃t∈l,t.Kind=1∧t.At=h
 rc:∀h,Q3 x.S x.T (otr x) h→Q3 y.S y.T (otr y) h
 has:∀k v,Has y.T k v→Has x.T k v
theorem Stl.refl{x:Hp}(hx:HpS x):Stl x x:=by
 refine⟨λ_ h=>h,rfl,rfl,λh _=>⟨rfl,rfl,rfl,id⟩,rfl,rfl,λi h h'=>?_,⟨[],by simp,by simp,λh _ a b=>?_⟩,λ_ h=>h,λ_ _ h=>h⟩
 ·have:=(hx.cl i h).2.2.2.2
  cases hI:x.Cells[i].Intact
  ·rw[Bool.false_and,←hI]
  ·rw[decide_eq_true (this hI).1,Bool.and_self,←hI]
 ·rw[a] at b;cases b
theorem Stl.trans{x y z:Hp}(a:Stl x y)(b:Stl y z):Stl x z:=by
 obtain⟨l1,q1,q2,q3⟩:=a.q
 obtain⟨l2,r1,r2,r3⟩:=b.q
 refine⟨λh hh=>a.lv h (b.lv h hh),b.ser.trans a.ser,b.len.trans a.len,λh hh=>?_,b.rt.trans a.rt,b.cn.trans a.cn,λi h h'=>?_,⟨l1++l2,?_,λt ht hk=>?_,λh hh s1 s2=>?_⟩,λh hh=>b.rc h (a.rc h hh),λk v hh=>a.has k v (b.has k v hh)⟩
 ·obtain⟨b1,b2,b3,b4⟩:=b.ob h hh
  obtain⟨a1,a2,a3,a4⟩:=a.ob h (b.lv h hh)
  exact⟨b1.trans a1,b2.trans a2,b3.trans a3,λq=>b4 (a4 q)⟩
 ·have hy:i<y.Cells.length:=by rw[a.cn];exact h'
  rw[b.cl i h hy,a.cl i hy h']
  dsimp only
  congr 1
  rw[Bool.and_assoc]
  congr 1
  by_cases q:x.Cells[i].Target∈Sh.lv z.S
  ·rw[decide_eq_true q,decide_eq_true (b.lv _ q)];rfl
  ·rw[decide_eq_false q,Bool.and_false]
 ·rw[r1,q1,List.append_assoc]
 ·rcases List.mem_append.1 ht with q | q
  ·exact q2 t q hk
  ·obtain⟨e1,e2⟩:=r2 t q hk
   refine⟨a.lv _ e1,?_⟩
   cases hs:(Sh.ob x.S t.At).Started
   ·rfl
   ·rw[(a.ob _ e1).2.2.2 hs] at e2;cases e2
 ·cases hs:(Sh.ob y.S h).Started
  ·obtain⟨t,ht,e⟩:=r3 h hh s1 hs
   exact⟨t,List.mem_append_right _ ht,e⟩
  ·obtain⟨t,ht,e⟩:=q3 h (b.lv h hh) hs s2
   exact⟨t,List.mem_append_left _ ht,e⟩
end Go.Sh
namespace Go.Sh
theorem c1y(l:List Int)(T:Int)(hl:l.length≤1000000)(h0:(0:Int)∉l){k:Nat}(hk:k<1000):((l4 ((false==false)&&(true==true)) 0 (H6 l T)).bind λv21=>
   if (false||(true&&decide (T∈l)) != (true&&decide (v21 > 0)))=true then some (Sum.inr (Sum.inl (β:=Unit) false)) else some (Sum.inl (s7 ((k:Int)+1))))=some (.inl ((k+1:Nat):Int)):=by
 have et:=W1 l T hl
 generalize H6 l T=u at et ⊢
 subst et
 generalize hg:((X9 l T:Nat):Int)=g
 have eo:l4 ((false==false)&&(true==true)) 0 (some g)=some g:=rfl
 rw[eo,d0Y]
 have e:decide (g > 0)=decide (T∈l):=by
  refine decide_eq_decide.2 ⟨λq=>(a0f.1 (by omega)).2,λq=>?_⟩
  have:=a0f.2 ⟨λe=>h0 (e▸q),q⟩
  omega
 rw[e,if_neg (by simp),c8]
section
variable{x:Hp}(hB:HB x)
include hB
end
end Go.Sh
namespace Go.Sh
structure Ks (s s':store_Store):Prop where
 sr:SR s'
 ser:s'.Serial=s.Serial
 lv:lv s'=lv s
 ob:∀h∈Sh.lv s,(ob s' h).Serial=(ob s h).Serial
theorem Ks.refl{s:store_Store}(hR:SR s):Ks s s:=⟨hR,rfl,rfl,λ_ _=>rfl⟩
theorem Ks.trans{a b c:store_Store}(h:Ks a b)(q:Ks b c):Ks a c:=⟨q.sr,q.ser.trans h.ser,q.lv.trans h.lv,λk hk=>(q.ob k (by rw[h.lv];exact hk)).trans (h.ob k hk)⟩
theorem Kin.ks{s s':store_Store}(hR:SR s)(k:Kin s s'):Ks s s':=⟨k.sr,k.ser,k.lv,λh hh=>by
 obtain⟨n,e⟩:=k.ob h (by have:=V0 hR hh;omega)
 rw[e]⟩
theorem Kn.ks{s s':store_Store}(k:Kn s s')(e:s'.Serial=s.Serial):Ks s s':=⟨k.sr,e,k.lv,λh hh=>by
 obtain⟨n,m,e⟩:=k.ob h hh
 rw[e]⟩
end Go.Sh
namespace Go.Sh
end Go.Sh
namespace Go.Sh
section
variable{s:store_Store}(hR:SR s){i:Nat}(hi:i<s.S.Cells.length)(h0:(ce s i).State=0){n:Nat}(hn:n≤4){p:Int}(hp : -1≤p∧p≤5)
include hR hi h0 hn hp
end
theorem c0q{l:List Int}{h:Int}(e:h∉l):X9 l h=0:=Nat.eq_zero_of_not_pos λq=>e (a0f.1 q).2
end Go.Sh
namespace Go.Sh
theorem c0p{l:List Int}(hn:l.Nodup){h:Int}(h0:h≠0)(hm:h∈l):X9 l h=1:=by
 induction l with
 | nil=>cases hm
 | cons a l ih=>
  rw[b0s]
  rw[List.nodup_cons] at hn
  rcases List.mem_cons.1 hm with e | e
  ·subst e
   rw[c0q hn.1,if_pos ⟨rfl,h0⟩]
  ·rw[ih hn.2 e,if_neg (λ(q:a=h∧h≠0)=>hn.1 (q.1▸e))]
end Go.Sh
namespace Go.Sh
theorem b4Q(s:store_Store)(h:s.S.Cells.length≤30):a2P s=some (sO s):=by
 unfold a2P
 simp only[jn,b2o,d0Y]
 have e:=a5v (b:=80) cO s.S.Cells (by omega) (by omega)
 simp only[cO,oo] at e
 rw[e]
 rfl
theorem c5n(s:store_Store):a71 s=some (decide (Sm s)):=by
 unfold a71
 simp only[jn]
 refine E0 (min s.S.Cells.length 30) (λk=>∀j (h:j<s.S.Cells.length),j<k→s.S.Cells[j].Val.Fields.length≤10) (by omega) (λ_ _ h=>by omega) (λk hk hP=>?_) (λhP=>?_)
 ·have hk1:k<s.S.Cells.length:=by omega
  have hk2:k<30:=by omega
  have hc:((decide ((k:Int)<(s.S.Cells.length:Int)))&&(decide ((k:Int)<30)))=true:=by simp;omega
  by_cases g:s.S.Cells[k].Val.Fields.length≤10
  ·refine .inl ⟨?_,λj h hj=>?_⟩
   ·rw[hc]
    simp only[if_true,l5 hk1,d0Y]
    rw[if_neg (by simp;omega),c8]
   ·rcases Nat.lt_or_ge j k with q | q
    ·exact hP j h q
    ·have:j=k:=by omega
     subst this;exact g
  ·refine .inr ⟨.inl false,?_,?_⟩
   ·rw[hc]
    simp only[if_true,l5 hk1,d0Y]
    rw[if_pos (by simp;omega)]
   ·simp only
    rw[decide_eq_false (λq:Sm s=>g (q.2 k hk1))]
 ·refine⟨.inr (),?_,?_⟩
  ·rw[show ((decide (((min s.S.Cells.length 30:Nat):Int)<(s.S.Cells.length:Int)))&&(decide (((min s.S.Cells.length 30:Nat):Int)<30)))=false by
    rcases Nat.lt_or_ge s.S.Cells.length 30 with q | q
    ·simp;omega
    ·simp;omega]
   rfl
  ·simp only
   congr 1
   rw[decide_eq_decide]
   constructor
   ·intro q
    exact⟨by omega,λi h=>hP i h (by omega)⟩
   ·intro q
    have:=q.1
    omega
end Go.Sh
namespace Go.Sh
theorem c3y(t:Tb)(h:t.length≤1000):a73 t=some (t.map L6):=by
 unfold a73
 simp only[jn]
 have e:=a5v (b:=24) L6 t (by omega) (by omega)
 simp only[L6] at e
 rw[e]
 rfl
end Go.Sh
namespace Go.Sh
theorem c8a(l:List weak_Cell)(h:l.length≤1000):a7Z l=some (l.map wcR):=by
 unfold a7Z
 simp only[jn]
 have e:=a5v (b:=24) wcR l (by omega) (by omega)
 simp only[wcR] at e
 rw[e]
 rfl
theorem c8X(q:TQ)(h:q.L.length≤1000):a74 q=some (tqR q):=by
 unfold a74
 simp only[jn]
 have e:=a5v (b:=24) tkR q.L (by omega) (by omega)
 simp only[tkR] at e
 rw[e]
 rfl
theorem c2v{x:Hp}(h1:x.S.S.Cells.length≤30)(h2:x.Cells.length≤1000)(h3:x.T.length≤1000)(h4:x.Q.L.length≤1000):L3 x=some (hO x):=by
 unfold L3
 rw[b4Q x.S h1,d0Y,c8a x.Cells h2,d0Y,c3y x.T h3,d0Y,c8X x.Q h4,d0Y]
 rfl
theorem a5n{x:Hp}(h:HpS x):L3 x=some (hO x):=by
 have h1:=h.sr.len
 have h2:=h.c6
 have h3:=h.hr.l8
 have h4:=h.q30
 exact c2v (by omega) (by omega) (by omega) (by omega)
theorem b6W(x:Hp):a09 x=some (decide (b1j x)):=by
 unfold a09
 rw[c5n,d0Y]
 congr 1
 rw[Bool.eq_iff_iff]
 simp only[Bool.and_eq_true,decide_eq_true_iff]
 unfold b1j
 constructor
 ·rintro⟨⟨⟨⟨a,b⟩,c⟩,d⟩,e⟩
  exact⟨a,by omega,by omega,by omega,by omega⟩
 ·rintro⟨a,b,c,d,e⟩
  exact⟨⟨⟨⟨a,by omega⟩,by omega⟩,by omega⟩,by omega⟩
theorem b4E{x:Hp}(h:HpS x):a09 x=some true:=by rw[b6W,decide_eq_true h.c8h]
theorem c5o{x:Hp}(hB:HB x):∃b,a72 x=some b∧(b=true→HpR x∧x.S.Serial<1000000000):=by
 unfold a72
 rw[b6W,d0Y]
 by_cases c:b1j x∧x.S.Serial<1000000000
 ·have e:((decide (b1j x))&&(decide (x.S.Serial<1000000000)))=true:=by simp[c.1,c.2]
  rw[e]
  obtain⟨f,f2,f3,f4,f5⟩:=c.1
  simp only[beq_self_eq_true,D1,Bool.true_and]
  rw[c2v f.1 (by omega) (by omega) (by omega),d0Y]
  obtain⟨b,h1,h2⟩:=a6L x hB (by have:=f.1;omega) (by omega) (by omega) (by omega) (by omega)
  rw[h1,d0Y]
  exact⟨b,rfl,λq=>⟨h2.1 q,c.2⟩⟩
 ·have e:((decide (b1j x))&&(decide (x.S.Serial<1000000000)))=false:=by
   rw[Bool.and_eq_false_iff,decide_eq_false_iff_not,decide_eq_false_iff_not];exact Decidable.not_and_iff_or_not.1 c
  rw[e]
  exact⟨false,by simp[l4],λq=>by cases q⟩
end Go.Sh
namespace Go.Sh
noncomputable def hdx(x:Hp):List Int:=hld x.S x.T
noncomputable def W2(x:Hp):List Int:=fls x.S x.T (hdx x)
theorem T7{x:Hp}{h:Int}:h∈W2 x↔h∈lv x.S∧¬Q3 x.S x.T (hdx x) h:=by
 classical
 unfold W2 fls
 rw[List.mem_filter,decide_eq_true_iff]
section
variable{x:Hp}(hx:HpR x)
include hx
theorem a1p:(W2 x).Nodup:=List.Pairwise.filter _ (a3g (p6.2 hx.sh.sr))
theorem a0I:∀d∈W2 x,d∈lv x.S:=λd hd=>(T7.1 hd).1
theorem c0f{h:Int}(hl:h∈lv x.S)(hs:(ob x.S h).Strong<12):rst x.S x.T h=(X9 (otr x) h:Int):=b2E.2 hx.fair h hl hs
theorem b19{h:Int}(hl:h∈lv x.S)(ho:h∈otr x):h∈hdx x:=by
 refine a9B.2 ⟨hl,?_⟩
 by_cases hs:(ob x.S h).Strong<12
 ·left
  rw[c0f hx hl hs]
  have:=a0f.2 ⟨λe=>b0S hx.sh.sr (e▸hl),ho⟩
  omega
 ·exact .inr (by omega)
theorem b8J{h:Int}(hh:h∈hdx x):h∈lv x.S∧(h∈otr x∨12≤(ob x.S h).Strong):=by
 obtain⟨hl,hs⟩:=a9B.1 hh
 refine⟨hl,?_⟩
 by_cases q:(ob x.S h).Strong<12
 ·rcases hs with hs | hs
  ·rw[c0f hx hl q] at hs
   exact .inl (a0f.1 (by omega)).2
  ·omega
 ·exact .inr (by omega)
theorem c4k:∀d∈W2 x,d∉otr x:=λd hd q=>by
 obtain⟨a,b⟩:=T7.1 hd
 exact b (.base (b19 hx a q) a)
theorem c4j:∀h∈lv x.S,h∉W2 x→∀v∈(ob x.S h).Fields,v∉W2 x:=λh hh hn v hv q=>by
 obtain⟨a,b⟩:=T7.1 q
 have hr:Q3 x.S x.T (hdx x) h:=Classical.byContradiction λr=>hn (T7.2 ⟨hh,r⟩)
 exact b (.step hr (b0Z.2 ⟨hv,λe=>b0S hx.sh.sr (e▸a)⟩) a)
theorem c4l:∀k v,Has x.T k v→k∉W2 x→v∉W2 x:=λk v hk hn q=>by
 obtain⟨a,b⟩:=T7.1 q
 have hr:Q3 x.S x.T (hdx x) k:=Classical.byContradiction λr=>hn (T7.2 ⟨(hx.sh.pr k v hk).1,r⟩)
 exact b (.pair hk hr a)
theorem R5:HpR (buH x (W2 x)):=b4u hx (a1p hx) (a0I hx) (c4k hx) (c4j hx) (c4l hx)
end
theorem b3o:∀(l:List Int) {x:Hp} (hR:SR x.S) {h:Int} (hh:h∈lv x.S) (hs:12≤(ob x.S h).Strong),12≤(ob (l.foldl X4 x).S h).Strong
 | [],_,_,_,_,hs=>hs
 | v::l,x,hR,h,hh,hs=>by
  have k1:=a1V hR v (f:=a6w) λc=>a0F
  refine b3o l (x:=X4 x v) k1.sr (by
   show h∈lv (stO x v a6w).S
   rw[k1.lv];exact hh) ?_
  show 12≤(ob (stO x v a6w).S h).Strong
  rw[b3x (x:=x) hR (h:=v) (f:=a6w) (λc=>a0F) hh]
  split
  ·unfold a6w
   rw[if_pos hs]
   omega
  ·exact hs
section
variable{x:Hp}(hx:HpR x)
include hx
theorem a8r{h:Int}:h∈lv (buH x (W2 x)).S↔Q3 x.S x.T (hdx x) h:=by
 rw[b8o hx.sh.sr (a1p hx) (a0I hx),List.mem_filter,decide_eq_true_iff,T7]
 constructor
 ·rintro⟨a,b⟩
  exact Classical.byContradiction λr=>b ⟨a,r⟩
 ·intro r
  exact⟨r.live,λq=>q.2 r⟩
theorem c5N{h:Int}(hh:h∈lv (buH x (W2 x)).S):(ob (buH x (W2 x)).S h).Serial=(ob x.S h).Serial∧(ob (buH x (W2 x)).S h).Prog=(ob x.S h).Prog∧(ob (buH x (W2 x)).S h).Fields=(ob x.S h).Fields∧(ob (buH x (W2 x)).S h).Started=(ob x.S h).Started:=by
 have r:=(a8r hx).1 hh
 obtain⟨n,e⟩:=c1L hx.sh.sr (a1p hx) (a0I hx) r.live (λq=>(T7.1 q).2 r)
 rw[e]
 exact⟨rfl,rfl,rfl,rfl⟩
theorem c2n{h:Int}(hh:h∈lv (buH x (W2 x)).S)(hs:12≤(ob x.S h).Strong):12≤(ob (buH x (W2 x)).S h).Strong:=by
 have r:=(a8r hx).1 hh
 have g:=a23 (W2 x) hx.sh.sr (a1p hx) (a0I hx)
 have hn:h∉W2 x:=λq=>(T7.1 q).2 r
 refine b3o _ (x:=a36 x (W2 x) (wot x.T (W2 x)).1) g.sr ?_ ?_
 ·show h∈lv (gnL x.S (W2 x))
  rw[g.lv,List.mem_filter]
  exact⟨r.live,by simpa using hn⟩
 ·show 12≤(ob (gnL x.S (W2 x)) h).Strong
  rw[g.ob h r.live hn]
  exact hs
theorem c6G:otr (buH x (W2 x))=otr x:=by
 obtain⟨e1,_,_,e4⟩:=a9d hx.sh.sr (a1p hx) (a0I hx)
 unfold otr
 rw[e1,e4,b67 _ _ _ λt ht=>by
  obtain⟨w,_,rfl,_⟩:=a5x.1 ht
  simp]
theorem c4i{h:Int}(hh:Q3 x.S x.T (hdx x) h):Q3 (buH x (W2 x)).S (buH x (W2 x)).T (hdx (buH x (W2 x))) h:=by
 have w:=R5 hx
 obtain⟨_,_,e3,_⟩:=a9d hx.sh.sr (a1p hx) (a0I hx)
 have hlen:(W2 x).length≤1000:=by
  have:=a0U (a1p hx) (a0I hx)
  have:=D2 (p6.2 hx.sh.sr)
  omega
 obtain⟨_,_,_,_,w5,_⟩:=a5a hx.sh.hr (W2 x) hlen
 induction hh with
 | base h1 h2=>
  have hl:=(a8r hx).2 (.base h1 h2)
  refine .base ?_ hl
  rcases (b8J hx h1).2 with q | q
  ·exact b19 w hl (by rw[c6G hx];exact q)
  ·exact a9B.2 ⟨hl,.inr (c2n hx hl q)⟩
 | step q0 q1 q2 ih=>
  refine .step ih ?_ ((a8r hx).2 (.step q0 q1 q2))
  unfold outs at q1 ⊢
  rw[(c5N hx ((a8r hx).2 q0)).2.2.1]
  exact q1
 | pair q1 q0 q2 ih=>
  refine .pair ?_ ih ((a8r hx).2 (.pair q1 q0 q2))
  rw[e3]
  exact (w5 _ _).2 ⟨λq=>(T7.1 q).2 q0,q1⟩
theorem b2L:W2 (buH x (W2 x)) = []:=List.eq_nil_iff_forall_not_mem.2 λh hh=>by
 obtain⟨a,b⟩:=T7.1 hh
 exact b (c4i hx ((a8r hx).1 a))
end
theorem b6J{x:Hp}(hx:HpR x)(hg:W2 x = []):zr x = []:=List.eq_nil_iff_forall_not_mem.2 λh hh=>by
 have hl:=(a2w.1 hh).1
 have hs:=(a2w.1 hh).2
 have hf:=c0v hx hh
 have h0:h≠0:=λe=>b0S hx.sh.sr (e▸hl)
 have r:Q3 x.S x.T (hdx x) h:=Classical.byContradiction λr=>by
  have:h∈W2 x:=T7.2 ⟨hl,r⟩
  rw[hg] at this
  cases this
 unfold nms at hf
 cases r with
 | base h1 h2=>
  rcases (b8J hx h1).2 with q | q
  ·have:=a0f.2 ⟨h0,q⟩;omega
  ·omega
 | step q0 q1 q2=>
  have:=b9J (y:=h) q0.live
  have h1:=a0f.2 ⟨h0,q1⟩
  omega
 | pair q1 q0 q2=>
  have:=b92 q1 h0
  omega
theorem b2M{x:Hp}(hx:HpR x):b6k (buH x (W2 x))=buH x (W2 x):=c3w (b6J (R5 hx) (b2L hx))
end Go.Sh
namespace Go.Sh
theorem c2x{c:Int}(h:0≤c):1≤a3e c:=by unfold a3e;split <;> (try split) <;> omega
theorem b8Y{x:Hp}(hR:SR x.S){h:Int}(hh:h∈lv x.S){k:Int}(hk:k∈lv x.S):(ob (quH x h).S k).Strong=if k=h then a3e (ob x.S k).Strong else (ob x.S k).Strong:=by
 have oko:=L7 hR hh
 have ho:OkO x.S (srt (ob x.S h)):=⟨oko.s1,oko.s2,oko.st,oko.wk,oko.p1,oko.p2,oko.fl⟩
 have r1:=a4j (o:=srt (ob x.S h)) hR hh rfl ho
 have l1:lv (seO x.S h (srt (ob x.S h)))=lv x.S:=a7m (o:=srt (ob x.S h)) hR hh rfl ho
 have hr:=V0 hR hk
 have e1:(ob (seO x.S h (srt (ob x.S h))) k).Strong=(ob x.S k).Strong:=by
  rw[a4i (o:=srt (ob x.S h)) hR hh rfl ho (by omega)]
  split
  ·rename_i e;subst e;rfl
  ·rfl
 have:=b3x (x:=⟨seO x.S h (srt (ob x.S h)),x.Roots,x.Cells,x.T,⟨x.Q.L ++ [qtk x h],x.Q.Cap⟩⟩) r1 (h:=h) (f:=a3e) (λc=>a1R) (k:=k) (by
  show k∈lv (seO x.S h (srt (ob x.S h)))
  rw[l1];exact hk)
 rw[show (ob (quH x h).S k).Strong=_ from this]
 show (if k=h then a3e (ob (seO x.S h (srt (ob x.S h))) k).Strong else (ob (seO x.S h (srt (ob x.S h))) k).Strong)=_
 rw[e1]
theorem c7q{x:Hp}(hx:HpR x)(hz:zr x = []){h:Int}(hh:h∈lv x.S):zr (quH x h) = []:=List.eq_nil_iff_forall_not_mem.2 λk hk=>by
 obtain⟨a,b⟩:=a2w.1 hk
 rw[b8X hx.sh.sr hh] at a
 rw[b8Y hx.sh.sr hh a] at b
 have h0:=(L7 hx.sh.sr a).st
 have hn:(ob x.S k).Strong≠0:=λq=>by
  have:k∈zr x:=a2w.2 ⟨a,q⟩
  rw[hz] at this
  cases this
 split at b
 ·have:=c2x h0;omega
 ·exact hn b
structure Qd (x y:Hp) (l:List Int):Prop where
 rt:HpR y
 sl:SL y
 zr:zr y = []
 lv:lv y.S=lv x.S
 ob:∀k∈Sh.lv x.S,∃n,Sh.ob y.S k=stg (if k∈l then srt (Sh.ob x.S k) else Sh.ob x.S k) n
 ro:y.Roots=x.Roots
 ce:y.Cells=x.Cells
 t:y.T=x.T
 q:y.Q=⟨x.Q.L++l.map (qtk x),x.Q.Cap⟩
 ser:y.S.Serial=x.S.Serial
theorem c5d{x:Hp}(hR:SR x.S){h:Int}(hh:h∈lv x.S):(quH x h).S.Serial=x.S.Serial:=(a9Q hR hh).1.ser
theorem b8Z:∀(l:List Int) {x:Hp},HpR x→SL x→Sh.zr x = []→l.Nodup→(∀h∈l,h∈Sh.lv x.S∧due (Sh.ob x.S h)=true)→Qd x (l.foldl quH x) l
 | [],x,hx,hS,hz,_,_=>⟨hx,hS,hz,rfl,λk hk=>⟨(Sh.ob x.S k).Strong,by rw[if_neg (by simp)];rfl⟩,rfl,rfl,rfl,by simp,rfl⟩
 | h::l,x,hx,hS,hz,hn,hd=>by
  obtain⟨hl,hdu⟩:=hd h (List.mem_cons_self ..)
  have hR:=hx.sh.sr
  rw[List.nodup_cons] at hn
  have q2:=hdu
  unfold due at q2
  rw[Bool.and_eq_true,decide_eq_true_iff,Bool.not_eq_true'] at q2
  have h1:=b02 hx hl q2.1 q2.2
  have h2:=c3c hR hS hl
  have h3:=c7q hx hz hl
  have lq:=b8X hR hl
  have oq:∀k∈Sh.lv x.S,k≠h→∃n,Sh.ob (quH x h).S k=stg (Sh.ob x.S k) n:=λk hk hne=>by
   obtain⟨n,e⟩:=b50 hR hl hk
   rw[if_neg hne] at e
   exact⟨n,e⟩
  have ih:=b8Z l h1 h2 h3 hn.2 λk hk=>by
   obtain⟨a,b⟩:=hd k (List.mem_cons_of_mem _ hk)
   obtain⟨n,e⟩:=oq k a λe=>hn.1 (e▸hk)
   refine⟨by rw[lq];exact a,?_⟩
   rw[e]
   exact b
  obtain⟨_,k1,k2,k3,k4⟩:=a9Q hR hl
  refine⟨ih.rt,ih.sl,ih.zr,ih.lv.trans lq,λk hk=>?_,ih.ro.trans k1,ih.ce.trans k2,ih.t.trans k3,?_,ih.ser.trans (c5d hR hl)⟩
  ·obtain⟨n,e⟩:=ih.ob k (by rw[lq];exact hk)
   obtain⟨m,e2⟩:=b50 hR hl hk
   refine⟨n,?_⟩
   show Sh.ob (l.foldl quH (quH x h)).S k=_
   rw[e]
   by_cases c:k=h
   ·subst c
    rw[if_neg hn.1,if_pos (List.mem_cons_self ..),e2,if_pos rfl]
   ·rw[if_neg c] at e2
    by_cases c2:k∈l
    ·rw[if_pos c2,if_pos (List.mem_cons_of_mem _ c2),e2]
    ·rw[if_neg c2,if_neg (λq=>by
      rcases List.mem_cons.1 q with r | r
      ·exact c r
      ·exact c2 r),e2]
  ·show (l.foldl quH (quH x h)).Q=_
   rw[ih.q,k4]
   have:l.map (qtk (quH x h))=l.map (qtk x):=List.map_congr_left λk hk=>by
    obtain⟨a,_⟩:=hd k (List.mem_cons_of_mem _ hk)
    obtain⟨n,e⟩:=oq k a λe=>hn.1 (e▸hk)
    show (⟨1,k,(Sh.ob (quH x h).S k).Prog⟩:task_Task)=⟨1,k,(Sh.ob x.S k).Prog⟩
    rw[e]
   rw[this]
   simp
noncomputable def btc(x:Hp):List Int:=(W2 x).filter λh=>due (Sh.ob x.S h)
noncomputable def col(x:Hp):Hp:=if btc x = [] then buH x (W2 x) else (btc x).foldl quH x
theorem b13{x:Hp}:∀h∈btc x,h∈Sh.lv x.S∧due (Sh.ob x.S h)=true:=λh hh=>by
 obtain⟨a,b⟩:=List.mem_filter.1 hh
 exact⟨(T7.1 a).1,b⟩
theorem c1K{x:Hp}(hx:HpR x):(btc x).Nodup:=List.Pairwise.filter _ (a1p hx)
theorem a8H{x:Hp}(hx:HpR x)(hS:SL x)(hz:zr x = []):Qd x ((btc x).foldl quH x) (btc x):=b8Z _ hx hS hz (c1K hx) b13
theorem a5f{x:Hp}(hx:HpR x)(hS:SL x)(hz:zr x = []):HpR (col x)∧SL (col x)∧zr (col x) = []:=by
 unfold col
 split
 ·exact⟨R5 hx,c1M hx.sh.sr hS (a1p hx) (a0I hx),b6J (R5 hx) (b2L hx)⟩
 ·have q:=a8H hx hS hz
  exact⟨q.rt,q.sl,q.zr⟩
end Go.Sh
namespace Go.Sh
theorem c5v(t:Tb):wot t []=(t,[]):=by
 unfold wot
 have:K4 t []=some (t,[]):=by
  unfold K4
  simp only[jn]
  refine b9P (λs=>s=(t,0,[])) (λ_=>0) rfl (by omega) λs h=>.inr ⟨(t,[]),?_,rfl⟩
  subst h
  rfl
 rw[this]
 rfl
theorem b66(c:weak_Cell):a12 [] c=false:=by unfold a12;simp
theorem b9y(l:List weak_Cell):clr l []=l:=by
 unfold clr
 refine Eq.trans (List.map_congr_left λc _=>?_) (List.map_id l)
 unfold a6h
 rw[b66]
 rfl
theorem c39(l:List weak_Cell):clt l [] = []:=by
 unfold clt cls
 rw[List.map_eq_nil_iff,List.filter_eq_nil_iff]
 intro w _
 rw[b66]
 simp
theorem c33(x:Hp):buH x []=x:=by
 unfold buH
 rw[c5v]
 show a36 x [] x.T=x
 unfold a36
 rw[b9y,c39,List.append_nil]
 rfl
noncomputable def out(x:Hp):List Int:=otr x++(lv x.S).filter λh=>decide (12≤(ob x.S h).Strong)
theorem b5r{y:Hp}(h:btc y = []):col y=buH y (W2 y):=by
 unfold col
 rw[if_pos h]
section
variable{x:Hp}(hx:HpR x)
include hx
theorem b9W{h:Int}(hl:h∈lv x.S):h∈out x↔h∈hdx x:=by
 unfold out
 rw[List.mem_append,List.mem_filter,decide_eq_true_iff]
 constructor
 ·rintro (q | ⟨_,q⟩)
  ·exact b19 hx hl q
  ·exact a9B.2 ⟨hl,.inr q⟩
 ·intro q
  rcases (b8J hx q).2 with r | r
  ·exact .inl r
  ·exact .inr ⟨hl,r⟩
theorem c25{h:Int}:Q3 x.S x.T (out x) h↔Q3 x.S x.T (hdx x) h:=
 ⟨Q3.mono (λ_ _ q=>q) λy hy hl=>.base ((b9W hx hl).1 hy) hl,Q3.mono (λ_ _ q=>q) λy hy hl=>.base ((b9W hx hl).2 hy) hl⟩
theorem c4h:frc x.S x.T (out x)=frc x.S x.T (hdx x):=c0N λh=>c25 hx
theorem c0E(hb:btc x = []):W2 (col x) = []∧btc (col x) = []∧col (col x)=col x:=by
 have e:col x=buH x (W2 x):=by unfold col;rw[if_pos hb]
 have g:W2 (col x) = []:=by rw[e];exact b2L hx
 have b:btc (col x) = []:=by unfold btc;rw[g];rfl
 refine⟨g,b,?_⟩
 rw[b5r b,g,c33]
theorem c0G(hS:SL x)(hz:zr x = []){h:Int}(r:Q3 x.S x.T (hdx x) h):h∈lv (col x).S∧(ob (col x).S h).Serial=(ob x.S h).Serial∧(ob (col x).S h).Fields=(ob x.S h).Fields:=by
 unfold col
 split
 ·have hl:=(a8r hx).2 r
  obtain⟨a,_,c,_⟩:=c5N hx hl
  exact⟨hl,a,c⟩
 ·have q:=a8H hx hS hz
  refine⟨by rw[q.lv];exact r.live,?_⟩
  obtain⟨n,e⟩:=q.ob h r.live
  rw[e]
  split <;> exact⟨rfl,rfl⟩
theorem c1W(hS:SL x)(hz:zr x = []):lv (col x).S=if btc x = [] then (lv x.S).filter (λh=>decide (h∉W2 x)) else lv x.S:=by
 unfold col
 split
 ·exact b8o hx.sh.sr (a1p hx) (a0I hx)
 ·exact (a8H hx hS hz).lv
theorem c0F(hS:SL x)(hz:zr x = []):(col x).Cells=clr x.Cells (if btc x = [] then W2 x else []):=by
 unfold col
 split
 ·exact (a9d hx.sh.sr (a1p hx) (a0I hx)).2.1
 ·rw[b9y]
  exact (a8H hx hS hz).ce
theorem c0H(hS:SL x)(hz:zr x = []){h:Int}(r:Q3 (col x).S (col x).T (btc x) h):h∉W2 (col x):=by
 by_cases hb:btc x = []
 ·rw[hb] at r
  exact absurd r λq=>by
   clear r
   induction q with
   | base h1 _=>cases h1
   | step _ _ _ ih=>exact ih
   | pair _ _ _ ih=>exact ih
 ·have e:col x=(btc x).foldl quH x:=by unfold col;rw[if_neg hb]
  have q:=a8H hx hS hz
  rw[e] at r ⊢
  intro g
  refine (T7.1 g).2 (Q3.mono (λ_ _ q=>q) (λy hy hl=>.base (b19 q.rt hl ?_) hl) r)
  unfold otr
  refine List.mem_append_right _ (b7j.2 ?_)
  rw[q.q]
  exact⟨qtk x y,List.mem_append_right _ (List.mem_map.2 ⟨y,hy,rfl⟩),rfl,rfl⟩
end
end Go.Sh
namespace Go.Sh
section
variable{x:Hp}(hx:HpR x)(hS:SL x)
include hx hS
theorem b2t:D5 x=some (W2 x):=by
 have hB:=b4N hx hS
 unfold D5
 rw[b8H (p6.2 hx.sh.sr) hx.sh.hr hB.tb hB.fb hB.sb]
 rfl
theorem b4x:M8 (hO x)=some (W2 x):=by
 have hB:=b4N hx hS
 unfold M8
 rw[show (hO x).S=sO x.S from rfl,show (hO x).T=x.T.map L6 from rfl,b5H (p6.2 hx.sh.sr) hx.sh.hr hB.tb hB.sb]
 rfl
theorem a5j:(W2 x).length≤24:=Nat.le_trans (List.length_filter_le ..) (D2 (p6.2 hx.sh.sr))
theorem b5o:K3 x=some (btc x):=by
 have hR:=hx.sh.sr
 have hl:=a5j hx hS
 unfold K3
 rw[b2t hx hS,d0Y]
 unfold E8
 simp only[jn]
 refine bnd (a:=btc x) ?_ rfl
 refine M1 (W2 x).length (λk b=>b=((W2 x).take k).filter λh=>due (Sh.ob x.S h)) (by omega) rfl (λk b hk hP=>?_) (λb hP=>?_)
 ·subst hP
  have hm:=a0I hx _ (List.getElem_mem hk)
  have hle:(((W2 x).take k).filter λh=>due (Sh.ob x.S h)).length≤24:=Nat.le_trans (List.length_filter_le ..) (by simp;omega)
  refine .inl ⟨_,?_,rfl⟩
  rw[if_pos (by simpa using hk),l5 hk,d0Y,P9 hk,List.filter_append]
  unfold a2j
  rw[b0P hR hm,d0Y,d0Y]
  have e:(decide ((ob x.S (W2 x)[k],(0:Int)).1.Prog≥0) && !(ob x.S (W2 x)[k],(0:Int)).1.Started)=due (ob x.S (W2 x)[k]):=rfl
  rw[e]
  cases hd:due (ob x.S (W2 x)[k])
  ·rw[if_neg (by simp),c8]
   simp[hd]
  ·rw[if_pos rfl,u7 (by omega) (by simp;omega),d0Y,c8]
   simp[hd]
 ·subst hP
  refine⟨_,if_neg (by simp),?_⟩
  rw[List.take_length]
  rfl
theorem c1J:a2W (hO x)=some (btc x):=by
 have hR:=hx.sh.sr
 have hl:=a5j hx hS
 unfold a2W
 rw[b4x hx hS,d0Y]
 simp only[jn]
 refine M1 (W2 x).length (λk b=>b=((W2 x).take k).filter λh=>due (Sh.ob x.S h)) (by omega) rfl (λk b hk hP=>?_) (λb hP=>?_)
 ·subst hP
  have hm:=a0I hx _ (List.getElem_mem hk)
  have hle:(((W2 x).take k).filter λh=>due (Sh.ob x.S h)).length≤24:=Nat.le_trans (List.length_filter_le ..) (by simp;omega)
  refine .inl ⟨_,?_,rfl⟩
  rw[if_pos (by simpa using hk),l5 hk,d0Y,P9 hk,List.filter_append,c1Y hx hS (a13 hR hm),d0Y,decide_eq_true hm,Bool.true_and]
  cases hd:due (ob x.S (W2 x)[k])
  ·rw[if_neg (by simp),c8]
   simp[hd]
  ·rw[if_pos rfl,u7 (by omega) (by simp;omega),d0Y,c8]
   simp[hd]
 ·subst hP
  refine⟨_,if_neg (by simp),?_⟩
  rw[List.take_length]
  rfl
theorem c1Q:N5 x=some (decide (W2 x = [])):=by
 unfold N5
 rw[b2t hx hS,d0Y]
 congr 1
 cases W2 x <;> simp <;> omega
theorem c1P:a2X (hO x)=some (decide (W2 x = [])):=by
 unfold a2X
 rw[b4x hx hS,d0Y]
 congr 1
 cases W2 x <;> simp <;> omega
noncomputable def cgn(x:Hp):Int:=if btc x = [] then ((lv x.S).length:Int)-((lv (col x).S).length:Int) else 0
omit hx hS in
theorem c2F {l:List Int} (hn:l.Nodup) (hm:∀d∈l,d∈lv x.S):lvo x l=l:=by
 have key:∀(l b:List Int),(b++l).Nodup→(∀d∈l,d∈lv x.S)→l.foldl (λb h=>if h∈lv x.S∧h∉b then b ++ [h] else b) b=b++l:=by
  intro l
  induction l with
  | nil=>intro b _ _;simp
  | cons a l ih=>
   intro b hn hm
   rw[List.foldl_cons]
   have ha:a∉b:=λq=>by
    rw[List.nodup_append] at hn
    exact hn.2.2 a q a (List.mem_cons_self ..) rfl
   rw[if_pos ⟨hm a (List.mem_cons_self ..),ha⟩,ih (b ++ [a]) (by simpa using hn) λd hd=>hm d (List.mem_cons_of_mem _ hd)]
   simp
 exact key l [] (by simpa using hn) hm
variable(hz:zr x = [])
include hz
theorem c0o{k:Nat}(hk:k<(btc x).length):(((btc x).take k).foldl quH x)=(((btc x).take k).foldl quH x)∧HpR (((btc x).take k).foldl quH x)∧SL (((btc x).take k).foldl quH x)∧(btc x)[k]∈lv (((btc x).take k).foldl quH x).S∧due (ob (((btc x).take k).foldl quH x).S (btc x)[k])=true:=by
 have hn:=c1K hx
 have q:=b8Z ((btc x).take k) hx hS hz ((List.take_sublist ..).nodup hn) λh hh=>b13 h (List.mem_of_mem_take hh)
 obtain⟨a,b⟩:=b13 (btc x)[k] (List.getElem_mem hk)
 refine⟨rfl,q.rt,q.sl,by rw[q.lv];exact a,?_⟩
 obtain⟨n,e⟩:=q.ob _ a
 have hnot:(btc x)[k]∉(btc x).take k:=λh=>by
  have:=P9 hk
  have hs:((btc x).take (k+1)).Nodup:=(List.take_sublist ..).nodup hn
  rw[this,List.nodup_append] at hs
  exact hs.2.2 _ h _ (List.mem_singleton_self _) rfl
 rw[e,if_neg hnot]
 exact b
theorem a9c:(btc x).length≤24:=Nat.le_trans (List.length_filter_le ..) (a5j hx hS)
theorem a8O:A5 x=some (col x,((btc x).length:Int),cgn x):=by
 have hR:=hx.sh.sr
 have hl:=a9c hx hS hz
 obtain⟨c1,c2,c3⟩:=a5f hx hS hz
 unfold A5
 rw[b5o hx hS,d0Y]
 simp only[jn]
 refine M1 (btc x).length (λk b=>b=((btc x).take k).foldl quH x) (by omega) rfl (λk b hk hP=>?_) (λb hP=>?_)
 ·subst hP
  obtain⟨_,r1,r2,r3,r4⟩:=c0o hx hS hz hk
  refine .inl ⟨_,?_,rfl⟩
  rw[if_pos (by simpa using hk),l5 hk,d0Y,b42 r1 r2 (a13 r1.sh.sr r3),d0Y,c8,P9 hk,List.foldl_append]
  unfold quD
  rw[if_pos ⟨r3,r4⟩]
  rfl
 ·subst hP
  refine⟨_,if_neg (by simp),?_⟩
  rw[List.take_length]
  by_cases hb:btc x = []
  ·have e:col x=buH x (W2 x):=b5r hb
   rw[if_neg (by simp[hb])]
   unfold cgn
   rw[if_pos hb,e,hb]
   have h1:=a1p hx
   have h2:=a0I hx
   have hlive:=a1S (p6.2 hR)
   have hlive2:=a1S (p6.2 (R5 hx).sh.sr)
   have l1:=D2 (p6.2 hR)
   have l2:=D2 (p6.2 (R5 hx).sh.sr)
   show (D5 x).bind _=_
   rw[b2t hx hS,d0Y,List.foldl_nil,b9w hx h1 h2 (c0e hx) (by rw[a9K hR _ (by have:=a5j hx hS;omega) λh hh=>a13 hR (h2 h hh),c2F h1 h2]),d0Y,b48 (R5 hx) (by rw[←e];exact c2),d0Y,b2M hx,hlive,d0Y,hlive2,d0Y,G7 (by omega) (by omega)]
   rfl
  ·have:0<(btc x).length:=List.length_pos_iff.2 hb
   rw[if_pos (by simp;omega)]
   unfold cgn col
   rw[if_neg hb,if_neg hb]
theorem c5C:a0y (hO x)=some (hO (col x),((btc x).length:Int),cgn x):=by
 have hR:=hx.sh.sr
 have hl:=a9c hx hS hz
 obtain⟨c1,c2,c3⟩:=a5f hx hS hz
 unfold a0y
 rw[c1J hx hS,d0Y]
 simp only[jn]
 by_cases hb:btc x = []
 ·have e:col x=buH x (W2 x):=b5r hb
  rw[if_neg (by simp[hb])]
  unfold cgn
  rw[if_pos hb,e,hb]
  have h1:=a1p hx
  have h2:=a0I hx
  have hlive:=a1t (p6.2 hR)
  have hlive2:=a1t (p6.2 (R5 hx).sh.sr)
  have l1:=D2 (p6.2 hR)
  have l2:=D2 (p6.2 (R5 hx).sh.sr)
  rw[b4x hx hS,d0Y,b4v hx h1 h2 (c0e hx) (by rw[c1Z hR _ (by have:=a5j hx hS;omega) λh hh=>a13 hR (h2 h hh),c2F h1 h2]),d0Y,b70 (R5 hx) (by rw[←e];exact c2),d0Y,b2M hx,show (hO x).S=sO x.S from rfl,hlive,d0Y,show (hO (buH x (W2 x))).S=sO (buH x (W2 x)).S from rfl,hlive2,d0Y,G7 (by omega) (by omega)]
  rfl
 ·have hp:0<(btc x).length:=List.length_pos_iff.2 hb
  rw[if_pos (by simp;omega)]
  refine M1 (btc x).length (λk b=>b=hO (((btc x).take k).foldl quH x)) (by omega) rfl (λk b hk hP=>?_) (λb hP=>?_)
  ·subst hP
   obtain⟨_,r1,r2,r3,r4⟩:=c0o hx hS hz hk
   refine .inl ⟨_,?_,rfl⟩
   rw[if_pos (by simpa using hk),l5 hk,d0Y,b7w r1 r2 (a13 r1.sh.sr r3),d0Y,c8,P9 hk,List.foldl_append]
   unfold quD
   rw[if_pos ⟨r3,r4⟩]
   rfl
  ·subst hP
   refine⟨_,if_neg (by simp),?_⟩
   rw[List.take_length]
   unfold cgn col
   rw[if_neg hb,if_neg hb]
end
end Go.Sh
namespace Go.Sh
theorem c6m{x:Hp}(hB:HB x):∃b,a08 x=some b∧(b=true→HpR x∧x.S.Serial<1000000000∧zr x = []):=by
 obtain⟨b,h1,h2⟩:=c5o hB
 unfold a08
 rw[h1,d0Y]
 cases b
 ·exact⟨false,by simp[l4],λh=>by cases h⟩
 ·obtain⟨hx,hb⟩:=h2 rfl
  rw[beq_self_eq_true,D1,a5n hx.sh,d0Y,D1,b49 hx.sh.sr,d0Y,Bool.true_and]
  exact⟨_,rfl,λh=>⟨hx,hb,of_decide_eq_true h⟩⟩
theorem a9t(hsh:E3=some true){x:Hp}{K:Option Bool}(g:Bool→Bool)(hg:g false=true)(hB:HB x)(h:HpR x→SL x→zr x = []→x.S.Serial<1000000000→g true=false→K=some true):((a08 x).bind λv1=>(l4 ((g v1)==false) false E3).bind λv2=>if ((g v1)||(!v2)) then (E3).bind λv3=>some v3 else K)=some true:=by
 obtain⟨b,h1,h2⟩:=c6m hB
 rw[h1,d0Y,hsh]
 cases hgb:g b
 ·simp only[beq_self_eq_true,D1,d0Y,Bool.not_true,Bool.or_self,Bool.false_eq_true,if_false]
  cases b
  ·rw[hg] at hgb;cases hgb
  ·obtain⟨a,b,c⟩:=h2 rfl
   exact h a (SB.sl a.sh.sr hB.sb) c b hgb
 ·simp[l4]
end Go.Sh
namespace Go.Sh
section
variable{x:Hp}(hsh:E3=some true)(hB:HB x)
include hsh hB
theorem collectDoes:a2t x=some true:=by
 unfold a2t
 refine a9t hsh (λb => !b) rfl hB λhx hS hz hb _=>?_
 obtain⟨c1,c2,c3⟩:=a5f hx hS hz
 have hl:=a5j hx hS
 have hl2:=a9c hx hS hz
 rw[a5n hx.sh,d0Y,a8O hx hS hz,d0Y,c5C hx hS hz,d0Y]
 dsimp only
 rw[b4E c1.sh,d0Y,beq_self_eq_true,D1,b2t hx hS,d0Y,D1,b4x hx hS,d0Y,D1,a5t (by omega),d0Y]
 simp only[beq_self_eq_true,Bool.and_self,D1]
 rw[b5o hx hS,d0Y,c1J hx hS,d0Y,a5t (by omega),d0Y]
 simp only[beq_self_eq_true,Bool.and_self,D1]
 rw[c1Q hx hS,d0Y,c1P hx hS,d0Y]
 simp only[beq_self_eq_true,Bool.and_self,D1]
 rw[a5n c1.sh,d0Y,c3r c1.sh,d0Y]
 rfl
theorem collectStays:a1H x=some true:=by
 unfold a1H
 refine a9t hsh (λb => !b) rfl hB λhx hS hz hb _=>?_
 obtain⟨c1,c2,c3⟩:=a5f hx hS hz
 have hl2:=a9c hx hS hz
 rw[a8O hx hS hz,d0Y]
 dsimp only
 rw[b4E c1.sh,d0Y]
 simp only[Bool.not_true,beq_self_eq_true,D1]
 rw[a5n c1.sh,d0Y,b89 c1 c2,d0Y]
 simp only[Bool.not_true,Bool.or_self,beq_self_eq_true,D1]
 rw[d0Y,b49 c1.sh.sr,d0Y,decide_eq_true c3]
 simp only[Bool.not_true,Bool.or_self,Bool.false_eq_true,if_false]
 by_cases hb:btc x = []
 ·obtain⟨g,b,e⟩:=c0E hx hb
  rw[hb,if_neg (by simp),a8O c1 c2 c3,d0Y,d0Y,c1P c1 c2,d0Y,decide_eq_true g,e]
  dsimp only
  rw[beq_self_eq_true,D1,b4E c1.sh,d0Y,b]
  unfold cgn
  rw[if_pos b,e,Int.sub_self]
  rw[show (((([]:List Int).length:Nat):Int)==0)=true from rfl]
  simp only[beq_self_eq_true,Bool.and_self,D1]
  refine bnd (a5n c1.sh) ?_
  refine bnd (c3r c1.sh) ?_
  rfl
 ·have hp:0<(btc x).length:=List.length_pos_iff.2 hb
  have q:=(a8H hx hS hz).q
  have e:col x=(btc x).foldl quH x:=by unfold col;rw[if_neg hb]
  have q30:=c1.sh.q30
  have q30':=hx.sh.q30
  rw[if_pos (by simp;omega),e,q]
  rw[G7 (by simp;omega) (by simp;omega)]
  simp
  omega
theorem cells_weak:a2u x=some true:=by
 unfold a2u
 refine a9t hsh (λb => !b) rfl hB λhx hS hz hb _=>?_
 obtain⟨c1,c2,c3⟩:=a5f hx hS hz
 have hc:=c0F hx hS hz
 have cn:(col x).Cells.length=x.Cells.length:=by rw[hc];simp[clr]
 have c6:=hx.sh.c6
 have l24:=c1.sh.sr.len
 have lv24:(lv (col x).S).length≤24:=D2 (p6.2 c1.sh.sr)
 rw[a8O hx hS hz,d0Y]
 dsimp only
 rw[b4E c1.sh,d0Y,cn,if_neg (by simp),b4Q _ (by omega),d0Y,a1t (p6.2 c1.sh.sr),d0Y]
 simp only[jn]
 refine E0 x.Cells.length (λ_=>True) (by omega) trivial (λk hk _=>.inl ⟨?_,trivial⟩) (λ_=>⟨.inr (),if_neg (by simp),rfl⟩)
 have hk2:k<(col x).Cells.length:=by rw[cn];exact hk
 have ec:(col x).Cells[k]=a6h (if btc x = [] then W2 x else []) x.Cells[k]:=by
  simp only[hc]
  exact List.getElem_map _
 have hcl:=(hx.sh.cl k hk).2.2.2.2
 have ec2:(col x).Cells[k]=⟨x.Cells[k].Target,x.Cells[k].Intact&&decide (x.Cells[k].Target∈lv (col x).S),x.Cells[k].Call⟩:=by
  rw[ec,c1W hx hS hz]
  unfold a6h a12
  cases hI:x.Cells[k].Intact
  ·rw[if_neg (by simp),Bool.false_and,←hI]
  ·have ht:=(hcl hI).1
   have ht0:x.Cells[k].Target≠0:=λe=>b0S hx.sh.sr (e▸ht)
   split
   ·rename_i hb
    by_cases q:x.Cells[k].Target∈W2 x
    ·rw[if_pos (by simp[q,ht0]),decide_eq_false (by simp[q])]
     rfl
    ·rw[if_neg (by simp[q]),decide_eq_true (by simp[q,ht]),Bool.and_self,←hI]
   ·rw[if_neg (by simp),decide_eq_true ht,Bool.and_self,←hI]
 rw[if_pos (by simpa using hk),l5 hk,d0Y,l5 hk2,d0Y,ec2]
 dsimp only
 have c1':(x.Cells[k].Target != x.Cells[k].Target)=false:=by simp
 rw[c1']
 cases hI:x.Cells[k].Intact
 ·refine bnd (a:=0) (by rfl) ?_
  rw[if_neg (by simp),c8]
 ·exact c1y _ _ (by omega) (b0S c1.sh.sr) (by omega)
theorem c08(hx:HpR x):a31 x=some (out x):=by
 have hR:=hx.sh.sr
 have r6:=hx.sh.r6
 have q30:=hx.sh.q30
 have l24:=hR.len
 have ol:=a7G (x:=x) (by omega) (by omega)
 have lv24:(lv x.S).length≤24:=D2 (p6.2 hR)
 unfold a31
 rw[a5n hx.sh,d0Y,b9X (by omega) (by omega),d0Y,T5 (by omega) (by omega),d0Y,b4Q _ (by omega),d0Y,a1t (p6.2 hR),d0Y]
 simp only[jn]
 refine M1 (lv x.S).length (λk b=>b=otr x++((lv x.S).take k).filter λh=>decide (12≤(ob x.S h).Strong)) (by omega) (by simp) (λk b hk hP=>?_) (λb hP=>?_)
 ·subst hP
  have hm:=List.getElem_mem hk
  have hle:(((lv x.S).take k).filter λh=>decide (12≤(ob x.S h).Strong)).length≤24:=Nat.le_trans (List.length_filter_le ..) (by simp;omega)
  refine .inl ⟨_,?_,rfl⟩
  rw[if_pos (by simpa using hk),l5 hk,d0Y,a10 hR hm,d0Y,P9 hk,List.filter_append]
  have e:P6 (oo (ob x.S (lv x.S)[k]),(0:Int)).1.Strong=some (decide (12≤(ob x.S (lv x.S)[k]).Strong)):=rfl
  rw[e,d0Y]
  by_cases hd:12≤(ob x.S (lv x.S)[k]).Strong
  ·rw[decide_eq_true hd,if_pos rfl,u7 (by omega) (by simp;omega),d0Y,c8]
   simp[hd]
  ·rw[decide_eq_false hd,if_neg (by simp),c8]
   simp[hd]
 ·subst hP
  refine⟨_,if_neg (by simp),?_⟩
  rw[List.take_length]
  rfl
end
end Go.Sh
namespace Go.Sh
theorem c4a{x:Hp}(hx:HpR x)(hS:SL x)(hz:zr x = [])(hb:btc x = []):(lv (col x).S).length=(frc x.S x.T (hdx x)).length:=by
 obtain⟨c1,_,_⟩:=a5f hx hS hz
 have e:col x=buH x (W2 x):=b5r hb
 have a:=a0U (a3g (p6.2 c1.sh.sr)) (m:=frc x.S x.T (hdx x)) λh hh=>Z8.2 ((a8r hx).1 (by rw[←e];exact hh))
 have b:=a0U (b4I (p6.2 hx.sh.sr) x.T (hdx x)) (m:=lv (col x).S) λh hh=>by rw[e];exact (a8r hx).2 (Z8.1 hh)
 omega
section
variable{x:Hp}(hsh:E3=some true)(hB:HB x)
include hsh hB
theorem collectKeeps:a1F x=some true:=by
 unfold a1F
 refine a9t hsh (λb => !b) rfl hB λhx hS hz hb _=>?_
 obtain⟨c1,c2,c3⟩:=a5f hx hS hz
 have hR:=hx.sh.sr
 have r6:=hx.sh.r6
 have q30:=hx.sh.q30
 have l24:=hR.len
 have l24':=c1.sh.sr.len
 have ol:=a7G (x:=x) (by omega) (by omega)
 have lv24:(lv x.S).length≤24:=D2 (p6.2 hR)
 have lv24':(lv (col x).S).length≤24:=D2 (p6.2 c1.sh.sr)
 have outl:(out x).length≤3000:=by
  unfold out
  rw[List.length_append]
  have:=List.length_filter_le (λh=>decide (12≤(ob x.S h).Strong)) (lv x.S)
  omega
 have fl:=a9q (p6.2 hR) x.T (hdx x)
 have hBx:=b4N hx hS
 have t8:=hx.sh.hr.l8
 rw[a8O hx hS hz,d0Y,b4Q _ (by omega),d0Y,c3y _ (by omega),d0Y,c08 hsh hB hx,d0Y,a8Q (p6.2 hR) hx.sh.hr hBx.tb (by omega),d0Y,c4h hx]
 dsimp only
 rw[b4E c1.sh,d0Y,if_neg (by simp),b4Q _ (by omega),d0Y,a1t (p6.2 c1.sh.sr),d0Y]
 simp only[jn]
 refine E0 (frc x.S x.T (hdx x)).length (λ_=>True) (by omega) trivial (λk hk _=>.inl ⟨?_,trivial⟩) (λ_=>⟨.inr (),if_neg (by simp),?_⟩)
 ·have r:=Z8.1 (List.getElem_mem hk)
  obtain⟨k1,k2,k3⟩:=c0G hx hS hz r
  have h0:(frc x.S x.T (hdx x))[k]≠0:=λq=>b0S hR (q▸r.live)
  have f4:=(L7 c1.sh.sr k1).fl
  rw[if_pos (by simpa using hk),l5 hk,d0Y,a10 hR r.live,d0Y,a10 c1.sh.sr k1,d0Y]
  have e1:(((0:Int) != 0)||((oo (ob x.S (frc x.S x.T (hdx x))[k])).Serial != (oo (ob (col x).S (frc x.S x.T (hdx x))[k])).Serial))=false:=by simp[oo,k2]
  have e2:(oo (ob x.S (frc x.S x.T (hdx x))[k])).Fields=(oo (ob (col x).S (frc x.S x.T (hdx x))[k])).Fields:=k3.symm
  dsimp only
  rw[e1,e2]
  refine bnd (a5t (l:=(oo (ob (col x).S (frc x.S x.T (hdx x))[k])).Fields) (by show (ob (col x).S (frc x.S x.T (hdx x))[k]).Fields.length≤_;omega)) ?_
  refine bnd (a:=((1:Nat):Int)) (by
   show H6 _ _=_
   rw[W1 _ _ (by omega),c0p (a3g (p6.2 c1.sh.sr)) h0 k1]) ?_
  rw[if_neg (by simp),c8]
 ·show (I5 (sO x.S)).bind _=_
  rw[a1t (p6.2 hR),d0Y]
  by_cases hb:btc x = []
  ·have e:=c4a hx hS hz hb
   unfold cgn
   rw[if_pos hb,hb,e,G7 (by omega) (by omega)]
   simp
  ·have hp:0<(btc x).length:=List.length_pos_iff.2 hb
   have e:lv (col x).S=lv x.S:=by rw[c1W hx hS hz,if_neg hb]
   unfold cgn
   rw[if_neg hb,e]
   simp
   omega
theorem collectSaves:a1G x=some true:=by
 unfold a1G
 refine a9t hsh (λb => !b) rfl hB λhx hS hz hb _=>?_
 obtain⟨c1,c2,c3⟩:=a5f hx hS hz
 have hR:=hx.sh.sr
 have hR':=c1.sh.sr
 have l24':=hR'.len
 have hl2:=a9c hx hS hz
 have hBc:=b4N c1 c2
 have t8:=c1.sh.hr.l8
 have gl:=a5j c1 c2
 have fl:=a9q (p6.2 hR') (col x).T (btc x)
 rw[b5o hx hS,d0Y,a8O hx hS hz,d0Y]
 dsimp only
 have e1:((decide (((btc x).length:Int) > 24))||(((btc x).length:Int) != ((btc x).length:Int)))=false:=by simp;omega
 rw[e1]
 simp only[beq_self_eq_true,D1]
 rw[b4E c1.sh,d0Y,if_neg (by simp),a5n c1.sh,d0Y,b4x c1 c2,d0Y,b4Q _ (by omega),d0Y,c3y _ (by omega),d0Y,a8Q (p6.2 hR') c1.sh.hr hBc.tb (by omega),d0Y]
 simp only[jn]
 refine E0 (frc (col x).S (col x).T (btc x)).length (λ_=>True) (by omega) trivial (λk hk _=>.inl ⟨?_,trivial⟩) (λ_=>⟨.inr (),if_neg (by simp),?_⟩)
 ·have r:=Z8.1 (List.getElem_mem hk)
  rw[if_pos (by simpa using hk),l5 hk,d0Y,W1 _ _ (by omega),d0Y,c0q (c0H hx hS hz r),if_neg (by simp),c8]
 ·refine E0 (btc x).length (λ_=>True) (by omega) trivial (λk hk _=>.inl ⟨?_,trivial⟩) (λ_=>⟨.inr (),if_neg (by simp),rfl⟩)
  have hb:btc x ≠ []:=λq=>by rw[q] at hk;cases hk
  have e:col x=(btc x).foldl quH x:=by unfold col;rw[if_neg hb]
  have q:=a8H hx hS hz
  have hm:=List.getElem_mem hk
  obtain⟨a,_⟩:=b13 _ hm
  have hlv:(btc x)[k]∈lv (col x).S:=by rw[e,q.lv];exact a
  obtain⟨n,eo⟩:=q.ob _ a
  rw[if_pos hm,←e] at eo
  have h0:(btc x)[k]≠0:=λq=>b0S hR (q▸a)
  rw[if_pos (by simpa using hk),l5 hk,d0Y,a10 hR' hlv,d0Y,eo]
  dsimp only[oo]
  simp only[bne_self_eq_false,Bool.not_true,Bool.or_self,beq_self_eq_true,D1]
  rw[W1 _ _ (by omega),c0p (b4I (p6.2 hR') (col x).T (btc x)) h0 (Z8.2 (.base hm hlv)),d0Y,if_neg (by simp),c8]
end
end Go.Sh
namespace Go.Sh
structure Rk (x:Hp):Prop where
 rt:HpR x
 sl:SL x
 zr:zr x = []
def rkB(x:Hp):Bool:=(a1y (hO x)==some true)&&(c6i x&&(decide (x.S.S.Cells.length≤1000)&&(decide (x.Roots.length≤1000)&&(decide (x.Cells.length≤1000)&&(decide (x.T.length≤1000)&&decide (x.Q.L.length≤1000))))))
theorem c7x{x:Hp}(h:rkB x=true):HpR x∧SL x:=by
 unfold rkB at h
 simp only[Bool.and_eq_true,beq_iff_eq,decide_eq_true_iff] at h
 obtain⟨a,b,c,d,e,f,g⟩:=h
 have hB:=c6O b
 obtain⟨w,h1,h2⟩:=a6L x hB c d e f g
 rw[a] at h1
 have hx:=h2.1 (Option.some.inj h1).symm
 exact⟨hx,SB.sl hx.sh.sr hB.sb⟩
def b6M(x:Hp)(o:o0):Hp × Int:=(a9s ((w9 (N6.getD []) o.Kind).getD none) ⟨x,o⟩).getD (c4q,0)
def b6P(x:Hp)(o:o0):Hp:=hOI ((a3p (hO (b6M x o).1)).getD (hO c4q))
def c4e(x:Hp)(o:o0):Int:=(a0R (b6M x o).1 (b6P x o) o).getD 0
def c4d(x:Hp)(o:o0):Bool:=(a5e o==some 0)&&(N6.isSome&&((w9 (N6.getD []) o.Kind).isSome&&((a9s ((w9 (N6.getD []) o.Kind).getD none) ⟨x,o⟩).isSome&&(((b6M x o).2==0)&&(rkB (b6M x o).1&&(a0R (b6M x o).1 (b6P x o) o).isSome)))))
theorem b9z{x:Hp}{o:o0}(h:c4d x o=true):a1u x o=some (b6P x o,c4e x o,0)∧Rk (b6P x o):=by
 unfold c4d at h
 simp only[Bool.and_eq_true,beq_iff_eq] at h
 obtain⟨a,b,c,d,e,f,g⟩:=h
 obtain⟨hz,zS⟩:=c7x f
 obtain⟨ds,b⟩:=Option.isSome_iff_exists.1 b
 obtain⟨v,d⟩:=Option.isSome_iff_exists.1 d
 obtain⟨u,g⟩:=Option.isSome_iff_exists.1 g
 have ed:b6M x o=v:=by unfold b6M;rw[d];rfl
 have ey:b6P x o=b6k (b6M x o).1:=by unfold b6P;rw[b70 hz zS];exact c2u _
 have ev:c4e x o=u:=by unfold c4e;rw[g];rfl
 rw[b,Option.getD_some] at c d
 refine⟨?_,by rw[ey];exact⟨b9i hz,c5m hz zS,c1p hz⟩⟩
 unfold a1u
 rw[a,d0Y,if_neg (by simp),b,d0Y,c,if_neg (by simp),d,d0Y,←ed,if_neg (by simp[e]),b48 hz zS,d0Y,←ey,g,d0Y,ev]
theorem c8S{l:List o0}(hl:l.length≤1000)(h:Nat→Hp)(v:Nat→Int)(hs:∀k (hk:k<l.length),a1u (h k) l[k]=some (h (k+1),v k,0)):a3K (h 0) l=some (h l.length,(List.range l.length).map v):=by
 unfold a3K
 simp only[jn]
 refine M1 (T:=Hp × List Int) l.length (λk s=>s=(h k,(List.range k).map v)) (by omega) rfl (λk s hk hP=>?_) (λs hP=>?_)
 ·subst hP
  refine .inl ⟨_,?_,rfl⟩
  dsimp only
  rw[if_pos (by simpa using hk),l5 hk,d0Y,hs k hk,d0Y,u7 (by omega) (by simp;omega),d0Y,c8,List.range_succ,List.map_append]
  rfl
 ·subst hP
  exact⟨_,if_neg (by simp),rfl⟩
theorem b9a{x:Hp}(hx:Rk x){r:c5 × Int × Int}(h:a0y (hO x)=some r):A5 x=some (hOI r.1,r.2)∧Rk (hOI r.1):=by
 have e:=c5C hx.rt hx.sl hx.zr
 rw[h] at e
 have e:=Option.some.inj e
 obtain⟨c1,c2,c3⟩:=a5f hx.rt hx.sl hx.zr
 rw[e,c2u,a8O hx.rt hx.sl hx.zr]
 exact⟨rfl,c1,c2,c3⟩
theorem c7z{x:Hp}(hx:Rk x):D5 x=M8 (hO x):=by rw[b2t hx.rt hx.sl,b4x hx.rt hx.sl]
theorem c7y{x:Hp}(hx:Rk x):K3 x=a2W (hO x):=by rw[b5o hx.rt hx.sl,c1J hx.rt hx.sl]
theorem c3h{x:Hp}(hx:Rk x):N5 x=a2X (hO x):=by rw[c1Q hx.rt hx.sl,c1P hx.rt hx.sl]
def c03(p:Int):List o0:=[(⟨1,0,1,p⟩:o0),(⟨1,1,1,(-1)⟩:o0),(⟨5,0,0,1⟩:o0),(⟨5,1,0,0⟩:o0),(⟨6,0,0,1⟩:o0),(⟨3,0,0,0⟩:o0),(⟨3,1,0,0⟩:o0)]
def b1N(p:Int):Nat→Hp
 | 0=>(b2Q 4 5 8).getD c4q
 | k+1=>b6P (b1N p k) ((c03 p).getD k ⟨0,0,0,0⟩)
theorem c0a(p:Int)(h:(List.range 7).all (λk=>c4d (b1N p k) ((c03 p).getD k ⟨0,0,0,0⟩))=true):a7v p=some (b1N p 7)∧Rk (b1N p 7):=by
 rw[List.all_eq_true] at h
 have hk:∀k,k<7→c4d (b1N p k) ((c03 p).getD k ⟨0,0,0,0⟩)=true:=λk hk=>h k (List.mem_range.2 hk)
 refine⟨?_,(b9z (hk 6 (by decide))).2⟩
 unfold a7v
 refine bnd (a:=b1N p 0) (by kernel_rfl) ?_
 refine bnd (c8S (l:=c03 p) (by show (7:Nat)≤1000;decide) (b1N p) (λk=>c4e (b1N p k) ((c03 p).getD k ⟨0,0,0,0⟩)) λk hl=>?_) rfl
 have:=(b9z (hk k hl)).1
 rw[List.getD_eq_getElem?_getD,List.getElem?_eq_getElem hl] at this ⊢
 show a1u _ _=some (b6P (b1N p k) ((c03 p).getD k ⟨0,0,0,0⟩),_,_)
 rw[List.getD_eq_getElem?_getD,List.getElem?_eq_getElem hl]
 exact this
def c34(x:Hp):c5 × Int × Int:=(a0y (hO x)).getD (hO c4q,0,0)
theorem shown19:E3=some true:=by
 obtain⟨a1,a2⟩:=c0a (-1) (by kernel_rfl)
 obtain⟨b1,b2⟩:=c0a 2 (by kernel_rfl)
 obtain⟨c1,c2⟩:=b9a a2 (r:=c34 (b1N (-1) 7)) (by kernel_rfl)
 obtain⟨d1,d2⟩:=b9a b2 (r:=c34 (b1N 2 7)) (by kernel_rfl)
 obtain⟨e1,e2⟩:=b9a d2 (r:=c34 (hOI (c34 (b1N 2 7)).1)) (by kernel_rfl)
 unfold E3
 refine bnd a1 ?_
 refine bnd c1 ?_
 refine bnd b1 ?_
 refine bnd d1 ?_
 refine bnd e1 ?_
 rw[c7z a2,c3h c2,c7y b2,c3h d2,b1P e2.rt (b4N e2.rt e2.sl)]
 kernel_rfl
end Go.Sh
