import Derived.Test.YtjjggdcnpndgjaaGreatDoorHJ7
import Derived.WalkSmall
import Derived.RangeFuncNested
import Derived.RangeFuncBound
import Derived.RangeFuncCalls
import Derived.RangeFuncLeaves
import Derived.Shelf.Abstract
import Derived.OwnWalkIn
import Derived.TacticsInMore
import Derived.LoopNIn
import Derived.LoopIn
set_option linter.unusedSimpArgs false
namespace Go.Proofs.YtjjggdcnpndgjaaGreatDoor
abbrev dy:=@List.getElem?_eq_none
abbrev ng:=@List.getElem?_range
abbrev nu:=@List.ext_getElem?
abbrev qz:=@List.length_modify
abbrev xI:=@Nat.min_eq_left
abbrev yx:=@Nat.mul_le_mul_left
abbrev yO:=@Bool.false_or
open Go.RowKit
variable {N:NG}{h:List (List Bool)}{kb n n₀:Nat}{l:List Bool}{r:Nat × List Pt}{w w':World}
def Cf (l:List Nat) (n:Nat):Nat:=l.getD n 201
theorem fF (l:List Nat) (n m v:Nat):Cf (l.set n v) m=if n=m/\n<l.length then v else Cf l m:=by
 unfold Cf;simp only[zh,vg]
 by_cases h:n=m
 ·subst h
  by_cases hl:n<l.length <;> simp[hl]
 ·simp[h]
def DR (N:NG) (f:Nat->Nat):List Pt->Nat
 | []=>0
 | .tok t::ps=>N.put t+DR N f ps
 | .yB n::ps=>f n+DR N f ps
theorem R6 {N:NG}{f g:Nat->Nat} (h:∀n,f n<=g n):∀ps,DR N f ps<=DR N g ps
 | []=>yF _
 | .tok t::ps=>by have:=R6 (N:=N) h ps;simp only[DR];omega
 | .yB n::ps=>by have:=R6 (N:=N) h ps;have:=h n;simp only[DR];omega
def OQ (N:NG) (f:Nat->Nat):Prop:=∀r∈N.rules,f r.1<=DR N f r.2
def Gfp (N:NG) (f:Nat->Nat):Prop:=(∀n,f n<=201)/\OQ N f/\∀T:Nat->Nat,(∀n,T n<=201)->OQ N T->∀n,T n<=f n
theorem Gfp.unique {f g:Nat->Nat} (h:Gfp N f) (k:Gfp N g) (n:Nat):f n=g n:=Nat.le_antisymm (k.2.2 f h.1 h.2.1 n) (h.2.2 g k.1 k.2.1 n)
def EG (N:NG) (st:List Nat × Bool) (r:Nat × List Pt):List Nat × Bool:=if DR N (Cf st.1) r.2<Cf st.1 r.1 then(st.1.set r.1 (DR N (Cf st.1) r.2),true)else st
def GY (N:NG) (l:List Nat):List Nat × Bool:=N.rules.foldl (EG N) (l,false)
def J7 (N:NG):Nat->List Nat->List Nat
 |0,l=>l
 |k+1,l=>if(GY N l).2 then J7 N k (GY N l).1 else(GY N l).1
def JJ (N:NG):List Nat:=J7 N (N.nN*202+1) (List.replicate N.nN 201)
theorem UC:∀(l:List Nat) (n v:Nat),v<Cf l n->n<l.length->(l.set n v).sum<l.sum
 | [],n,v,_,h=>by simp at h
 |a::r,0,v,h,_=>by have h':v<a:=h;simp;omega
 |a::r,n+1,v,h,hl=>by
  have:=UC r n v (by simpa[Cf] using h) (by simpa using hl);simp;omega
theorem oE (N:NG) (hl:∀r∈N.rules,r.1<N.nN):∀(rs:List (Nat × List Pt)),(∀r∈rs,r∈N.rules)->∀(l:List Nat) (b:Bool),l.length=N.nN->
  (rs.foldl (EG N) (l,b)).1.length=N.nN/\(((rs.foldl (EG N) (l,b))=(l,b)/\∀r∈rs,Cf l r.1<=DR N (Cf l) r.2)\/((rs.foldl (EG N) (l,b)).2=true/\(rs.foldl (EG N) (l,b)).1.sum<l.sum)):=by
 intro rs
 induction rs with
 |nil=>intro _ l b h;exact⟨h,.inl ⟨rfl,λr hr=>by cases hr⟩⟩
 |cons x r ih=>
  intro hm l b h;have ih':=ih (λq hq=>hm q (fj _ hq));have hx:=hl x (hm x (eo ..));rw[ld]
  by_cases hc:DR N (Cf l) x.2<Cf l x.1
  ·have e:EG N (l,b) x=(l.set x.1 (DR N (Cf l) x.2),true):=by unfold EG;rw[aq hc]
   rw[e];obtain⟨h1,h2⟩:=ih' (l.set x.1 (DR N (Cf l) x.2)) true Kb;have h3:=UC l x.1 _ hc (by omega);refine⟨h1,.inr ?_⟩
   rcases h2 with⟨h2,_⟩ | ⟨h2,h4⟩
   ·rw[h2];exact⟨rfl,h3⟩
   ·exact⟨h2,by omega⟩
  ·have e:EG N (l,b) x=(l,b):=by unfold EG;rw[au hc]
   rw[e];obtain⟨h1,h2⟩:=ih' l b h;refine⟨h1,?_⟩
   rcases h2 with⟨h2,h4⟩ |h2
   ·exact .inl ⟨h2,λq hq=>by rcases bh.1 hq with rfl |hq;omega;exact h4 q hq⟩
   ·exact .inr h2
theorem V0 (N:NG) (hN:N.Ok) (l:List Nat) (h:l.length=N.nN):(GY N l).1.length=N.nN/\(((GY N l)=(l,false)/\OQ N (Cf l))\/((GY N l).2=true/\(GY N l).1.sum<l.sum)):=
 oE N hN.lt N.rules (λ_ h=>h) l false h
theorem Q9 (N:NG) (I:List Nat->Prop) (hI:∀l,I l->∀r∈N.rules,I (EG N (l,false) r).1):∀(k:Nat) (l:List Nat),I l->I (J7 N k l):=by
 have ahL:∀(rs:List (Nat × List Pt)),(∀r∈rs,r∈N.rules)->∀st:List Nat × Bool,I st.1->I (rs.foldl (EG N) st).1:=by
  intro rs
  induction rs with
  |nil=>intro _ st h;exact h
  |cons x r ih=>
   intro hm st h;refine ih (λq hq=>hm q (fj _ hq)) _ ?_;have:=hI st.1 h x (hm x (eo ..));unfold EG at this ⊢;simp only at this;split at this <;> rename_i hc
   ·rw[aq hc];exact this
   ·rw[au hc];exact h
 intro k
 induction k with
 |zero=>intro l h;exact h
 |succ k ih=>
  intro l h;have h1:I (GY N l).1:=ahL N.rules (λ_ h=>h) (l,false) h;unfold J7;split
  ·exact ih _ h1
  ·exact h1
theorem YV (N:NG) (hN:N.Ok):∀(k:Nat) (l:List Nat),l.length=N.nN->l.sum<k->OQ N (Cf (J7 N k l))/\(J7 N k l).length=N.nN:=by
 intro k
 induction k with
 |zero=>intro l _ h;omega
 |succ k ih=>
  intro l hl h;obtain⟨h1,h2⟩:=V0 N hN l hl;unfold J7
  rcases h2 with⟨h2,h3⟩ | ⟨h2,h3⟩
  ·rw[h2]
   simp only[oy,xx];exact⟨h3,hl⟩
  ·rw[aq h2]
   exact ih _ h1 (by omega)
theorem SC (N:NG) (hN:N.Ok):Gfp N (Cf (JJ N))/\(JJ N).length=N.nN:=by
 have h0:(List.replicate N.nN 201).length=N.nN:=by simp
 have h1:=YV N hN (N.nN*202+1) (List.replicate N.nN 201) h0 (by rw[List.sum_replicate_nat];omega);have afd:∀n,Cf (List.replicate N.nN 201) n=201:=by
  intro n;unfold Cf;rw[zh,ny];split <;> rfl
 refine⟨⟨?_,h1.1,?_⟩,h1.2⟩
 ·refine Q9 N (λl=>∀n,Cf l n<=201) (λl h r hr=>?_) _ _ (λn=>Nat.le_of_eq (afd n))
  unfold EG;split
  ·rename_i hc
   intro n;simp only at hc ⊢;rw[fF];split
   ·have:=h r.1;omega
   ·exact h n
  ·exact h
 ·intro T hT hC
  refine Q9 N (λl=>∀n,T n<=Cf l n) (λl h r hr=>?_) _ _ (λn=>by rw[afd];exact hT n);unfold EG;split
  ·intro n
   simp only;rw[fF];split
   ·rename_i h2
    rw[<-h2.1];exact y5 (hC r hr) (R6 h r.2)
   ·exact h n
  ·exact h
/- What akH a name. -/
def FE (E:Nat->Bool) (ps:List Pt):Bool:=ps.all λp=>match p with | .tok _=>false | .yB n=>E n
def DQ (E S:Nat->Bool) (t:Nat):List Pt->Bool
 | []=>false
 | .tok u::_=>u==t
 | .yB n::ps=>S n||(E n&&DQ E S t ps)
theorem QG {E S T:Nat->Bool}{t:Nat} (h:∀n,S n=true->T n=true):∀ps,DQ E S t ps=true->DQ E T t ps=true
 | [],hb=>hb
 | .tok u::_,hb=>hb
 | .yB n::ps,hb=>by
  simp only[DQ,oa,fu]at hb ⊢;exact hb.imp (h n) (λhb=>⟨hb.1,QG h ps hb.2⟩)
def WE (N:NG) (E:Nat->Bool) (t:Nat) (S:Nat->Bool):Prop:=∀r∈N.rules,DQ E S t r.2=true->S r.1=true
def Pg (a b:List Bool):List Bool:=a.zipWith (· || ·) b
def Dq (h:List (List Bool)) (n:Nat):List Bool:=h.getD n []
theorem mM {a b:List Bool} (h:a.length=b.length) (t:Nat):yU (Pg a b) t=(yU a t||yU b t):=by
 unfold yU Pg;simp only[zh,List.getElem?_zipWith]
 by_cases ht:t<a.length
 ·rw[gE ht,gE (by omega)];rfl
 ·rw[dy (by omega),dy (by omega)];rfl
def ID (h:List (List Bool)) (E:Nat->Bool):List Pt->List Bool->List Bool × Bool
 | [],out=>(out,true)
 | .tok t::_,out=>(out.set t true,false)
 | .yB n::ps,out=>if E n then ID h E ps (Pg out (Dq h n))else(Pg out (Dq h n),false)
def Dh (N:NG) (h:List (List Bool)):Prop:=h.length=N.nN/\∀n,n<N.nN->(Dq h n).length=N.nT+1
def B3 (N:NG) (ps:List Pt):Prop:=(∀n,Pt.yB n∈ps->n<N.nN)/\(∀t,Pt.tok t∈ps->t<N.nT)
theorem B3.tail {p:Pt}{ps:List Pt} (h:B3 N (p::ps)):B3 N ps:=⟨λn hn=>h.1 n (fj _ hn),λn hn=>h.2 n (fj _ hn)⟩
theorem NG.Ok.ps  (h:N.Ok)  (hr:r∈N.rules):B3 N r.2:=⟨h.pn r hr,h.pt r hr⟩
def col (h:List (List Bool)) (t n:Nat):Bool:=yU (Dq h n) t
theorem SS  (hM:Dh N h) (E:Nat->Bool):∀(ps:List Pt) (out:List Bool),B3 N ps->out.length=N.nT+1->
  (ID h E ps out).1.length=N.nT+1/\(ID h E ps out).2=FE E ps/\∀t,yU (ID h E ps out).1 t=(yU out t||DQ E (col h t) t ps):=by
 intro ps
 induction ps with
 |nil=>intro out _ ho;exact⟨ho,rfl,λt=>by simp[ID,DQ]⟩
 |cons p ps ih=>
  intro out hp ho;cases p with
  |tok u=>
   have hu:=hp.2 u (eo ..);refine⟨by simpa[ID] using ho,by simp[ID,FE],λt=>?_⟩;show yU (out.set u true) t=(yU out t||(u==t));rw[FL]
   by_cases e:u=t
   ·rw[aq ⟨e,by omega⟩,e];simp
   ·rw[au (λh=>e h.1)];simp[e]
  |yB n=>
   have hn:=hp.1 n (eo ..);have hl:(Pg out (Dq h n)).length=N.nT+1:=by
    unfold Pg;rw[List.length_zipWith,ho,hM.2 n hn];simp
   have ho':∀t,yU (Pg out (Dq h n)) t=(yU out t||col h t n):=λt=>mM (by rw[ho,hM.2 n hn]) t
   unfold ID;cases he:E n
   ·simp only[oy,xx]
    refine⟨hl,by simp[FE,he],λt=>?_⟩;rw[ho',DQ,he];simp
   ·simp only[xz]
    obtain⟨h1,h2,h3⟩:=ih (Pg out (Dq h n)) hp.tail hl;refine⟨h1,by rw[h2];simp[FE,he],λt=>?_⟩;rw[h3,ho',DQ,he,Bool.or_assoc];simp
def DD (h:List (List Bool)) (t:Nat):List Bool:=h.map λrow=>yU row t
theorem JG (h:List (List Bool)) (t n:Nat):yU (DD h t) n=col h t n:=by
 unfold DD col Dq yU;simp only[zh,gM];cases h[n]? <;> simp
theorem TZ (h:List (List Bool)) (n t:Nat) (row:List Bool):DD (h.set n row) t=(DD h t).set n (yU row t):=by unfold DD;rw[List.map_set]
theorem aP:l.set n (yU l n)=l:=by
 apply nu;intro i;rw[vg];split
 ·rename_i h
  subst h;unfold yU
  by_cases hl:n<l.length
  ·simp[hl]
  ·simp[hl]
 ·rfl
def FM (N:NG):List Bool:=List.replicate (N.nT+1) false
def MX (N:NG) (E:Nat->Bool) (h:List (List Bool)) (r:Nat × List Pt):List (List Bool):=h.set r.1 (Pg (Dq h r.1) (ID h E r.2 (FM N)).1)
def nB (N:NG) (E:Nat->Bool) (h:List (List Bool)):List (List Bool):=N.rules.foldl (MX N E) h
def IQ (N:NG) (E:Nat->Bool):List (List Bool):=EK (nB N E) (N.nN+1) (List.replicate N.nN (FM N))
theorem uW (h:List (List Bool)) (n m:Nat) (v:List Bool):Dq (h.set n v) m=if n=m/\n<h.length then v else Dq h m:=by
 unfold Dq;simp only[zh,vg]
 by_cases e:n=m
 ·subst e
  by_cases hl:n<h.length <;> simp[hl]
 ·simp[e]
theorem Dh.set  (hM:Dh N h) {v:List Bool} (hv:v.length=N.nT+1):Dh N (h.set n v):=by
 refine⟨by simpa using hM.1,λm hm=>?_⟩;rw[uW];split
 ·exact hv
 ·exact hM.2 m hm
theorem wJ (N:NG):Dh N (List.replicate N.nN (FM N)):=by
 refine⟨by simp,λn hn=>?_⟩;unfold Dq;rw[zh,ny,aq hn];simp[FM]
theorem wP (N:NG) (t n:Nat):col (List.replicate N.nN (FM N)) t n=false:=by
 unfold col Dq;rw[zh,ny];split
 ·exact MQ _ _
 ·rfl
theorem T2  (hN:N.Ok) (E:Nat->Bool)  (hM:Dh N h)  (hr:r∈N.rules):
  Dh N (MX N E h r)/\∀t,DD (MX N E h r) t=if DQ E (yU (DD h t)) t r.2=true then(DD h t).set r.1 true else DD h t:=by
 obtain⟨h1,_,h3⟩:=SS hM E r.2 (FM N) (hN.ps hr) (by simp[FM]);have hl:=hM.2 r.1 (hN.lt r hr);refine⟨hM.set (by unfold Pg;rw[List.length_zipWith,hl,h1];simp),λt=>?_⟩;unfold MX;rw[TZ,mM (by rw[hl,h1]),h3];have e:col h t=yU (DD h t):=funext λn=>(JG h t n).symm
 rw[show yU (FM N) t=false from MQ _ _,yO,e];have e2:yU (Dq h r.1) t=yU (DD h t) r.1:=(JG h t r.1).symm;rw[e2];cases hb:DQ E (yU (DD h t)) t r.2
 ·simp only[Bool.or_false,oy,xx]
  exact aP
 ·simp
theorem pF  (step:List (List Bool)->Nat × List Pt->List (List Bool)) (cs:List Bool->Nat × List Pt->List Bool) (t:Nat)
  (h:∀m,Dh N m->∀r∈N.rules,Dh N (step m r)/\DD (step m r) t=cs (DD m t) r):∀(rs:List (Nat × List Pt)),(∀r∈rs,r∈N.rules)->∀m,Dh N m->Dh N (rs.foldl step m)/\DD (rs.foldl step m) t=rs.foldl cs (DD m t):=by
 intro rs
 induction rs with
 |nil=>intro _ m hm;exact⟨hm,rfl⟩
 |cons x r ih=>
  intro hr m hm;obtain⟨h1,h2⟩:=h m hm x (hr x (eo ..));rw[ld,ld,<-h2];exact ih (λq hq=>hr q (fj _ hq)) _ h1
theorem YG  (step:List (List Bool)->Nat × List Pt->List (List Bool)) (cs:List Bool->Nat × List Pt->List Bool) (t:Nat)
  (h:∀m,Dh N m->∀r∈N.rules,Dh N (step m r)/\DD (step m r) t=cs (DD m t) r):∀(k:Nat) (m:List (List Bool)),Dh N m->
   Dh N (EK (λs=>N.rules.foldl step s) k m)/\DD (EK (λs=>N.rules.foldl step s) k m) t=EK (λs=>N.rules.foldl cs s) k (DD m t):=by
 intro k
 induction k with
 |zero=>intro m hm;exact⟨hm,rfl⟩
 |succ k ih=>
  intro m hm;obtain⟨h1,h2⟩:=pF step cs t h N.rules (λ_ h=>h) m hm;show Dh N (EK _ k (N.rules.foldl step m))/\DD (EK _ k (N.rules.foldl step m)) t=EK _ k (N.rules.foldl cs (DD m t));rw[<-h2];exact ih _ h1
theorem T6 (h:List (List Bool)) (t:Nat):(DD h t).length=h.length:=by unfold DD;simp
theorem PI (N:NG) (hN:N.Ok) (E:Nat->Bool):Dh N (IQ N E)/\∀t,Lq (WE N E t) (col (IQ N E) t):=by
 have hit:=λt=>YG (MX N E) (λc r=>if DQ E (yU c) t r.2=true then c.set r.1 true else c) t (λm hm r hr=>⟨(T2 hN E hm hr).1,(T2 hN E hm hr).2 t⟩) (N.nN+1) (List.replicate N.nN (FM N)) (wJ N)
 refine⟨(hit 0).1,λt=>?_⟩;obtain⟨_,ht⟩:=hit t;have e:col (IQ N E) t=yU (EK (λs=>N.rules.foldl (λc r=>if DQ E (yU c) t r.2=true then c.set r.1 true else c) s) (N.nN+1) (DD (List.replicate N.nN (FM N)) t)):=by
  funext n
  rw[<-ht];exact(JG _ _ _).symm
 rw[e];have h0:(DD (List.replicate N.nN (FM N)) t).length=N.nN:=by rw[T6];simp
 have Jg:=MB (fun(c:List Bool) (r:Nat × List Pt)=>if DQ E (yU c) t r.2=true then c.set r.1 true else c) GU (λs=>s.length=N.nN) N.rules (λs hs r hr=>by
  split
  ·exact⟨PE s r.1,by simpa using hs⟩
  ·exact⟨.inl rfl,hs⟩) (N.nN+1) (DD (List.replicate N.nN (FM N)) t) h0 (by have:=S9 (DD (List.replicate N.nN (FM N)) t);omega)
 generalize hf:EK (λs=>N.rules.foldl (λc r=>if DQ E (yU c) t r.2=true then c.set r.1 true else c) s) (N.nN+1) (DD (List.replicate N.nN (FM N)) t)=fin at Jg ⊢
 obtain⟨hlen,hst⟩:=Jg;refine⟨λr hr he=>?_,λT hT=>?_⟩
 ·have h2:=hst r hr
  rw[aq he]at h2;have h3:=NK h2 r.1;rw[FL,aq ⟨rfl,by rw[hlen];exact hN.lt r hr⟩]at h3;exact h3.symm
 ·rw[<-hf]
  refine M9 (fun(c:List Bool) (r:Nat × List Pt)=>if DQ E (yU c) t r.2=true then c.set r.1 true else c) (λs=>∀n,yU s n=true->T n=true) N.rules (λs hs r hr=>?_) _ _ (λn h=>by rw[JG,wP]at h;cases h);intro n hn;split at hn
  ·rename_i he
   rw[FL]at hn;split at hn
   ·rename_i h1
    rw[<-h1.1];exact hT r hr (QG hs _ he)
   ·exact hs n hn
  ·exact hs n hn
def WY (N:NG) (E H:Nat->Bool) (t:Nat) (S:Nat->Bool):Prop:=
 (t=N.nT->S 0=true)/\∀r∈N.rules,∀pre m post,r.2=pre++Pt.yB m::post->(DQ E H t post||(FE E post&&S r.1))=true->S m=true
def orT (a l:List Bool) (thr:Bool) (b:List Bool):List Bool:=(List.range a.length).map λt=>(yU a t||yU l t)||(thr&&yU b t)
theorem MF {t:Nat} (h:l.length<=t):yU l t=false:=by
 unfold yU;rw[zh,dy h];rfl
theorem uF {a b:List Bool}{thr:Bool} (h1:l.length=a.length) (h2:b.length=a.length) (t:Nat):yU (orT a l thr b) t=((yU a t||yU l t)||(thr&&yU b t)):=by
 by_cases ht:t<a.length
 ·unfold orT
  rw[yU,zh,gM,ng ht];rfl
 ·rw[MF (l:=a) (by omega),MF (l:=l) (by omega),MF (l:=b) (by omega),MF (by unfold orT;simp;omega)];simp
def P0 (N:NG) (H:List (List Bool)) (E:Nat->Bool) (n:Nat):List Pt->List (List Bool)->List (List Bool)
 | [],f=>f
 | .tok _::ps,f=>P0 N H E n ps f
 | .yB m::ps,f=>P0 N H E n ps (f.set m (orT (Dq f m) (ID H E ps (FM N)).1 (ID H E ps (FM N)).2 (Dq f n)))
def FF (E S:Nat->Bool) (t n:Nat):List Pt->List Bool->List Bool
 | [],c=>c
 | .tok _::ps,c=>FF E S t n ps c
 | .yB m::ps,c=>FF E S t n ps (if(DQ E S t ps||(FE E ps&&yU c n))=true then c.set m true else c)
def oF (N:NG) (H:List (List Bool)) (E:Nat->Bool) (f:List (List Bool)):List (List Bool):=N.rules.foldl (λf r=>P0 N H E r.1 r.2 f) f
def KT (N:NG):List (List Bool):=(List.replicate N.nN (FM N)).set 0 ((FM N).set N.nT true)
def OL (N:NG) (H:List (List Bool)) (E:Nat->Bool):List (List Bool):=EK (oF N H E) (N.nN*(N.nN+1)+1) (KT N)
theorem qB {H:List (List Bool)} (hH:Dh N H) (E:Nat->Bool)  (hn:n<N.nN) (t:Nat):∀(ps:List Pt),B3 N ps->∀f,Dh N f->Dh N (P0 N H E n ps f)/\DD (P0 N H E n ps f) t=FF E (col H t) t n ps (DD f t):=by
 intro ps
 induction ps with
 |nil=>intro _ f hf;exact⟨hf,rfl⟩
 |cons p ps ih=>
  intro hp f hf;cases p with
  |tok u=>exact ih hp.tail f hf
  |yB m=>
   have hm:=hp.1 m (eo ..);obtain⟨h1,h2,h3⟩:=SS hH E ps (FM N) hp.tail (by simp[FM]);have l1:=hf.2 m hm;have l2:=hf.2 n hn;have hM:Dh N (f.set m (orT (Dq f m) (ID H E ps (FM N)).1 (ID H E ps (FM N)).2 (Dq f n))):=hf.set (by unfold orT;simp[l1]);obtain⟨h4,h5⟩:=ih hp.tail _ hM;refine⟨h4,?_⟩;unfold P0 FF;rw[h5,TZ,uF (by rw[h1,l1]) (by rw[l2,l1]),h2,h3];rw[show yU (FM N) t=false from MQ _ _,yO];have e1:yU (Dq f m) t=yU (DD f t) m:=(JG f t m).symm;have e2:yU (Dq f n) t=yU (DD f t) n:=(JG f t n).symm;rw[e1,e2,Bool.or_assoc];cases hb:(DQ E (col H t) t ps||(FE E ps&&yU (DD f t) n))
   ·simp only[Bool.or_false,oy,xx]
    rw[aP]
   ·simp
theorem XD (E S:Nat->Bool) (t n:Nat):∀(ps:List Pt) (c:List Bool),(FF E S t n ps c).length=c.length/\((FF E S t n ps c=c/\∀pre m post,ps=pre++Pt.yB m::post->(DQ E S t post||(FE E post&&yU c n))=true->m<c.length->yU c m=true)\/GU (FF E S t n ps c)<GU c):=by
 intro ps
 induction ps with
 |nil=>intro c;exact⟨rfl,.inl ⟨rfl,λpre m post h=>by simp at h⟩⟩
 |cons p ps ih=>
  intro c;cases p with
  |tok u=>
   obtain⟨h0,h⟩:=ih c;refine⟨h0,?_⟩
   rcases h with⟨h1,h2⟩ |h
   ·refine .inl ⟨h1,λpre m post hp=>?_⟩
    cases pre with
    |nil=>injection hp with hp _;cases hp
    |cons q pre=>injection hp with _ hp;exact h2 pre m post hp
   ·exact .inr h
  |yB k=>
   by_cases hc:(DQ E S t ps||(FE E ps&&yU c n))=true
   ·have e:FF E S t n (.yB k::ps) c=FF E S t n ps (c.set k true):=by rw[FF,aq hc]
    obtain⟨h0,h⟩:=ih (c.set k true);rw[e];refine⟨by rw[h0];simp,?_⟩
    rcases PE c k with hs |hs
    ·rw[hs]at h ⊢
     rcases h with⟨h1,h2⟩ |h
     ·refine .inl ⟨h1,λpre m post hp hq hm=>?_⟩
      cases pre with
      |nil=>
       injection hp with hp _
       injection hp with hp
       subst hp;have:=NK hs k;rw[FL,aq ⟨rfl,hm⟩]at this;exact this.symm
      |cons q pre=>injection hp with _ hp;exact h2 pre m post hp hq hm
     ·exact .inr h
    ·right
     rcases h with⟨h1,_⟩ |h
     ·rw[h1];exact hs
     ·omega
   ·have e:FF E S t n (.yB k::ps) c=FF E S t n ps c:=by rw[FF,au hc]
    obtain⟨h0,h⟩:=ih c;rw[e];refine⟨h0,?_⟩
    rcases h with⟨h1,h2⟩ |h
    ·refine .inl ⟨h1,λpre m post hp hq hm=>?_⟩
     cases pre with
     |nil=>injection hp with _ hp;subst hp;exact absurd hq hc
     |cons q pre=>injection hp with _ hp;exact h2 pre m post hp hq hm
    ·exact .inr h
theorem eU {E S T:Nat->Bool}{t:Nat}:∀(ps:List Pt) (c:List Bool),(∀k,yU c k=true->T k=true)->
  (∀pre m post,ps=pre++Pt.yB m::post->(DQ E S t post||(FE E post&&T n))=true->T m=true)->∀k,yU (FF E S t n ps c) k=true->T k=true:=by
 intro ps
 induction ps with
 |nil=>intro c h _ k hk;exact h k hk
 |cons p ps ih=>
  intro c h hp;have hp':∀pre m post,ps=pre++Pt.yB m::post->(DQ E S t post||(FE E post&&T n))=true->T m=true:=λpre m post e=>hp (p::pre) m post aab
  cases p with
  |tok u=>exact ih c h hp'
  |yB m=>
   unfold FF;refine ih _ (λk hk=>?_) hp';split at hk
   ·rename_i hc
    rw[FL]at hk;split at hk
    ·rename_i h1
     rw[<-h1.1];refine hp [] m ps rfl ?_;simp only[oa,fu]at hc ⊢;exact hc.imp id (λhc=>⟨hc.1,h n hc.2⟩)
    ·exact h k hk
   ·exact h k hk
theorem jO (N:NG) (hN:N.Ok) (H:List (List Bool)) (hH:Dh N H) (E:Nat->Bool):Dh N (OL N H E)/\∀t,Lq (WY N E (col H t) t) (col (OL N H E) t):=by
 have hm0:Dh N (KT N):=(wJ N).set (by simp[FM]);have hit:=λt=>YG (λf r=>P0 N H E r.1 r.2 f) (λc r=>FF E (col H t) t r.1 r.2 c) t (λm hm r hr=>qB hH E (hN.lt r hr) t r.2 (hN.ps hr) m hm) (N.nN*(N.nN+1)+1) (KT N) hm0
 refine⟨(hit 0).1,λt=>?_⟩;obtain⟨_,ht⟩:=hit t;have e:col (OL N H E) t=yU (EK (λs=>N.rules.foldl (λc r=>FF E (col H t) t r.1 r.2 c) s) (N.nN*(N.nN+1)+1) (DD (KT N) t)):=by
  funext n
  rw[<-ht];exact(JG _ _ _).symm
 rw[e];have h0:(DD (KT N) t).length=N.nN:=by rw[T6];simp[KT]
 have hz:∀k,yU (DD (KT N) t) k=true↔(k=0/\t=N.nT):=by
  intro k;unfold KT;rw[TZ,FL,FL,JG,wP];have h1:0< (DD (List.replicate N.nN (FM N)) t).length:=by rw[T6];simpa using hN.pos
  by_cases hk:0=k
  ·rw[aq ⟨hk,h1⟩]
   by_cases Jh:N.nT=t
   ·rw[aq ⟨Jh,by simp[FM]⟩];simp[hk.symm,Jh.symm]
   ·rw[au (λh=>Jh h.1),show yU (FM N) t=false from MQ _ _];simp;intro _ h;exact absurd h.symm Jh
  ·rw[au (λh=>hk h.1)];simp;intro h;exact absurd h.symm hk
 have Jg:=MB (fun(c:List Bool) (r:Nat × List Pt)=>FF E (col H t) t r.1 r.2 c) GU (λs=>s.length=N.nN/\(t=N.nT->yU s 0=true)) N.rules (λs hs r hr=>by
  obtain⟨h1,h2⟩:=XD E (col H t) t r.1 r.2 s;refine⟨h2.imp (λh=>h.1) id,h1.trans hs.1,λJh=>?_⟩;have hmono:∀(ps:List Pt) (c:List Bool),yU c 0=true->yU (FF E (col H t) t r.1 ps c) 0=true:=by
   intro ps
   induction ps with
   |nil=>intro c h;exact h
   |cons p ps ih=>
    intro c h;cases p with
    |tok u=>exact ih c h
    |yB m=>
     unfold FF;refine ih _ ?_;split
     ·rw[FL]
      split
      ·rfl
      ·exact h
     ·exact h
  exact hmono r.2 s (hs.2 Jh)) (N.nN*(N.nN+1)+1) (DD (KT N) t) ⟨h0,λJh=>(hz 0).2 ⟨rfl,Jh⟩⟩ (by
   have h1:=S9 (DD (KT N) t);rw[h0]at h1;have h2:N.nN*1<=N.nN*(N.nN+1):=yx _ (by omega);omega)
 generalize hf:EK (λs=>N.rules.foldl (λc r=>FF E (col H t) t r.1 r.2 c) s) (N.nN*(N.nN+1)+1) (DD (KT N) t)=fin at Jg ⊢
 obtain⟨⟨hlen,hz0⟩,hst⟩:=Jg;refine⟨⟨hz0,λr hr pre m post hp hq=>?_⟩,λT hT=>?_⟩
 ·rcases(XD E (col H t) t r.1 r.2 fin).2 with h2 |h2
  ·exact h2.2 pre m post hp hq (by rw[hlen];exact hN.pn r hr m (by rw[hp];simp))
  ·rw[hst r hr]at h2;omega
 ·rw[<-hf]
  refine M9 (fun(c:List Bool) (r:Nat × List Pt)=>FF E (col H t) t r.1 r.2 c) (λs=>∀n,yU s n=true->T n=true) N.rules (λs hs r hr=>?_) _ _ (λn h=>by
   have:=(hz n).1 h;rw[this.1];exact hT.1 this.2)
  exact eU r.2 s hs (λpre m post hp hq=>hT.2 r hr pre m post hp hq)
structure Fa where
 least:Nat
 reached:Bool
 first:Nat
 follow:Nat
deriving DecidableEq
def AZ (k:List Fa) (n:Nat):Nat:=(k[n]?.map (·.least)).getD 202
def ET (k:List Fa) (n:Nat):Bool:=(k[n]?.map (·.reached)).getD false
def AL (k:List Fa) (n:Nat):Nat:=(k[n]?.map (·.first)).getD 0
def B1 (k:List Fa) (n:Nat):Nat:=(k[n]?.map (·.follow)).getD 0
def LL (N:NG) (k:List Fa):Pt->Nat
 | .tok t=>N.put t
 | .yB n=>AZ k n
def DC (N:NG) (k:List Fa):List Pt->Nat->Nat
 | [],s=>s
 |p::ps,s=>if LL N k p=202 then 202 else DC N k ps (min (s+LL N k p) 201)
def ED (N:NG) (k:List Fa) (r:Nat × List Pt):List Fa:=k.modify r.1 λa=>{a with least:=min a.least (DC N k r.2 0)}
theorem JF (k:List Fa) (n m:Nat) (f:Fa->Fa):(k.modify n f)[m]?=if n=m then k[m]?.map f else k[m]?:=by
 rw[List.getElem?_modify]
 by_cases h:n=m
 ·simp[h]
 ·simp[h]
theorem SK {k:List Fa}{f:Fa->Fa} (h:∀a,k[n]?=some a->f a=a):k.modify n f=k:=by
 apply nu;intro m;rw[JF];split
 ·rename_i e
  subst e;cases hk:k[n]? with
  |none=>rfl
  |some a=>simp[h a hk]
 ·rfl
def FV (μ:Fa->Nat) (k:List Fa):Nat:=(k.map μ).sum
theorem SY (μ:Fa->Nat):∀(k:List Fa) (n:Nat) (f:Fa->Fa) (a:Fa),k[n]?=some a->FV μ (k.modify n f)+μ a=FV μ k+μ (f a)
 | [],n,f,a,h=>by simp at h
 |b::r,0,f,a,h=>by
  simp at h;subst h;simp[FV];omega
 |b::r,n+1,f,a,h=>by
  have:=SY μ r n f a Kb;simp only[FV,List.modify_succ_cons,jv,List.sum_cons]at this ⊢;omega
theorem NJ {μ:Fa->Nat}{k:List Fa}{f:Fa->Fa} (h:∀a,k[n]?=some a->f a=a\/μ (f a)<μ a):k.modify n f=k\/FV μ (k.modify n f)<FV μ k:=by
 cases hk:k[n]? with
 |none=>left;exact SK (λa ha=>by rw[hk]at ha;cases ha)
 |some a=>
  rcases h a hk with h1 |h1
  ·left;exact SK (λb hb=>by rw[hk]at hb;cases hb;exact h1)
  ·right
   have:=SY μ k n f a hk;omega
theorem KU (N:NG) (k:List Fa) (hp:∀t,t<N.nT->N.put t<=99):∀(ps:List Pt) (s:Nat),B3 N ps->s<=201->
  (DC N k ps s=202/\∃n,Pt.yB n∈ps/\AZ k n=202)\/((∀n,Pt.yB n∈ps->AZ k n≠202)/\DC N k ps s=min (s+DR N (AZ k) ps) 201)
 | [],s,_,h=>by right;exact⟨(λn h=>by cases h),(by simp only[DC,DR];omega)⟩
 |p::ps,s,ho,h=>by
  simp only[DC];cases p with
  |tok t=>
   have h1:=hp t (ho.2 t (eo ..));have e:LL N k (.tok t)=N.put t:=rfl;rw[e,au (by omega)]
   rcases KU N k hp ps (min (s+N.put t) 201) ho.tail (by omega)with⟨h2,n,h3,h4⟩ | ⟨h2,h3⟩
   ·exact .inl ⟨h2,n,fj _ h3,h4⟩
   ·refine .inr ⟨λn hn=>?_,?_⟩
    ·rcases bh.1 hn with hn |hn
     ·cases hn
     ·exact h2 n hn
    ·rw[h3];simp only[DR];omega
  |yB m=>
   have e:LL N k (.yB m)=AZ k m:=rfl;rw[e]
   by_cases hb:AZ k m=202
   ·rw[aq hb];exact .inl ⟨rfl,m,eo ..,hb⟩
   ·rw[au hb]
    rcases KU N k hp ps (min (s+AZ k m) 201) ho.tail (by omega)with⟨h2,n,h3,h4⟩ | ⟨h2,h3⟩
    ·exact .inl ⟨h2,n,fj _ h3,h4⟩
    ·refine .inr ⟨λn hn=>?_,?_⟩
     ·rcases bh.1 hn with hn |hn
      ·injection hn with hn;subst hn;exact hb
      ·exact h2 n hn
     ·rw[h3];simp only[DR];omega
theorem QN (k:List Fa) (n m:Nat) (f:Fa->Fa):AZ (k.modify n f) m=if n=m/\m<k.length then(k[m]?.map λa=>(f a).least).getD 202 else AZ k m:=by
 unfold AZ;rw[JF]
 by_cases h:n=m
 ·subst h
  by_cases hl:n<k.length
  ·rw[aq rfl,aq ⟨rfl,hl⟩,gE hl];rfl
  ·rw[aq rfl,au (λh=>hl h.2),dy (by omega)];rfl
 ·rw[au h,au (λe=>h e.1)]
def kS (k:List Fa):Prop:=∀a∈k,a.reached=false/\a.first=0/\a.follow=0
structure I2 (N:NG) (k:List Fa):Prop where
 len:k.length=N.nN
 only:kS k
 le:∀n,AZ k n<=202
 Vu:∀T,O8 N true T->∀n,AZ k n≠202->T n=true
 Hr:∀T,O8 N false T->∀n,AZ k n=0->T n=true
 gr:∀T:Nat->Nat,(∀n,T n<=201)->OQ N T->∀n,T n<=min (AZ k n) 201
theorem jZ {k:List Fa}{f:Fa->Fa}{b:Fa} (h:b∈k.modify n f):b∈k\/∃a∈k,b=f a:=by
 obtain⟨m,hm,rfl⟩:=jr.1 h;have h1:=JF k n m f;rw[gE hm]at h1;rw[qz]at hm;rw[gE hm]at h1;split at h1
 ·injection h1 with h1;exact .inr ⟨_,oc hm,h1⟩
 ·injection h1 with h1;exact .inl (h1▸oc hm)
theorem ZW  (hN:N.Ok) {k:List Fa} (h:I2 N k)  (hr:r∈N.rules):
  (ED N k r=k\/FV (·.least) (ED N k r)<FV (·.least) k)/\I2 N (ED N k r):=by
 have hlt:=hN.lt r hr;have Dz:r.1<k.length:=by rw[h.len];exact hlt
 have hs:=KU N k hN.Vz r.2 0 (hN.ps hr) (by omega);rw[jl]at hs;have hfl:∀n,AZ (ED N k r) n=if r.1=n/\n<k.length then min (AZ k n) (DC N k r.2 0)else AZ k n:=by
  intro n;unfold ED;rw[QN];split
  ·rename_i e
   unfold AZ;rw[gE e.2];rfl
  ·rfl
 refine⟨?_,⟨by unfold ED;rw[qz];exact h.len,?_,?_,?_,?_,?_⟩⟩
 ·refine NJ (μ:=(·.least)) (λa _=>?_)
  by_cases hc:a.least<=DC N k r.2 0
  ·left;rw[xI hc]
  ·right;show min a.least _<a.least;omega
 ·intro b hb
  rcases jZ hb with hb | ⟨a,ha,rfl⟩
  ·exact h.only b hb
  ·exact h.only a ha
 ·intro n
  rw[hfl];have:=h.le n;split <;> omega
 ·intro T hT n hn
  rw[hfl]at hn;split at hn
  ·rename_i e
   by_cases h1:AZ k n=202
   ·rcases hs with⟨h2,_⟩ | ⟨h2,_⟩
    ·rw[h1,h2]at hn;exact absurd rfl hn
    ·rw[<-e.1]
     refine hT r hr ?_;unfold JI;rw[nj];intro p hp;cases p with
     |tok t=>rfl
     |yB m=>exact h.Vu T hT m (h2 m hp)
   ·exact h.Vu T hT n h1
  ·exact h.Vu T hT n hn
 ·intro T hT n hn
  rw[hfl]at hn;split at hn
  ·rename_i e
   by_cases h1:AZ k n=0
   ·exact h.Hr T hT n h1
   ·rcases hs with⟨h2,_⟩ | ⟨h2,h3⟩
    ·rw[h2]at hn;omega
    ·have h4:DR N (AZ k) r.2=0:=by omega
     rw[<-e.1];refine hT r hr ?_;have hz:∀ps:List Pt,B3 N ps->DR N (AZ k) ps=0->JI ps T false=true:=by
      intro ps
      induction ps with
      |nil=>intro _ _;rfl
      |cons p ps ih=>
       intro ho hz;cases p with
       |tok t=>
        have:=hN.Tm t (ho.2 t (eo ..));simp only[DR]at hz;omega
       |yB m=>
        simp only[DR]at hz;have h5:=h.Hr T hT m (by omega);have h6:=ih ho.tail (by omega);unfold JI at h6 ⊢;rw[wz,h6];simp[h5]
     exact hz r.2 (hN.ps hr) h4
  ·exact h.Hr T hT n hn
 ·intro T hT hC n
  rw[hfl];have h0:=h.gr T hT hC n;split
  ·rename_i e
   rcases hs with⟨h2,_⟩ | ⟨h2,h3⟩
   ·omega
   ·have h4:=hC r hr
    have h5:∀ps:List Pt,(∀n,Pt.yB n∈ps->AZ k n≠202)->DR N T ps<=DR N (AZ k) ps:=by
     intro ps
     induction ps with
     |nil=>intro _;exact yF _
     |cons p ps ih=>
      intro hq;have:=ih (λn hn=>hq n (fj _ hn));cases p with
      |tok t=>simp only[DR];omega
      |yB m=>
       have h7:=h.gr T hT hC m;simp only[DR];omega
    have h6:=h5 r.2 h2;have h8:=hT n;rw[e.1]at h4;omega
  ·exact h0
theorem U8  (hN:N.Ok) {k:List Fa} (h:I2 N k) (hst:∀r∈N.rules,ED N k r=k):
  Lq (O8 N true) (λn=>decide (AZ k n≠202))/\Lq (O8 N false) (λn=>decide (AZ k n=0))/\Gfp N (λn=>min (AZ k n) 201):=by
 have hcl:∀r∈N.rules,AZ k r.1<=DC N k r.2 0:=by
  intro r hr;have h1:=congrArg (λq=>AZ q r.1) (hst r hr);simp only[ED]at h1;rw[QN,aq ⟨rfl,by rw[h.len];exact hN.lt r hr⟩]at h1;unfold AZ at h1 ⊢;rw[gE (by rw[h.len];exact hN.lt r hr)]at h1 ⊢;simp only[ko,jm]at h1 ⊢;omega
 have hs:=λr hr=>KU N k hN.Vz r.2 0 (hN.ps (r:=r) hr) (by omega)
 refine⟨⟨λr hr he=>?_,λT hT n hn=>h.Vu T hT n (kf hn)⟩,⟨λr hr he=>?_,λT hT n hn=>h.Hr T hT n (kf hn)⟩,λn=>Nat.min_le_right _ _,λr hr=>?_,h.gr⟩
 ·rcases hs r hr with⟨_,n,h3,h4⟩ | ⟨h2,h3⟩
  ·unfold JI at he
   rw[nj]at he;have:=kf (he _ h3);exact absurd h4 this
  ·have:=hcl r hr
   exact ij (by omega)
 ·have hz:∀ps:List Pt,JI ps (λn=>decide (AZ k n=0)) false=true->DR N (AZ k) ps=0/\∀n,Pt.yB n∈ps->AZ k n≠202:=by
   intro ps
   induction ps with
   |nil=>intro _;exact⟨rfl,λn h=>by cases h⟩
   |cons p ps ih=>
    intro hq;unfold JI at hq ih;rw[wz,fu]at hq;obtain⟨h5,h6⟩:=ih hq.2;cases p with
    |tok t=>exact absurd hq.1 (by simp)
    |yB m=>
     have h7:AZ k m=0:=kf hq.1;refine⟨by simp only[DR];omega,λn hn=>?_⟩
     rcases bh.1 hn with hn |hn
     ·injection hn with hn;subst hn;omega
     ·exact h6 n hn
  obtain⟨h5,h6⟩:=hz r.2 he
  rcases hs r hr with⟨_,n,h3,h4⟩ | ⟨h2,h3⟩
  ·exact absurd h4 (h6 n h3)
  ·have:=hcl r hr
   exact ij (by omega)
 ·have h1:=hcl r hr
  rcases hs r hr with⟨h2,n,h3,h4⟩ | ⟨h2,h3⟩
  ·have h5:∀ps:List Pt,Pt.yB n∈ps->201<=DR N (λn=>min (AZ k n) 201) ps:=by
    intro ps
    induction ps with
    |nil=>intro h;cases h
    |cons p ps ih=>
     intro hq
     rcases bh.1 hq with hq |hq
     ·subst hq;simp only[DR];omega
     ·have:=ih hq
      cases p <;> simp only[DR] <;> omega
   have:=h5 r.2 h3;simp only;omega
  ·have h5:∀ps:List Pt,min (DR N (AZ k) ps) 201<=DR N (λn=>min (AZ k n) 201) ps:=by
    intro ps
    induction ps with
    |nil=>simp[DR]
    |cons p ps ih=>cases p <;> simp only[DR] <;> omega
   have:=h5 r.2;simp only;omega
def Q3 (l:List ByteArray) (x:ByteArray):Int:=match l.findIdx? (λt=>t.toList==x.toList)with
 |some i=>i
 |none=> -1
theorem FU (w:World) (q:Nat):Below w.heap.size w (w.drewN q):=below_drewN (ah _ _) q
def JD (l:List ByteArray):List Value:=l.map Value.string
def Bzx (l:List (ByteArray × Int × Int)):List ByteArray:=l.map (·.1)
def iH (G:Gr) (x:ByteArray):Pt->Prop
 | .yB n=>Q3 G.names x=n
 | .tok t=>Q3 G.names x= -1/\Q3 (Bzx G.toks) x=t
def xB (G:Gr) (ws:List ByteArray) (ps:List Pt):Prop:=ws.length=ps.length/\∀j p,ps[j]?=some p->iH G (nth ws j) p
structure Rep (G:Gr) (N:NG):Prop where
 ok:N.Ok
 nN:N.nN=G.names.length
 nT:N.nT=G.toks.length
 len:N.rules.length=G.rules.length
 rule:∀(i:Nat) (r:ByteArray × List ByteArray) (q:Nat × List Pt),G.rules[i]?=some r->N.rules[i]?=some q->Q3 G.names r.1=q.1/\xB G r.2 q.2
 put:∀(t:Nat) (tk:ByteArray × Int × Int),G.toks[t]?=some tk->tk.2.1=(N.put t:Int)
 Bt:N.nN<=20
 Aj:N.nT<=20
 Lr:N.rules.length<=60
 ahM:0<N.rules.length
def AQ:Pt->Bool
 | .tok _=>false
 | .yB _=>true
def AP:Pt->Nat
 | .tok t=>t
 | .yB n=>n
def C0 (w:World) (n₀:Nat) (v:Value) (ps:List Pt):Prop:=
 ∃ad cap,v=.slice ad ps.length cap/\ps.length<=cap/\(0<ps.length->∃g off,ad=some (af g off)/\g<n₀/\∀i p,ps[i]?=some p->w.cell? (af g (off+i*2))=some (.bool (AQ p))/\w.cell? (af g (off+i*2+1))=some (ab (AP p)))
theorem C0.below {v:Value}{ps:List Pt} (h:C0 w n₀ v ps) (hb:Below n₀ w w'):C0 w' n₀ v ps:=by
 obtain⟨ad,cap,h1,h2,h3⟩:=h;refine⟨ad,cap,h1,h2,λh0=>?_⟩;obtain⟨g,off,h4,h5,h6⟩:=h3 h0;exact⟨g,off,h4,h5,λi p hp=>⟨(hb.cell (by exact h5)).trans (h6 i p hp).1,(hb.cell (by exact h5)).trans (h6 i p hp).2⟩⟩
abbrev Nm:=ByteArray × List (List Pt)
def RN (w:World) (n₀:Nat) (v:Value) (rs:List (List Pt)):Prop:=
 ∃g cap,v=ae g rs.length cap/\g<n₀/\rs.length<=cap/\∀r ps,rs[r]?=some ps->∃p,w.cell? (af g r)=some p/\C0 w n₀ p ps
theorem RN.below {v:Value}{rs:List (List Pt)} (h:RN w n₀ v rs) (hb:Below n₀ w w'):RN w' n₀ v rs:=by
 obtain⟨g,cap,h1,h2,h3,h4⟩:=h;refine⟨g,cap,h1,h2,h3,λr ps hr=>?_⟩;obtain⟨p,h5,h6⟩:=h4 r ps hr;exact⟨p,(hb.cell (by exact h2)).trans h5,h6.below hb⟩
structure Ba (w:World) (n₀:Nat) (N:NG) (yL:List ByteArray) (pg:List Nm) (yu:Option Addr) (yl gN xY:Nat):Prop where
 ok:N.Ok
 Bt:N.nN<=20
 Aj:N.nT<=20
 Lr:N.rules.length<=60
 lT:N.nT<=yl
 lN:N.nN<=xY
 twl:yL.length=N.nT
 Rg:pg.length=N.nN
 hgN:gN<n₀
 rules:N.rules=pg.zipIdx.flatMap λx=>x.1.2.map λps=>(x.2,ps)
 toks:∀t,t<N.nT->∃gT,yu=some (af gT 0)/\gT<n₀/\w.cell? (af gT (t*4))=some (.string (nth yL t))/\w.cell? (af gT (t*4+1))=some (ab (N.put t))
 Wc:∀t,t<N.nT->∃gT gs cs,yu=some (af gT 0)/\gT<n₀/\w.cell? (af gT (t*4+2))=some (ab (N.drop t))/\w.cell? (af gT (t*4+3))=some (ae gs N.nT cs)/\gs<n₀/\N.nT<=cs/\∀u,u<N.nT->w.cell? (af gs u)=some (ab (N.swp t u))
 names:∀n nm,pg[n]?=some nm->w.cell? (af gN (n*2))=some (.string nm.1)/\∃v,w.cell? (af gN (n*2+1))=some v/\RN w n₀ v nm.2
theorem Ba.below {yL:List ByteArray}{pg:List Nm}{yu:Option Addr}{yl gN xY:Nat} (h:Ba w n₀ N yL pg yu yl gN xY) (hb:Below n₀ w w'):Ba w' n₀ N yL pg yu yl gN xY where
 ok:=h.ok
 Bt:=h.Bt
 Aj:=h.Aj
 Lr:=h.Lr
 lT:=h.lT
 lN:=h.lN
 twl:=h.twl
 Rg:=h.Rg
 hgN:=h.hgN
 rules:=h.rules
 toks:=λt ht=>by
  obtain⟨gT,h1,h2,h3,h4⟩:=h.toks t ht;exact⟨gT,h1,h2,(hb.cell (by exact h2)).trans h3,(hb.cell (by exact h2)).trans h4⟩
 Wc:=λt ht=>by
  obtain⟨gT,gs,cs,h1,h2,h3,h4,h5,h6,h7⟩:=h.Wc t ht;exact⟨gT,gs,cs,h1,h2,(hb.cell (by exact h2)).trans h3,(hb.cell (by exact h2)).trans h4,h5,h6,λu hu=>(hb.cell (by exact h5)).trans (h7 u hu)⟩
 names:=λn nm hn=>by
  obtain⟨h1,v,h2,h3⟩:=h.names n nm hn;exact⟨(hb.cell (by exact h.hgN)).trans h1,v,(hb.cell (by exact h.hgN)).trans h2,h3.below hb⟩
def DN (k:List Fa):List Value:=k.flatMap λa=>[ab a.least,.bool a.reached,.int .u32 a.first,.int .u32 a.follow]
theorem PZ {α:Type} (f:α->List Value) (hf:∀a,(f a).length=4):∀(l:List α) (i:Nat) (a:α) (j:Nat),l[i]?=some a->j<4->(l.flatMap f)[i*4+j]?=(f a)[j]?:=by
 intro l
 induction l with
 |nil=>intro i a j h;simp at h
 |cons x r ih=>
  intro i a j h hj;rw[gy]
  match i with
  |0=>
   simp at h;subst h;rw[aL aaE]
   congr 1;omega
  |i+1=>
   simp at h;rw[zQ aaE,hf];rw[<-ih i a j h hj]
   congr 1;omega
def y8 (w:World) (kb n:Nat) (k:List Fa):Prop:=k.length=n/\w.ownsRow kb 216 4 (ae kb n n) n (DN k)
theorem y8.cells {k:List Fa} (h:y8 w kb n k) {i:Nat}{a:Fa} (ha:k[i]?=some a):
  w.cell? (af kb (i*4))=some (ab a.least)/\w.cell? (af kb (i*4+1))=some (.bool a.reached)/\w.cell? (af kb (i*4+2))=some (.int .u32 a.first)/\w.cell? (af kb (i*4+3))=some (.int .u32 a.follow):=by
 have hi:=(yS.1 ha).1;have hl:=h.1;have h4:=λj hj=>PZ (λa:Fa=>[ab a.least,.bool a.reached,.int .u32 a.first,.int .u32 a.follow]) (λ_=>rfl) k i a j ha hj
 refine⟨?_,?_,?_,?_⟩
 ·rw[h.2.cellAt _ (by omega)];exact h4 0 (by omega)
 ·rw[h.2.cellAt _ (by omega)];exact h4 1 (by omega)
 ·rw[h.2.cellAt _ (by omega)];exact h4 2 (by omega)
 ·rw[h.2.cellAt _ (by omega)];exact h4 3 (by omega)
theorem y8.free {k:List Fa} (h:y8 w kb n k) (j:Nat):w.frozen? (af kb j)=false:=h.2.frozenAt j
theorem y8.lt {k:List Fa} (h:y8 w kb n k):kb<w.heap.size:=(h.2.lt kb rfl).2
theorem y8.keeps {k:List Fa}{S:List Nat} (h:y8 w kb n k) (hk:A1 w w' S) (hS:kb∉S):y8 w' kb n k:=⟨h.1,A7 h.2 hk (λg hg=>by simp[Value.ownBlock]at hg;subst hg;exact hS)⟩
theorem OK (f:Fa->Fa) (j:Nat) (hj:j<4) (u:Value):∀(k:List Fa) (i:Nat),(∀a,k[i]?=some a->[ab (f a).least,.bool (f a).reached,.int .u32 (f a).first,.int .u32 (f a).follow]=[ab a.least,.bool a.reached,.int .u32 a.first,.int .u32 a.follow].set j u)->
  i<k.length->DN (k.modify i f)=(DN k).set (i*4+j) u
 | [],i,_,h=>by simp at h
 |b::r,0,h,_=>by
  have h1:=h b rfl;unfold DN;simp only[List.modify_zero_cons,gy];rw[h1,Nat.zero_mul,jl,List.set_append_left _ _ (by simpa using hj)]
 |b::r,i+1,h,hl=>by
  have h1:=OK f j hj u r i (λa ha=>h a (by simpa using ha)) (by simpa using hl);unfold DN at h1 ⊢;simp only[List.modify_succ_cons,gy];rw[h1,uy _ _ yM]
  congr 2
  simp;omega
theorem y8.put {k:List Fa} (h:y8 w kb n k) {i:Nat} (hi:i<n) (f:Fa->Fa) (j:Nat) (hj:j<4) (u:Value)
  (hf:∀a,k[i]?=some a->[ab (f a).least,.bool (f a).reached,.int .u32 (f a).first,.int .u32 (f a).follow]=[ab a.least,.bool a.reached,.int .u32 a.first,.int .u32 a.follow].set j u):
  y8 (w.setCell (af kb (i*4+j)) u) kb n (k.modify i f)/\A1 w (w.setCell (af kb (i*4+j)) u) [kb]:=by
 refine⟨⟨by rw[qz];exact h.1,?_⟩,(A1.refl w [kb]).setCell (by simp) _⟩;rw[OK f j hj u k i hf (by rw[h.1];exact hi)];exact(h.2.stored (i*4+j) u).1
end Go.Proofs.YtjjggdcnpndgjaaGreatDoor
