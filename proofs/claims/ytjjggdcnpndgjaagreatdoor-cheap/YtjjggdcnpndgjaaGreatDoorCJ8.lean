import Derived.Test.YtjjggdcnpndgjaaGreatDoorCJ7
import Derived.WalkSmall
import Derived.RangeFuncNested
import Derived.RangeFuncBound
import Derived.RangeFuncCalls
import Derived.RangeFuncLeaves
import Derived.Shelf.Abstract
import Derived.OwnWalkIn
import Derived.TacticsInMore
import Derived.LoopNIn
import Derived.LoopIn
set_option linter.unusedSimpArgs false
namespace Go.Proofs.YtjjggdcnpndgjaaGreatDoor
abbrev eo:=@List.getElem?_eq_none
abbrev ny:=@List.getElem?_range
abbrev oo:=@List.ext_getElem?
abbrev ox:=@Go.below_drewN
abbrev tq:=@List.length_modify
abbrev vu:=@Nat.min_eq_left
abbrev yy:=@Nat.zero_mul
abbrev yG:=@Nat.mul_one
abbrev yU:=@Nat.le_of_eq
abbrev za:=@Nat.mul_le_mul_left
abbrev zI:=@Bool.false_or
open Go.RowKit
variable {N:NG}{h:List (List Bool)}{kb n n₀:Nat}{l:List Bool}{r:Nat × List Pt}{w w':World}
def Ar (l:List Nat) (n:Nat):Nat:=l.getD n 201
theorem XQ (l:List Nat) (n m v:Nat):Ar (l.set n v) m=if n=m/\n<l.length then v else Ar l m:=by
 unfold Ar;simp only[Af,vw]
 by_cases h:n=m
 ·subst h
  by_cases hl:n<l.length <;> simp[hl]
 ·simp[h]
def E4 (N:NG) (f:Nat->Nat):List Pt->Nat
 | []=>0
 | .tok t::ps=>N.put t+E4 N f ps
 | .zi n::ps=>f n+E4 N f ps
theorem S5 {N:NG}{f g:Nat->Nat} (h:∀n,f n<=g n):∀ps,E4 N f ps<=E4 N g ps
 | []=>zn _
 | .tok t::ps=>by have:=S5 (N:=N) h ps;simp only[E4];omega
 | .zi n::ps=>by have:=S5 (N:=N) h ps;have:=h n;simp only[E4];omega
def P3 (N:NG) (f:Nat->Nat):Prop:=∀r∈N.rules,f r.1<=E4 N f r.2
def Gfp (N:NG) (f:Nat->Nat):Prop:=(∀n,f n<=201)/\P3 N f/\∀T:Nat->Nat,(∀n,T n<=201)->P3 N T->∀n,T n<=f n
theorem Gfp.unique {f g:Nat->Nat} (h:Gfp N f) (k:Gfp N g) (n:Nat):f n=g n:=Nat.le_antisymm (k.2.2 f h.1 h.2.1 n) (h.2.2 g k.1 k.2.1 n)
def EO (N:NG) (st:List Nat × Bool) (r:Nat × List Pt):List Nat × Bool:=if E4 N (Ar st.1) r.2<Ar st.1 r.1 then(st.1.set r.1 (E4 N (Ar st.1) r.2),true)else st
def IE (N:NG) (l:List Nat):List Nat × Bool:=N.rules.foldl (EO N) (l,false)
def JP (N:NG):Nat->List Nat->List Nat
 |0,l=>l
 |k+1,l=>if(IE N l).2 then JP N k (IE N l).1 else(IE N l).1
def JW (N:NG):List Nat:=JP N (N.nN*202+1) (List.replicate N.nN 201)
theorem UW:∀(l:List Nat) (n v:Nat),v<Ar l n->n<l.length->(l.set n v).sum<l.sum
 | [],n,v,_,h=>by simp at h
 |a::r,0,v,h,_=>by have h':v<a:=h;simp;omega
 |a::r,n+1,v,h,hl=>by
  have:=UW r n v (by simpa[Ar] using h) (by simpa using hl);simp;omega
theorem pW (N:NG) (hl:∀r∈N.rules,r.1<N.nN):∀(rs:List (Nat × List Pt)),(∀r∈rs,r∈N.rules)->∀(l:List Nat) (b:Bool),l.length=N.nN->
  (rs.foldl (EO N) (l,b)).1.length=N.nN/\(((rs.foldl (EO N) (l,b))=(l,b)/\∀r∈rs,Ar l r.1<=E4 N (Ar l) r.2)\/((rs.foldl (EO N) (l,b)).2=true/\(rs.foldl (EO N) (l,b)).1.sum<l.sum)):=by
 intro rs
 induction rs with
 |nil=>intro _ l b h;exact⟨h,.inl ⟨rfl,λr hr=>by cases hr⟩⟩
 |cons x r ih=>
  intro hm l b h;have ih':=ih (λq hq=>hm q (gj _ hq));have hx:=hl x (hm x (ew ..));rw[lz]
  by_cases hc:E4 N (Ar l) x.2<Ar l x.1
  ·have e:EO N (l,b) x=(l.set x.1 (E4 N (Ar l) x.2),true):=by unfold EO;rw[ay hc]
   rw[e];obtain⟨h1,h2⟩:=ih' (l.set x.1 (E4 N (Ar l) x.2)) true Lx;have h3:=UW l x.1 _ hc (by omega);refine⟨h1,.inr ?_⟩
   rcases h2 with⟨h2,_⟩ | ⟨h2,h4⟩
   ·rw[h2];exact⟨rfl,h3⟩
   ·exact⟨h2,by omega⟩
  ·have e:EO N (l,b) x=(l,b):=by unfold EO;rw[aq hc]
   rw[e];obtain⟨h1,h2⟩:=ih' l b h;refine⟨h1,?_⟩
   rcases h2 with⟨h2,h4⟩ |h2
   ·exact .inl ⟨h2,λq hq=>by rcases bk.1 hq with rfl |hq;omega;exact h4 q hq⟩
   ·exact .inr h2
theorem VS (N:NG) (hN:N.Ok) (l:List Nat) (h:l.length=N.nN):(IE N l).1.length=N.nN/\(((IE N l)=(l,false)/\P3 N (Ar l))\/((IE N l).2=true/\(IE N l).1.sum<l.sum)):=
 pW N hN.lt N.rules (λ_ h=>h) l false h
theorem QO (N:NG) (I:List Nat->Prop) (hI:∀l,I l->∀r∈N.rules,I (EO N (l,false) r).1):∀(k:Nat) (l:List Nat),I l->I (JP N k l):=by
 have ail:∀(rs:List (Nat × List Pt)),(∀r∈rs,r∈N.rules)->∀st:List Nat × Bool,I st.1->I (rs.foldl (EO N) st).1:=by
  intro rs
  induction rs with
  |nil=>intro _ st h;exact h
  |cons x r ih=>
   intro hm st h;refine ih (λq hq=>hm q (gj _ hq)) _ ?_;have:=hI st.1 h x (hm x (ew ..));unfold EO at this ⊢;simp only at this;split at this <;> rename_i hc
   ·rw[ay hc];exact this
   ·rw[aq hc];exact h
 intro k
 induction k with
 |zero=>intro l h;exact h
 |succ k ih=>
  intro l h;have h1:I (IE N l).1:=ail N.rules (λ_ h=>h) (l,false) h;unfold JP;split
  ·exact ih _ h1
  ·exact h1
theorem ZU (N:NG) (hN:N.Ok):∀(k:Nat) (l:List Nat),l.length=N.nN->l.sum<k->P3 N (Ar (JP N k l))/\(JP N k l).length=N.nN:=by
 intro k
 induction k with
 |zero=>intro l _ h;omega
 |succ k ih=>
  intro l hl h;obtain⟨h1,h2⟩:=VS N hN l hl;unfold JP
  rcases h2 with⟨h2,h3⟩ | ⟨h2,h3⟩
  ·rw[h2]
   simp only[qi,yj];exact⟨h3,hl⟩
  ·rw[ay h2]
   exact ih _ h1 (by omega)
theorem T0 (N:NG) (hN:N.Ok):Gfp N (Ar (JW N))/\(JW N).length=N.nN:=by
 have h0:(List.replicate N.nN 201).length=N.nN:=by simp
 have h1:=ZU N hN (N.nN*202+1) (List.replicate N.nN 201) h0 (by rw[List.sum_replicate_nat];omega);have afP:∀n,Ar (List.replicate N.nN 201) n=201:=by
  intro n;unfold Ar;rw[Af,nj];split <;> rfl
 refine⟨⟨?_,h1.1,?_⟩,h1.2⟩
 ·refine QO N (λl=>∀n,Ar l n<=201) (λl h r hr=>?_) _ _ (λn=>yU (afP n))
  unfold EO;split
  ·rename_i hc
   intro n;simp only at hc ⊢;rw[XQ];split
   ·have:=h r.1;omega
   ·exact h n
  ·exact h
 ·intro T hT hC
  refine QO N (λl=>∀n,T n<=Ar l n) (λl h r hr=>?_) _ _ (λn=>by rw[afP];exact hT n);unfold EO;split
  ·intro n
   simp only;rw[XQ];split
   ·rename_i h2
    rw[<-h2.1];exact zV (hC r hr) (S5 h r.2)
   ·exact h n
  ·exact h
/- What ali a name. -/
def FN (E:Nat->Bool) (ps:List Pt):Bool:=ps.all λp=>match p with | .tok _=>false | .zi n=>E n
def E5 (E S:Nat->Bool) (t:Nat):List Pt->Bool
 | []=>false
 | .tok u::_=>u==t
 | .zi n::ps=>S n||(E n&&E5 E S t ps)
theorem RJ {E S T:Nat->Bool}{t:Nat} (h:∀n,S n=true->T n=true):∀ps,E5 E S t ps=true->E5 E T t ps=true
 | [],hb=>hb
 | .tok u::_,hb=>hb
 | .zi n::ps,hb=>by
  simp only[E5,oq,gz]at hb ⊢;exact hb.imp (h n) (λhb=>⟨hb.1,RJ h ps hb.2⟩)
def XC (N:NG) (E:Nat->Bool) (t:Nat) (S:Nat->Bool):Prop:=∀r∈N.rules,E5 E S t r.2=true->S r.1=true
def Rh (a b:List Bool):List Bool:=a.zipWith (· || ·) b
def Fk (h:List (List Bool)) (n:Nat):List Bool:=h.getD n []
theorem mD {a b:List Bool} (h:a.length=b.length) (t:Nat):zN (Rh a b) t=(zN a t||zN b t):=by
 unfold zN Rh;simp only[Af,List.getElem?_zipWith]
 by_cases ht:t<a.length
 ·rw[gE ht,gE (by omega)];rfl
 ·rw[eo (by omega),eo (by omega)];rfl
def IR (h:List (List Bool)) (E:Nat->Bool):List Pt->List Bool->List Bool × Bool
 | [],out=>(out,true)
 | .tok t::_,out=>(out.set t true,false)
 | .zi n::ps,out=>if E n then IR h E ps (Rh out (Fk h n))else(Rh out (Fk h n),false)
def Ex (N:NG) (h:List (List Bool)):Prop:=h.length=N.nN/\∀n,n<N.nN->(Fk h n).length=N.nT+1
def BE (N:NG) (ps:List Pt):Prop:=(∀n,Pt.zi n∈ps->n<N.nN)/\(∀t,Pt.tok t∈ps->t<N.nT)
theorem BE.tail {p:Pt}{ps:List Pt} (h:BE N (p::ps)):BE N ps:=⟨λn hn=>h.1 n (gj _ hn),λn hn=>h.2 n (gj _ hn)⟩
theorem NG.Ok.ps  (h:N.Ok)  (hr:r∈N.rules):BE N r.2:=⟨h.pn r hr,h.pt r hr⟩
def col (h:List (List Bool)) (t n:Nat):Bool:=zN (Fk h n) t
theorem TF  (hM:Ex N h) (E:Nat->Bool):∀(ps:List Pt) (out:List Bool),BE N ps->out.length=N.nT+1->
  (IR h E ps out).1.length=N.nT+1/\(IR h E ps out).2=FN E ps/\∀t,zN (IR h E ps out).1 t=(zN out t||E5 E (col h t) t ps):=by
 intro ps
 induction ps with
 |nil=>intro out _ ho;exact⟨ho,rfl,λt=>by simp[IR,E5]⟩
 |cons p ps ih=>
  intro out hp ho;cases p with
  |tok u=>
   have hu:=hp.2 u (ew ..);refine⟨by simpa[IR] using ho,by simp[IR,FN],λt=>?_⟩;show zN (out.set u true) t=(zN out t||(u==t));rw[FT]
   by_cases e:u=t
   ·rw[ay ⟨e,by omega⟩,e];simp
   ·rw[aq (λh=>e h.1)];simp[e]
  |zi n=>
   have hn:=hp.1 n (ew ..);have hl:(Rh out (Fk h n)).length=N.nT+1:=by
    unfold Rh;rw[List.length_zipWith,ho,hM.2 n hn];simp
   have ho':∀t,zN (Rh out (Fk h n)) t=(zN out t||col h t n):=λt=>mD (by rw[ho,hM.2 n hn]) t
   unfold IR;cases he:E n
   ·simp only[qi,yj]
    refine⟨hl,by simp[FN,he],λt=>?_⟩;rw[ho',E5,he];simp
   ·simp only[xZ]
    obtain⟨h1,h2,h3⟩:=ih (Rh out (Fk h n)) hp.tail hl;refine⟨h1,by rw[h2];simp[FN,he],λt=>?_⟩;rw[h3,ho',E5,he,Bool.or_assoc];simp
def DL (h:List (List Bool)) (t:Nat):List Bool:=h.map λrow=>zN row t
theorem JI (h:List (List Bool)) (t n:Nat):zN (DL h t) n=col h t n:=by
 unfold DL col Fk zN;simp only[Af,gM];cases h[n]? <;> simp
theorem U4 (h:List (List Bool)) (n t:Nat) (row:List Bool):DL (h.set n row) t=(DL h t).set n (zN row t):=by unfold DL;rw[List.map_set]
theorem aY:l.set n (zN l n)=l:=by
 apply oo;intro i;rw[vw];split
 ·rename_i h
  subst h;unfold zN
  by_cases hl:n<l.length
  ·simp[hl]
  ·simp[hl]
 ·rfl
def FX (N:NG):List Bool:=List.replicate (N.nT+1) false
def NE (N:NG) (E:Nat->Bool) (h:List (List Bool)) (r:Nat × List Pt):List (List Bool):=h.set r.1 (Rh (Fk h r.1) (IR h E r.2 (FX N)).1)
def mL (N:NG) (E:Nat->Bool) (h:List (List Bool)):List (List Bool):=N.rules.foldl (NE N E) h
def J7 (N:NG) (E:Nat->Bool):List (List Bool):=EV (mL N E) (N.nN+1) (List.replicate N.nN (FX N))
theorem vM (h:List (List Bool)) (n m:Nat) (v:List Bool):Fk (h.set n v) m=if n=m/\n<h.length then v else Fk h m:=by
 unfold Fk;simp only[Af,vw]
 by_cases e:n=m
 ·subst e
  by_cases hl:n<h.length <;> simp[hl]
 ·simp[e]
theorem Ex.set  (hM:Ex N h) {v:List Bool} (hv:v.length=N.nT+1):Ex N (h.set n v):=by
 refine⟨by simpa using hM.1,λm hm=>?_⟩;rw[vM];split
 ·exact hv
 ·exact hM.2 m hm
theorem wW (N:NG):Ex N (List.replicate N.nN (FX N)):=by
 refine⟨by simp,λn hn=>?_⟩;unfold Fk;rw[Af,nj,ay hn];simp[FX]
theorem wV (N:NG) (t n:Nat):col (List.replicate N.nN (FX N)) t n=false:=by
 unfold col Fk;rw[Af,nj];split
 ·exact MW _ _
 ·rfl
theorem TA  (hN:N.Ok) (E:Nat->Bool)  (hM:Ex N h)  (hr:r∈N.rules):
  Ex N (NE N E h r)/\∀t,DL (NE N E h r) t=if E5 E (zN (DL h t)) t r.2=true then(DL h t).set r.1 true else DL h t:=by
 obtain⟨h1,_,h3⟩:=TF hM E r.2 (FX N) (hN.ps hr) (by simp[FX]);have hl:=hM.2 r.1 (hN.lt r hr);refine⟨hM.set (by unfold Rh;rw[List.length_zipWith,hl,h1];simp),λt=>?_⟩;unfold NE;rw[U4,mD (by rw[hl,h1]),h3];have e:col h t=zN (DL h t):=funext λn=>(JI h t n).symm
 rw[show zN (FX N) t=false from MW _ _,zI,e];have e2:zN (Fk h r.1) t=zN (DL h t) r.1:=(JI h t r.1).symm;rw[e2];cases hb:E5 E (zN (DL h t)) t r.2
 ·simp only[Bool.or_false,qi,yj]
  exact aY
 ·simp
theorem mY  (step:List (List Bool)->Nat × List Pt->List (List Bool)) (cs:List Bool->Nat × List Pt->List Bool) (t:Nat)
  (h:∀m,Ex N m->∀r∈N.rules,Ex N (step m r)/\DL (step m r) t=cs (DL m t) r):∀(rs:List (Nat × List Pt)),(∀r∈rs,r∈N.rules)->∀m,Ex N m->Ex N (rs.foldl step m)/\DL (rs.foldl step m) t=rs.foldl cs (DL m t):=by
 intro rs
 induction rs with
 |nil=>intro _ m hm;exact⟨hm,rfl⟩
 |cons x r ih=>
  intro hr m hm;obtain⟨h1,h2⟩:=h m hm x (hr x (ew ..));rw[lz,lz,<-h2];exact ih (λq hq=>hr q (gj _ hq)) _ h1
theorem YV  (step:List (List Bool)->Nat × List Pt->List (List Bool)) (cs:List Bool->Nat × List Pt->List Bool) (t:Nat)
  (h:∀m,Ex N m->∀r∈N.rules,Ex N (step m r)/\DL (step m r) t=cs (DL m t) r):∀(k:Nat) (m:List (List Bool)),Ex N m->
   Ex N (EV (λs=>N.rules.foldl step s) k m)/\DL (EV (λs=>N.rules.foldl step s) k m) t=EV (λs=>N.rules.foldl cs s) k (DL m t):=by
 intro k
 induction k with
 |zero=>intro m hm;exact⟨hm,rfl⟩
 |succ k ih=>
  intro m hm;obtain⟨h1,h2⟩:=mY step cs t h N.rules (λ_ h=>h) m hm;show Ex N (EV _ k (N.rules.foldl step m))/\DL (EV _ k (N.rules.foldl step m)) t=EV _ k (N.rules.foldl cs (DL m t));rw[<-h2];exact ih _ h1
theorem UA (h:List (List Bool)) (t:Nat):(DL h t).length=h.length:=by unfold DL;simp
theorem QI (N:NG) (hN:N.Ok) (E:Nat->Bool):Ex N (J7 N E)/\∀t,Ng (XC N E t) (col (J7 N E) t):=by
 have hit:=λt=>YV (NE N E) (λc r=>if E5 E (zN c) t r.2=true then c.set r.1 true else c) t (λm hm r hr=>⟨(TA hN E hm hr).1,(TA hN E hm hr).2 t⟩) (N.nN+1) (List.replicate N.nN (FX N)) (wW N)
 refine⟨(hit 0).1,λt=>?_⟩;obtain⟨_,ht⟩:=hit t;have e:col (J7 N E) t=zN (EV (λs=>N.rules.foldl (λc r=>if E5 E (zN c) t r.2=true then c.set r.1 true else c) s) (N.nN+1) (DL (List.replicate N.nN (FX N)) t)):=by
  funext n
  rw[<-ht];exact(JI _ _ _).symm
 rw[e];have h0:(DL (List.replicate N.nN (FX N)) t).length=N.nN:=by rw[UA];simp
 have Lf:=MU (fun(c:List Bool) (r:Nat × List Pt)=>if E5 E (zN c) t r.2=true then c.set r.1 true else c) I6 (λs=>s.length=N.nN) N.rules (λs hs r hr=>by
  split
  ·exact⟨QA s r.1,by simpa using hs⟩
  ·exact⟨.inl rfl,hs⟩) (N.nN+1) (DL (List.replicate N.nN (FX N)) t) h0 (by have:=SS (DL (List.replicate N.nN (FX N)) t);omega)
 generalize hf:EV (λs=>N.rules.foldl (λc r=>if E5 E (zN c) t r.2=true then c.set r.1 true else c) s) (N.nN+1) (DL (List.replicate N.nN (FX N)) t)=fin at Lf ⊢
 obtain⟨hlen,hst⟩:=Lf;refine⟨λr hr he=>?_,λT hT=>?_⟩
 ·have h2:=hst r hr
  rw[ay he]at h2;have h3:=NX h2 r.1;rw[FT,ay ⟨rfl,by rw[hlen];exact hN.lt r hr⟩]at h3;exact h3.symm
 ·rw[<-hf]
  refine MV (fun(c:List Bool) (r:Nat × List Pt)=>if E5 E (zN c) t r.2=true then c.set r.1 true else c) (λs=>∀n,zN s n=true->T n=true) N.rules (λs hs r hr=>?_) _ _ (λn h=>by rw[JI,wV]at h;cases h);intro n hn;split at hn
  ·rename_i he
   rw[FT]at hn;split at hn
   ·rename_i h1
    rw[<-h1.1];exact hT r hr (RJ hs _ he)
   ·exact hs n hn
  ·exact hs n hn
def XL (N:NG) (E H:Nat->Bool) (t:Nat) (S:Nat->Bool):Prop:=
 (t=N.nT->S 0=true)/\∀r∈N.rules,∀pre m post,r.2=pre++Pt.zi m::post->(E5 E H t post||(FN E post&&S r.1))=true->S m=true
def orT (a l:List Bool) (thr:Bool) (b:List Bool):List Bool:=(List.range a.length).map λt=>(zN a t||zN l t)||(thr&&zN b t)
theorem MM {t:Nat} (h:l.length<=t):zN l t=false:=by
 unfold zN;rw[Af,eo h];rfl
theorem uU {a b:List Bool}{thr:Bool} (h1:l.length=a.length) (h2:b.length=a.length) (t:Nat):zN (orT a l thr b) t=((zN a t||zN l t)||(thr&&zN b t)):=by
 by_cases ht:t<a.length
 ·unfold orT
  rw[zN,Af,gM,ny ht];rfl
 ·rw[MM (l:=a) (by omega),MM (l:=l) (by omega),MM (l:=b) (by omega),MM (by unfold orT;simp;omega)];simp
def QM (N:NG) (H:List (List Bool)) (E:Nat->Bool) (n:Nat):List Pt->List (List Bool)->List (List Bool)
 | [],f=>f
 | .tok _::ps,f=>QM N H E n ps f
 | .zi m::ps,f=>QM N H E n ps (f.set m (orT (Fk f m) (IR H E ps (FX N)).1 (IR H E ps (FX N)).2 (Fk f n)))
def FO (E S:Nat->Bool) (t n:Nat):List Pt->List Bool->List Bool
 | [],c=>c
 | .tok _::ps,c=>FO E S t n ps c
 | .zi m::ps,c=>FO E S t n ps (if(E5 E S t ps||(FN E ps&&zN c n))=true then c.set m true else c)
def nP (N:NG) (H:List (List Bool)) (E:Nat->Bool) (f:List (List Bool)):List (List Bool):=N.rules.foldl (λf r=>QM N H E r.1 r.2 f) f
def LE (N:NG):List (List Bool):=(List.replicate N.nN (FX N)).set 0 ((FX N).set N.nT true)
def OU (N:NG) (H:List (List Bool)) (E:Nat->Bool):List (List Bool):=EV (nP N H E) (N.nN*(N.nN+1)+1) (LE N)
theorem qL {H:List (List Bool)} (hH:Ex N H) (E:Nat->Bool)  (hn:n<N.nN) (t:Nat):∀(ps:List Pt),BE N ps->∀f,Ex N f->Ex N (QM N H E n ps f)/\DL (QM N H E n ps f) t=FO E (col H t) t n ps (DL f t):=by
 intro ps
 induction ps with
 |nil=>intro _ f hf;exact⟨hf,rfl⟩
 |cons p ps ih=>
  intro hp f hf;cases p with
  |tok u=>exact ih hp.tail f hf
  |zi m=>
   have hm:=hp.1 m (ew ..);obtain⟨h1,h2,h3⟩:=TF hH E ps (FX N) hp.tail (by simp[FX]);have l1:=hf.2 m hm;have l2:=hf.2 n hn;have hM:Ex N (f.set m (orT (Fk f m) (IR H E ps (FX N)).1 (IR H E ps (FX N)).2 (Fk f n))):=hf.set (by unfold orT;simp[l1]);obtain⟨h4,h5⟩:=ih hp.tail _ hM;refine⟨h4,?_⟩;unfold QM FO;rw[h5,U4,uU (by rw[h1,l1]) (by rw[l2,l1]),h2,h3];rw[show zN (FX N) t=false from MW _ _,zI];have e1:zN (Fk f m) t=zN (DL f t) m:=(JI f t m).symm;have e2:zN (Fk f n) t=zN (DL f t) n:=(JI f t n).symm;rw[e1,e2,Bool.or_assoc];cases hb:(E5 E (col H t) t ps||(FN E ps&&zN (DL f t) n))
   ·simp only[Bool.or_false,qi,yj]
    rw[aY]
   ·simp
theorem YP (E S:Nat->Bool) (t n:Nat):∀(ps:List Pt) (c:List Bool),(FO E S t n ps c).length=c.length/\((FO E S t n ps c=c/\∀pre m post,ps=pre++Pt.zi m::post->(E5 E S t post||(FN E post&&zN c n))=true->m<c.length->zN c m=true)\/I6 (FO E S t n ps c)<I6 c):=by
 intro ps
 induction ps with
 |nil=>intro c;exact⟨rfl,.inl ⟨rfl,λpre m post h=>by simp at h⟩⟩
 |cons p ps ih=>
  intro c;cases p with
  |tok u=>
   obtain⟨h0,h⟩:=ih c;refine⟨h0,?_⟩
   rcases h with⟨h1,h2⟩ |h
   ·refine .inl ⟨h1,λpre m post hp=>?_⟩
    cases pre with
    |nil=>injection hp with hp _;cases hp
    |cons q pre=>injection hp with _ hp;exact h2 pre m post hp
   ·exact .inr h
  |zi k=>
   by_cases hc:(E5 E S t ps||(FN E ps&&zN c n))=true
   ·have e:FO E S t n (.zi k::ps) c=FO E S t n ps (c.set k true):=by rw[FO,ay hc]
    obtain⟨h0,h⟩:=ih (c.set k true);rw[e];refine⟨by rw[h0];simp,?_⟩
    rcases QA c k with hs |hs
    ·rw[hs]at h ⊢
     rcases h with⟨h1,h2⟩ |h
     ·refine .inl ⟨h1,λpre m post hp hq hm=>?_⟩
      cases pre with
      |nil=>
       injection hp with hp _
       injection hp with hp
       subst hp;have:=NX hs k;rw[FT,ay ⟨rfl,hm⟩]at this;exact this.symm
      |cons q pre=>injection hp with _ hp;exact h2 pre m post hp hq hm
     ·exact .inr h
    ·right
     rcases h with⟨h1,_⟩ |h
     ·rw[h1];exact hs
     ·omega
   ·have e:FO E S t n (.zi k::ps) c=FO E S t n ps c:=by rw[FO,aq hc]
    obtain⟨h0,h⟩:=ih c;rw[e];refine⟨h0,?_⟩
    rcases h with⟨h1,h2⟩ |h
    ·refine .inl ⟨h1,λpre m post hp hq hm=>?_⟩
     cases pre with
     |nil=>injection hp with _ hp;subst hp;exact absurd hq hc
     |cons q pre=>injection hp with _ hp;exact h2 pre m post hp hq hm
    ·exact .inr h
theorem fI {E S T:Nat->Bool}{t:Nat}:∀(ps:List Pt) (c:List Bool),(∀k,zN c k=true->T k=true)->
  (∀pre m post,ps=pre++Pt.zi m::post->(E5 E S t post||(FN E post&&T n))=true->T m=true)->∀k,zN (FO E S t n ps c) k=true->T k=true:=by
 intro ps
 induction ps with
 |nil=>intro c h _ k hk;exact h k hk
 |cons p ps ih=>
  intro c h hp;have hp':∀pre m post,ps=pre++Pt.zi m::post->(E5 E S t post||(FN E post&&T n))=true->T m=true:=λpre m post e=>hp (p::pre) m post aaP
  cases p with
  |tok u=>exact ih c h hp'
  |zi m=>
   unfold FO;refine ih _ (λk hk=>?_) hp';split at hk
   ·rename_i hc
    rw[FT]at hk;split at hk
    ·rename_i h1
     rw[<-h1.1];refine hp [] m ps rfl ?_;simp only[oq,gz]at hc ⊢;exact hc.imp id (λhc=>⟨hc.1,h n hc.2⟩)
    ·exact h k hk
   ·exact h k hk
theorem kP (N:NG) (hN:N.Ok) (H:List (List Bool)) (hH:Ex N H) (E:Nat->Bool):Ex N (OU N H E)/\∀t,Ng (XL N E (col H t) t) (col (OU N H E) t):=by
 have hm0:Ex N (LE N):=(wW N).set (by simp[FX]);have hit:=λt=>YV (λf r=>QM N H E r.1 r.2 f) (λc r=>FO E (col H t) t r.1 r.2 c) t (λm hm r hr=>qL hH E (hN.lt r hr) t r.2 (hN.ps hr) m hm) (N.nN*(N.nN+1)+1) (LE N) hm0
 refine⟨(hit 0).1,λt=>?_⟩;obtain⟨_,ht⟩:=hit t;have e:col (OU N H E) t=zN (EV (λs=>N.rules.foldl (λc r=>FO E (col H t) t r.1 r.2 c) s) (N.nN*(N.nN+1)+1) (DL (LE N) t)):=by
  funext n
  rw[<-ht];exact(JI _ _ _).symm
 rw[e];have h0:(DL (LE N) t).length=N.nN:=by rw[UA];simp[LE]
 have hz:∀k,zN (DL (LE N) t) k=true↔(k=0/\t=N.nT):=by
  intro k;unfold LE;rw[U4,FT,FT,JI,wV];have h1:0< (DL (List.replicate N.nN (FX N)) t).length:=by rw[UA];simpa using hN.pos
  by_cases hk:0=k
  ·rw[ay ⟨hk,h1⟩]
   by_cases Lg:N.nT=t
   ·rw[ay ⟨Lg,by simp[FX]⟩];simp[hk.symm,Lg.symm]
   ·rw[aq (λh=>Lg h.1),show zN (FX N) t=false from MW _ _];simp;intro _ h;exact absurd h.symm Lg
  ·rw[aq (λh=>hk h.1)];simp;intro h;exact absurd h.symm hk
 have Lf:=MU (fun(c:List Bool) (r:Nat × List Pt)=>FO E (col H t) t r.1 r.2 c) I6 (λs=>s.length=N.nN/\(t=N.nT->zN s 0=true)) N.rules (λs hs r hr=>by
  obtain⟨h1,h2⟩:=YP E (col H t) t r.1 r.2 s;refine⟨h2.imp (λh=>h.1) id,h1.trans hs.1,λLg=>?_⟩;have hmono:∀(ps:List Pt) (c:List Bool),zN c 0=true->zN (FO E (col H t) t r.1 ps c) 0=true:=by
   intro ps
   induction ps with
   |nil=>intro c h;exact h
   |cons p ps ih=>
    intro c h;cases p with
    |tok u=>exact ih c h
    |zi m=>
     unfold FO;refine ih _ ?_;split
     ·rw[FT]
      split
      ·rfl
      ·exact h
     ·exact h
  exact hmono r.2 s (hs.2 Lg)) (N.nN*(N.nN+1)+1) (DL (LE N) t) ⟨h0,λLg=>(hz 0).2 ⟨rfl,Lg⟩⟩ (by
   have h1:=SS (DL (LE N) t);rw[h0]at h1;have h2:N.nN*1<=N.nN*(N.nN+1):=za _ (by omega);omega)
 generalize hf:EV (λs=>N.rules.foldl (λc r=>FO E (col H t) t r.1 r.2 c) s) (N.nN*(N.nN+1)+1) (DL (LE N) t)=fin at Lf ⊢
 obtain⟨⟨hlen,hz0⟩,hst⟩:=Lf;refine⟨⟨hz0,λr hr pre m post hp hq=>?_⟩,λT hT=>?_⟩
 ·rcases(YP E (col H t) t r.1 r.2 fin).2 with h2 |h2
  ·exact h2.2 pre m post hp hq (by rw[hlen];exact hN.pn r hr m (by rw[hp];simp))
  ·rw[hst r hr]at h2;omega
 ·rw[<-hf]
  refine MV (fun(c:List Bool) (r:Nat × List Pt)=>FO E (col H t) t r.1 r.2 c) (λs=>∀n,zN s n=true->T n=true) N.rules (λs hs r hr=>?_) _ _ (λn h=>by
   have:=(hz n).1 h;rw[this.1];exact hT.1 this.2)
  exact fI r.2 s hs (λpre m post hp hq=>hT.2 r hr pre m post hp hq)
structure Fa where
 least:Nat
 reached:Bool
 first:Nat
 follow:Nat
deriving DecidableEq
def BB (k:List Fa) (n:Nat):Nat:=(k[n]?.map (·.least)).getD 202
def F6 (k:List Fa) (n:Nat):Bool:=(k[n]?.map (·.reached)).getD false
def AQ (k:List Fa) (n:Nat):Nat:=(k[n]?.map (·.first)).getD 0
def BC (k:List Fa) (n:Nat):Nat:=(k[n]?.map (·.follow)).getD 0
def M8 (N:NG) (k:List Fa):Pt->Nat
 | .tok t=>N.put t
 | .zi n=>BB k n
def DN (N:NG) (k:List Fa):List Pt->Nat->Nat
 | [],s=>s
 |p::ps,s=>if M8 N k p=202 then 202 else DN N k ps (min (s+M8 N k p) 201)
def EP (N:NG) (k:List Fa) (r:Nat × List Pt):List Fa:=k.modify r.1 λa=>{a with least:=min a.least (DN N k r.2 0)}
theorem JR (k:List Fa) (n m:Nat) (f:Fa->Fa):(k.modify n f)[m]?=if n=m then k[m]?.map f else k[m]?:=by
 rw[List.getElem?_modify]
 by_cases h:n=m
 ·simp[h]
 ·simp[h]
theorem SY {k:List Fa}{f:Fa->Fa} (h:∀a,k[n]?=some a->f a=a):k.modify n f=k:=by
 apply oo;intro m;rw[JR];split
 ·rename_i e
  subst e;cases hk:k[n]? with
  |none=>rfl
  |some a=>simp[h a hk]
 ·rfl
def GD (μ:Fa->Nat) (k:List Fa):Nat:=(k.map μ).sum
theorem T3 (μ:Fa->Nat):∀(k:List Fa) (n:Nat) (f:Fa->Fa) (a:Fa),k[n]?=some a->GD μ (k.modify n f)+μ a=GD μ k+μ (f a)
 | [],n,f,a,h=>by simp at h
 |b::r,0,f,a,h=>by
  simp at h;subst h;simp[GD];omega
 |b::r,n+1,f,a,h=>by
  have:=T3 μ r n f a Lx;simp only[GD,List.modify_succ_cons,jx,List.sum_cons]at this ⊢;omega
theorem NW {μ:Fa->Nat}{k:List Fa}{f:Fa->Fa} (h:∀a,k[n]?=some a->f a=a\/μ (f a)<μ a):k.modify n f=k\/GD μ (k.modify n f)<GD μ k:=by
 cases hk:k[n]? with
 |none=>left;exact SY (λa ha=>by rw[hk]at ha;cases ha)
 |some a=>
  rcases h a hk with h1 |h1
  ·left;exact SY (λb hb=>by rw[hk]at hb;cases hb;exact h1)
  ·right
   have:=T3 μ k n f a hk;omega
theorem L7 (N:NG) (k:List Fa) (hp:∀t,t<N.nT->N.put t<=99):∀(ps:List Pt) (s:Nat),BE N ps->s<=201->
  (DN N k ps s=202/\∃n,Pt.zi n∈ps/\BB k n=202)\/((∀n,Pt.zi n∈ps->BB k n≠202)/\DN N k ps s=min (s+E4 N (BB k) ps) 201)
 | [],s,_,h=>by right;exact⟨(λn h=>by cases h),(by simp only[DN,E4];omega)⟩
 |p::ps,s,ho,h=>by
  simp only[DN];cases p with
  |tok t=>
   have h1:=hp t (ho.2 t (ew ..));have e:M8 N k (.tok t)=N.put t:=rfl;rw[e,aq (by omega)]
   rcases L7 N k hp ps (min (s+N.put t) 201) ho.tail (by omega)with⟨h2,n,h3,h4⟩ | ⟨h2,h3⟩
   ·exact .inl ⟨h2,n,gj _ h3,h4⟩
   ·refine .inr ⟨λn hn=>?_,?_⟩
    ·rcases bk.1 hn with hn |hn
     ·cases hn
     ·exact h2 n hn
    ·rw[h3];simp only[E4];omega
  |zi m=>
   have e:M8 N k (.zi m)=BB k m:=rfl;rw[e]
   by_cases hb:BB k m=202
   ·rw[ay hb];exact .inl ⟨rfl,m,ew ..,hb⟩
   ·rw[aq hb]
    rcases L7 N k hp ps (min (s+BB k m) 201) ho.tail (by omega)with⟨h2,n,h3,h4⟩ | ⟨h2,h3⟩
    ·exact .inl ⟨h2,n,gj _ h3,h4⟩
    ·refine .inr ⟨λn hn=>?_,?_⟩
     ·rcases bk.1 hn with hn |hn
      ·injection hn with hn;subst hn;exact hb
      ·exact h2 n hn
     ·rw[h3];simp only[E4];omega
theorem R5 (k:List Fa) (n m:Nat) (f:Fa->Fa):BB (k.modify n f) m=if n=m/\m<k.length then(k[m]?.map λa=>(f a).least).getD 202 else BB k m:=by
 unfold BB;rw[JR]
 by_cases h:n=m
 ·subst h
  by_cases hl:n<k.length
  ·rw[ay rfl,ay ⟨rfl,hl⟩,gE hl];rfl
  ·rw[ay rfl,aq (λh=>hl h.2),eo (by omega)];rfl
 ·rw[aq h,aq (λe=>h e.1)]
def pL (k:List Fa):Prop:=∀a∈k,a.reached=false/\a.first=0/\a.follow=0
structure Bzq (N:NG) (k:List Fa):Prop where
 len:k.length=N.nN
 only:pL k
 le:∀n,BB k n<=202
 Yu:∀T,P4 N true T->∀n,BB k n≠202->T n=true
 Jz:∀T,P4 N false T->∀n,BB k n=0->T n=true
 gr:∀T:Nat->Nat,(∀n,T n<=201)->P3 N T->∀n,T n<=min (BB k n) 201
theorem k9 {k:List Fa}{f:Fa->Fa}{b:Fa} (h:b∈k.modify n f):b∈k\/∃a∈k,b=f a:=by
 obtain⟨m,hm,rfl⟩:=jv.1 h;have h1:=JR k n m f;rw[gE hm]at h1;rw[tq]at hm;rw[gE hm]at h1;split at h1
 ·injection h1 with h1;exact .inr ⟨_,ot hm,h1⟩
 ·injection h1 with h1;exact .inl (h1▸ot hm)
theorem aX  (hN:N.Ok) {k:List Fa} (h:Bzq N k)  (hr:r∈N.rules):
  (EP N k r=k\/GD (·.least) (EP N k r)<GD (·.least) k)/\Bzq N (EP N k r):=by
 have hlt:=hN.lt r hr;have Ct:r.1<k.length:=by rw[h.len];exact hlt
 have hs:=L7 N k hN.Za r.2 0 (hN.ps hr) (by omega);rw[ju]at hs;have hfl:∀n,BB (EP N k r) n=if r.1=n/\n<k.length then min (BB k n) (DN N k r.2 0)else BB k n:=by
  intro n;unfold EP;rw[R5];split
  ·rename_i e
   unfold BB;rw[gE e.2];rfl
  ·rfl
 refine⟨?_,⟨by unfold EP;rw[tq];exact h.len,?_,?_,?_,?_,?_⟩⟩
 ·refine NW (μ:=(·.least)) (λa _=>?_)
  by_cases hc:a.least<=DN N k r.2 0
  ·left;rw[vu hc]
  ·right;show min a.least _<a.least;omega
 ·intro b hb
  rcases k9 hb with hb | ⟨a,ha,rfl⟩
  ·exact h.only b hb
  ·exact h.only a ha
 ·intro n
  rw[hfl];have:=h.le n;split <;> omega
 ·intro T hT n hn
  rw[hfl]at hn;split at hn
  ·rename_i e
   by_cases h1:BB k n=202
   ·rcases hs with⟨h2,_⟩ | ⟨h2,_⟩
    ·rw[h1,h2]at hn;exact absurd rfl hn
    ·rw[<-e.1]
     refine hT r hr ?_;unfold JV;rw[oh];intro p hp;cases p with
     |tok t=>rfl
     |zi m=>exact h.Yu T hT m (h2 m hp)
   ·exact h.Yu T hT n h1
  ·exact h.Yu T hT n hn
 ·intro T hT n hn
  rw[hfl]at hn;split at hn
  ·rename_i e
   by_cases h1:BB k n=0
   ·exact h.Jz T hT n h1
   ·rcases hs with⟨h2,_⟩ | ⟨h2,h3⟩
    ·rw[h2]at hn;omega
    ·have h4:E4 N (BB k) r.2=0:=by omega
     rw[<-e.1];refine hT r hr ?_;have hz:∀ps:List Pt,BE N ps->E4 N (BB k) ps=0->JV ps T false=true:=by
      intro ps
      induction ps with
      |nil=>intro _ _;rfl
      |cons p ps ih=>
       intro ho hz;cases p with
       |tok t=>
        have:=hN.Yz t (ho.2 t (ew ..));simp only[E4]at hz;omega
       |zi m=>
        simp only[E4]at hz;have h5:=h.Jz T hT m (by omega);have h6:=ih ho.tail (by omega);unfold JV at h6 ⊢;rw[xu,h6];simp[h5]
     exact hz r.2 (hN.ps hr) h4
  ·exact h.Jz T hT n hn
 ·intro T hT hC n
  rw[hfl];have h0:=h.gr T hT hC n;split
  ·rename_i e
   rcases hs with⟨h2,_⟩ | ⟨h2,h3⟩
   ·omega
   ·have h4:=hC r hr
    have h5:∀ps:List Pt,(∀n,Pt.zi n∈ps->BB k n≠202)->E4 N T ps<=E4 N (BB k) ps:=by
     intro ps
     induction ps with
     |nil=>intro _;exact zn _
     |cons p ps ih=>
      intro hq;have:=ih (λn hn=>hq n (gj _ hn));cases p with
      |tok t=>simp only[E4];omega
      |zi m=>
       have h7:=h.gr T hT hC m;simp only[E4];omega
    have h6:=h5 r.2 h2;have h8:=hT n;rw[e.1]at h4;omega
  ·exact h0
theorem VX  (hN:N.Ok) {k:List Fa} (h:Bzq N k) (hst:∀r∈N.rules,EP N k r=k):
  Ng (P4 N true) (λn=>decide (BB k n≠202))/\Ng (P4 N false) (λn=>decide (BB k n=0))/\Gfp N (λn=>min (BB k n) 201):=by
 have hcl:∀r∈N.rules,BB k r.1<=DN N k r.2 0:=by
  intro r hr;have h1:=congrArg (λq=>BB q r.1) (hst r hr);simp only[EP]at h1;rw[R5,ay ⟨rfl,by rw[h.len];exact hN.lt r hr⟩]at h1;unfold BB at h1 ⊢;rw[gE (by rw[h.len];exact hN.lt r hr)]at h1 ⊢;simp only[kq,jq]at h1 ⊢;omega
 have hs:=λr hr=>L7 N k hN.Za r.2 0 (hN.ps (r:=r) hr) (by omega)
 refine⟨⟨λr hr he=>?_,λT hT n hn=>h.Yu T hT n (kg hn)⟩,⟨λr hr he=>?_,λT hT n hn=>h.Jz T hT n (kg hn)⟩,λn=>Nat.min_le_right _ _,λr hr=>?_,h.gr⟩
 ·rcases hs r hr with⟨_,n,h3,h4⟩ | ⟨h2,h3⟩
  ·unfold JV at he
   rw[oh]at he;have:=kg (he _ h3);exact absurd h4 this
  ·have:=hcl r hr
   exact iz (by omega)
 ·have hz:∀ps:List Pt,JV ps (λn=>decide (BB k n=0)) false=true->E4 N (BB k) ps=0/\∀n,Pt.zi n∈ps->BB k n≠202:=by
   intro ps
   induction ps with
   |nil=>intro _;exact⟨rfl,λn h=>by cases h⟩
   |cons p ps ih=>
    intro hq;unfold JV at hq ih;rw[xu,gz]at hq;obtain⟨h5,h6⟩:=ih hq.2;cases p with
    |tok t=>exact absurd hq.1 (by simp)
    |zi m=>
     have h7:BB k m=0:=kg hq.1;refine⟨by simp only[E4];omega,λn hn=>?_⟩
     rcases bk.1 hn with hn |hn
     ·injection hn with hn;subst hn;omega
     ·exact h6 n hn
  obtain⟨h5,h6⟩:=hz r.2 he
  rcases hs r hr with⟨_,n,h3,h4⟩ | ⟨h2,h3⟩
  ·exact absurd h4 (h6 n h3)
  ·have:=hcl r hr
   exact iz (by omega)
 ·have h1:=hcl r hr
  rcases hs r hr with⟨h2,n,h3,h4⟩ | ⟨h2,h3⟩
  ·have h5:∀ps:List Pt,Pt.zi n∈ps->201<=E4 N (λn=>min (BB k n) 201) ps:=by
    intro ps
    induction ps with
    |nil=>intro h;cases h
    |cons p ps ih=>
     intro hq
     rcases bk.1 hq with hq |hq
     ·subst hq;simp only[E4];omega
     ·have:=ih hq
      cases p <;> simp only[E4] <;> omega
   have:=h5 r.2 h3;simp only;omega
  ·have h5:∀ps:List Pt,min (E4 N (BB k) ps) 201<=E4 N (λn=>min (BB k n) 201) ps:=by
    intro ps
    induction ps with
    |nil=>simp[E4]
    |cons p ps ih=>cases p <;> simp only[E4] <;> omega
   have:=h5 r.2;simp only;omega
def QF (l:List ByteArray) (x:ByteArray):Int:=match l.findIdx? (λt=>t.toList==x.toList)with
 |some i=>i
 |none=> -1
theorem G8 (w:World) (q:Nat):Below w.heap.size w (w.drewN q):=ox (ah _ _) q
def EE (l:List ByteArray):List Value:=l.map Value.string
def KO (l:List Nat):List Value:=l.map fun(n:Nat)=>ab (n:Int)
theorem vL {l:List Nat}{k:Nat} (h:k<l.length):(KO l)[k]?=some (ab (Ar l k)):=by
 unfold KO Ar;simp[gE h]
def GA (l:List (ByteArray × Int × Int)):List ByteArray:=l.map (·.1)
def iX (G:Gr) (x:ByteArray):Pt->Prop
 | .zi n=>QF G.names x=n
 | .tok t=>QF G.names x= -1/\QF (GA G.toks) x=t
def xL (G:Gr) (ws:List ByteArray) (ps:List Pt):Prop:=ws.length=ps.length/\∀j p,ps[j]?=some p->iX G (nth ws j) p
structure Rep (G:Gr) (N:NG):Prop where
 ok:N.Ok
 nN:N.nN=G.names.length
 nT:N.nT=G.toks.length
 len:N.rules.length=G.rules.length
 rule:∀(i:Nat) (r:ByteArray × List ByteArray) (q:Nat × List Pt),G.rules[i]?=some r->N.rules[i]?=some q->QF G.names r.1=q.1/\xL G r.2 q.2
 put:∀(t:Nat) (tk:ByteArray × Int × Int),G.toks[t]?=some tk->tk.2.1=(N.put t:Int)
 Dm:N.nN<=20
 Ch:N.nT<=20
 Nh:N.rules.length<=60
 aim:0<N.rules.length
theorem Tryz.info3:(Tryz.prog.info? 3).map (λi=>(i.zero,i.size,i.bytes))=some (some (ab 0),1,8):=by kernel_rfl
theorem sV (l:List Nat) (n v:Nat):KO (l.set n v)=(KO l).set n (ab (v:Int)):=by unfold KO;rw[List.map_set]
theorem pR (n:Nat):(madeCells (ab 0).cells (n*1)).toList=KO (List.replicate n 0):=by
 rw[yG];exact(toList_madeCells_one _ _).trans (by simp[KO])
def AW:Pt->Bool
 | .tok _=>false
 | .zi _=>true
def AV:Pt->Nat
 | .tok t=>t
 | .zi n=>n
def D1 (w:World) (n₀:Nat) (v:Value) (ps:List Pt):Prop:=
 ∃ad cap,v=.slice ad ps.length cap/\ps.length<=cap/\(0<ps.length->∃g off,ad=some (af g off)/\g<n₀/\∀i p,ps[i]?=some p->w.cell? (af g (off+i*2))=some (.bool (AW p))/\w.cell? (af g (off+i*2+1))=some (ab (AV p)))
theorem D1.below {v:Value}{ps:List Pt} (h:D1 w n₀ v ps) (hb:Below n₀ w w'):D1 w' n₀ v ps:=by
 obtain⟨ad,cap,h1,h2,h3⟩:=h;refine⟨ad,cap,h1,h2,λh0=>?_⟩;obtain⟨g,off,h4,h5,h6⟩:=h3 h0;exact⟨g,off,h4,h5,λi p hp=>⟨(hb.cell Lb).trans (h6 i p hp).1,(hb.cell Lb).trans (h6 i p hp).2⟩⟩
abbrev Nm:=ByteArray × List (List Pt)
def RW (w:World) (n₀:Nat) (v:Value) (rs:List (List Pt)):Prop:=
 ∃g cap,v=ae g rs.length cap/\g<n₀/\rs.length<=cap/\∀r ps,rs[r]?=some ps->∃p,w.cell? (af g r)=some p/\D1 w n₀ p ps
theorem RW.below {v:Value}{rs:List (List Pt)} (h:RW w n₀ v rs) (hb:Below n₀ w w'):RW w' n₀ v rs:=by
 obtain⟨g,cap,h1,h2,h3,h4⟩:=h;refine⟨g,cap,h1,h2,h3,λr ps hr=>?_⟩;obtain⟨p,h5,h6⟩:=h4 r ps hr;exact⟨p,(hb.cell Vs).trans h5,h6.below hb⟩
structure Cz (w:World) (n₀:Nat) (N:NG) (zy:List ByteArray) (pg:List Nm) (yZ:Option Addr) (yT gN yQ:Nat):Prop where
 ok:N.Ok
 Dm:N.nN<=20
 Ch:N.nT<=20
 Nh:N.rules.length<=60
 lT:N.nT<=yT
 lN:N.nN<=yQ
 twl:zy.length=N.nT
 Tu:pg.length=N.nN
 hgN:gN<n₀
 rules:N.rules=pg.zipIdx.flatMap λx=>x.1.2.map λps=>(x.2,ps)
 toks:∀t,t<N.nT->∃gT,yZ=some (af gT 0)/\gT<n₀/\w.cell? (af gT (t*4))=some (.string (nth zy t))/\w.cell? (af gT (t*4+1))=some (ab (N.put t))
 Zb:∀t,t<N.nT->∃gT gs cs,yZ=some (af gT 0)/\gT<n₀/\w.cell? (af gT (t*4+2))=some (ab (N.drop t))/\w.cell? (af gT (t*4+3))=some (ae gs N.nT cs)/\gs<n₀/\N.nT<=cs/\∀u,u<N.nT->w.cell? (af gs u)=some (ab (N.swp t u))
 names:∀n nm,pg[n]?=some nm->w.cell? (af gN (n*2))=some (.string nm.1)/\∃v,w.cell? (af gN (n*2+1))=some v/\RW w n₀ v nm.2
theorem Cz.below {zy:List ByteArray}{pg:List Nm}{yZ:Option Addr}{yT gN yQ:Nat} (h:Cz w n₀ N zy pg yZ yT gN yQ) (hb:Below n₀ w w'):Cz w' n₀ N zy pg yZ yT gN yQ where
 ok:=h.ok
 Dm:=h.Dm
 Ch:=h.Ch
 Nh:=h.Nh
 lT:=h.lT
 lN:=h.lN
 twl:=h.twl
 Tu:=h.Tu
 hgN:=h.hgN
 rules:=h.rules
 toks:=λt ht=>by
  obtain⟨gT,h1,h2,h3,h4⟩:=h.toks t ht;exact⟨gT,h1,h2,(hb.cell Vs).trans h3,(hb.cell Vs).trans h4⟩
 Zb:=λt ht=>by
  obtain⟨gT,gs,cs,h1,h2,h3,h4,h5,h6,h7⟩:=h.Zb t ht;exact⟨gT,gs,cs,h1,h2,(hb.cell Vs).trans h3,(hb.cell Vs).trans h4,h5,h6,λu hu=>(hb.cell Lb).trans (h7 u hu)⟩
 names:=λn nm hn=>by
  obtain⟨h1,v,h2,h3⟩:=h.names n nm hn;exact⟨(hb.cell (by exact h.hgN)).trans h1,v,(hb.cell (by exact h.hgN)).trans h2,h3.below hb⟩
def DX (k:List Fa):List Value:=k.flatMap λa=>[ab a.least,.bool a.reached,.int .u32 a.first,.int .u32 a.follow]
theorem QL {α:Type} (f:α->List Value) (hf:∀a,(f a).length=4):∀(l:List α) (i:Nat) (a:α) (j:Nat),l[i]?=some a->j<4->(l.flatMap f)[i*4+j]?=(f a)[j]?:=by
 intro l
 induction l with
 |nil=>intro i a j h;simp at h
 |cons x r ih=>
  intro i a j h hj;rw[ij]
  match i with
  |0=>
   simp at h;subst h;rw[aL abj]
   congr 1;omega
  |i+1=>
   simp at h;rw[Bc abj,hf];rw[<-ih i a j h hj]
   congr 1;omega
def zY (w:World) (kb n:Nat) (k:List Fa):Prop:=k.length=n/\w.ownsRow kb 216 4 (ae kb n n) n (DX k)
theorem zY.cells {k:List Fa} (h:zY w kb n k) {i:Nat}{a:Fa} (ha:k[i]?=some a):
  w.cell? (af kb (i*4))=some (ab a.least)/\w.cell? (af kb (i*4+1))=some (.bool a.reached)/\w.cell? (af kb (i*4+2))=some (.int .u32 a.first)/\w.cell? (af kb (i*4+3))=some (.int .u32 a.follow):=by
 have hi:=(zM.1 ha).1;have hl:=h.1;have h4:=λj hj=>QL (λa:Fa=>[ab a.least,.bool a.reached,.int .u32 a.first,.int .u32 a.follow]) (λ_=>rfl) k i a j ha hj
 refine⟨?_,?_,?_,?_⟩
 ·rw[h.2.cellAt _ (by omega)];exact h4 0 (by omega)
 ·rw[h.2.cellAt _ (by omega)];exact h4 1 (by omega)
 ·rw[h.2.cellAt _ (by omega)];exact h4 2 (by omega)
 ·rw[h.2.cellAt _ (by omega)];exact h4 3 (by omega)
theorem zY.free {k:List Fa} (h:zY w kb n k) (j:Nat):w.frozen? (af kb j)=false:=h.2.frozenAt j
theorem zY.lt {k:List Fa} (h:zY w kb n k):kb<w.heap.size:=(h.2.lt kb rfl).2
theorem zY.keeps {k:List Fa}{S:List Nat} (h:zY w kb n k) (hk:A5 w w' S) (hS:kb∉S):zY w' kb n k:=⟨h.1,AC h.2 hk (λg hg=>by simp[Value.ownBlock]at hg;subst hg;exact hS)⟩
theorem OY (f:Fa->Fa) (j:Nat) (hj:j<4) (u:Value):∀(k:List Fa) (i:Nat),(∀a,k[i]?=some a->[ab (f a).least,.bool (f a).reached,.int .u32 (f a).first,.int .u32 (f a).follow]=[ab a.least,.bool a.reached,.int .u32 a.first,.int .u32 a.follow].set j u)->
  i<k.length->DX (k.modify i f)=(DX k).set (i*4+j) u
 | [],i,_,h=>by simp at h
 |b::r,0,h,_=>by
  have h1:=h b rfl;unfold DX;simp only[List.modify_zero_cons,ij];rw[h1,yy,ju,List.set_append_left _ _ (by simpa using hj)]
 |b::r,i+1,h,hl=>by
  have h1:=OY f j hj u r i (λa ha=>h a (by simpa using ha)) (by simpa using hl);unfold DX at h1 ⊢;simp only[List.modify_succ_cons,ij];rw[h1,vp _ _ zG]
  congr 2
  simp;omega
theorem zY.put {k:List Fa} (h:zY w kb n k) {i:Nat} (hi:i<n) (f:Fa->Fa) (j:Nat) (hj:j<4) (u:Value)
  (hf:∀a,k[i]?=some a->[ab (f a).least,.bool (f a).reached,.int .u32 (f a).first,.int .u32 (f a).follow]=[ab a.least,.bool a.reached,.int .u32 a.first,.int .u32 a.follow].set j u):
  zY (w.setCell (af kb (i*4+j)) u) kb n (k.modify i f)/\A5 w (w.setCell (af kb (i*4+j)) u) [kb]:=by
 refine⟨⟨by rw[tq];exact h.1,?_⟩,(A5.refl w [kb]).setCell (by simp) _⟩;rw[OY f j hj u k i hf (by rw[h.1];exact hi)];exact(h.2.stored (i*4+j) u).1
end Go.Proofs.YtjjggdcnpndgjaaGreatDoor
